import PyProof.Rows.All
import Wide.All
import OpenK.AllK
import Wide.FinOn
import Lean
import PyProof.EqAt
import PyProof.EqKinds
import PyProof.TupleCall
import PyProof.P3In
import PyProof.ReprRoads
import PyProof.MaxThree
import PyProof.Rows.SetFrom
import PyProof.SetRoads
import PyProof.Rows.TupDisplay
import PySem.SetTable
import PyProof.TupleKey
import PyProof.SetKind
import PyProof.IsRules
import KE.KSortTup
import PyProof.FactsAll.set_1
import KE.KDictList
import PyProof.ReprLen
import PyProof.ReprRoads
import PyProof.ListMulRoad
import PyProof.FactsAll.tuple
import PyProof.CallStr
import PyProof.StrCalls2
import PyProof.StrLawsJoin
import PyProof.ReprLen
import PyProof.ReprRoads
import PyProof.StrLawsTight
import PyProof.StrLawsJoin
import PyProof.StrCalls3
import PyProof.StrLoop
import PyProof.StrWalks
import PyProof.FString
import PyProof.Conv_int
import PyProof.Rows.StrLawsPart
import PyProof.Rows.StrFirst
import PyProof.StrCalls5
import PyProof.StrCalls
import PyProof.SliceStr2
import PyProof.StrLawsIdx
import PyProof.ReprLen
import PyProof.ReprRoads
import PyProof.StrBlock2
import PyProof.StrCalls6
import PyProof.StrCalls
import KE.KRevSl
import PyProof.Rows.CountFlat
import PySem.Challenge.RW_glowflock_k58_texts_refused
set_option compiler.extract_closed false
set_option Elab.async false
set_option linter.all false
set_option maxRecDepth 100000
open Array renaming all_toList->Vd,append_assoc->Qo,foldl->u7,forIn_toList->Xm,getD->uo,getD_eq_getD_getElem?->wL,getElem?_eq_getElem->vw,getElem?_eq_none->qM,getElem?_eq_some_iff->vZ,getElem?_toList->vK,length_toList->wG,perm_iff_toList_perm->QM,replicate->uq,size_map->uB,toList->uV,toList_append->x6,toList_inj->Wp
open Bool renaming and_eq_true->wD,and_eq_true_iff->xO,and_false->We,and_true->xW,beq_eq_decide_eq->qT,eq_iff_iff->WP,false_and->vi,false_eq_true->w8,false_ne_true->vG,false_or->xX,not_eq_true'->Vo,not_false->qC,not_true->W9,or_eq_true->qp,or_false->uJ,or_self->Q9,or_true->Qb,true_and->wP
open Classical renaming byContradiction->Vv
open False renaming elim->WX
open Int renaming dvd_trans->uM,emod_lt_of_pos->QE,emod_nonneg->xx,gcd->Wb,gcd_dvd_left->qQ,gcd_dvd_right->Xx,gcd_pos_of_ne_zero_right->Qh,mul_ediv_cancel_left->Q3,natAbs_ediv_le_natAbs->QX,natAbs_natCast->Xr,natCast_ediv->Q4,natCast_mul->xq,toNat_natCast->V4
open List renaming Pairwise->uK,all_append->xz,all_cons->WI,all_eq_true->wv,all_map->vW,all_nil->xg,append_assoc->V5,append_nil->WC,dropWhile->Qk,dropWhile_cons->x8,drop_succ_cons->Qf,drop_zero->uz,eq_nil_of_length_eq_zero->V3,ext_getElem->vF,filter->XU,filterMap_cons->VL,flatten_cons->W7,foldl->ue,foldl_append->XG,foldl_cons->uf,forIn_cons->xr,forIn_nil->uA,getD_eq_getElem?_getD->wf,getElem?_append_left->Wr,getElem?_append_right->Wk,getElem?_cons_succ->qE,getElem?_cons_zero->xi,getElem?_eq_getElem->wb,getElem?_eq_none->Wh,getElem?_eq_some_iff->wX,getElem?_map->wB,getElem?_set_ne->qU,getElem?_set_self->xA,getElem?_take_of_lt->Q2,getElem?_toArray->xI,getElem_inj->Q1,getElem_map->vt,getElem_mem->vn,getElem_of_mem->Wg,getElem_range->Qv,getElem_toArray->xS,headD_cons->xy,isEmpty_cons->qI,length_append->vQ,length_cons->wW,length_drop->qP,length_erase_of_mem->Q8,length_filter_le->xN,length_map->wm,length_nil->WD,length_pos_of_mem->xE,length_range->WO,length_reverse->Xb,length_set->xn,length_singleton->V9,length_tail->qf,length_take->VB,lookup_cons->qd,map->uZ,map_append->Wo,map_congr_left->VM,map_cons->wU,map_drop->uR,map_eq_nil_iff->Xc,map_id->XS,map_map->Wu,map_nil->WG,map_replicate->Xs,map_take->uQ,mem_append->Wf,mem_append_left->Wl,mem_append_right->vv,mem_cons->wO,mem_cons_of_mem->wI,mem_cons_self->vc,mem_erase_of_ne->xU,mem_filter->qm,mem_filterMap->VS,mem_iff_getElem->Qc,mem_iff_getElem?->xF,mem_map->vg,mem_of_getElem?->vz,mem_of_mem_erase->xM,mem_range->vy,mem_replicate->Xu,mem_singleton->vx,nil_append->xo,nodup_cons->Vi,nodup_nil->uC,nodup_range->X6,not_mem_nil->WH,of_mem_zip->xm,pairwise_cons->Xo,pairwise_iff_getElem->QY,pairwise_map->XF,pairwise_singleton->xj,perm_ext_iff_of_nodup->QL,range->vf,replicate->w6,replicate_succ->WB,reverse_cons->QR,set_cons_succ->QC,set_cons_zero->QD,size_toArray->wN,tail->QG,tail_cons->Qi,take_add_one->XJ,take_length->Q5,take_of_length_le->qN,take_succ_cons->x5,toArray->Qa,zipIdx_cons->X0,zipIdx_nil->uk,zip_cons_cons->Qp
open List.Pairwise renaming imp_of_mem->uY
open List.cons renaming inj->qh
open Nat renaming add_mul->XN,add_sub_cancel->Qt,div_div_eq_div_mul->xD,eq_or_lt_of_le->W4,gcd_dvd_right->Xw,le_add_right->Vc,le_of_lt->qr,le_of_lt_succ->Vp,le_refl->wx,le_trans->vd,lt_irrefl->WW,lt_of_le_of_lt->Qr,lt_of_lt_of_le->ve,lt_or_ge->w9,lt_succ_of_lt->Vn,lt_trans->Xg,lt_trichotomy->QU,min_le_right->XV,mod_lt->xT,mod_mul->xC,mul_add->XQ,mul_assoc->WZ,mul_comm->qu,mul_le_mul->Ql,mul_left_comm->XD,mul_mod->XR,ne_of_gt->vO,ne_of_lt->wZ,not_lt_zero->Wn,one_mul->XO,pow_add->XM,pow_le_pow_right->Vu,pow_succ->W5,reduceAdd->QN,reduceEqDiff->qR,strongRecOn->VT,sub_self->qW,succ_pos->qV,zero_le->vM
open Nat.succ renaming inj->Xv
open Ne renaming symm->qi
open Option renaming bind_eq_bind->qk,bind_some->VF,getD_none->XW,getD_some->XZ,isSome->qg,isSome_iff_exists->VA,map->u8,map_eq_some_iff->vA,map_some->ui
open Option.some renaming inj->vo,injEq->qG
open Prod renaming ext->Q0
open Prod.mk renaming injEq->uG
open PyProof.Rows renaming AllBare->VP,IntsAre->WT,callWith_type1->qb,seqObj->vH,slot_tuple_getitem->VN
open PyProof.Rows.F renaming entry_set_update_loop->qx,plain_set_update_loop->Ve
open PyProof.Rows.IsTup renaming new->Qq
open PySem renaming Addr->wd,Around->vm,Ctx->uF,Fin->Xn,FuncData->wS,Heap->wK,IsPair->WV,IsTupleKey->vD,NameKind->W0,Program->wV,PyData->wu,SetTable->Wq,Shared->wo,Stmt->vq,Str->wn,Value->wg,World->wR,backTo->Vr,binaryOp->vT,bootBuiltins->vR,call->uh,call_meets->VX,codeAny->VQ,codeAny_builtin->W6,compareOp->wQ,foldedSetIterable->V7,letOwnedTupleGo->VW,mainGlobals->wJ,mem_of_lookup->Va,noteFrame->Vx,ofAClassStatement->V8,passOn->u4,sizeLine->wC,sizeLine_eq->vB,sliceBounds->qj,starEach->w5,tupleKeyHash->vk,typeIs_str->Vw,wpAny->wA,wpAny_Call_Name_kw->qz,wpAny_bind->wj,wpAny_call_entry->VJ,wpAny_comprehension_free->qA,wpAny_execs_nil->qq,wpAny_field->vI,wpAny_holding->Wa,wpAny_mono->vU,wpAny_newObj_type->Wz,wpAny_passesOwn->Vk,wpAny_pure->wz,wpAny_pyIter_list->W8,wpAny_pyIter_tuple->Vf,wpAny_seqItems->WN,wpAny_setField->Vz,wpAny_setField_rec->Vg,wpAny_setState_of->Vs,wpAny_truthy_bool->Wt
open PySem.Around renaming under->uW,under_plainId->WL
open PySem.Builtin.Frozenset renaming newClass->uS,updateFrom->uD
open PySem.Builtin.Int renaming intBits->xY
open PySem.Builtin.List renaming listExtendWith->Qw,listTooLong->qt
open PySem.Builtin.Range renaming rangeSize->u5
open PySem.Builtin.Slice renaming sliceAdjust->qo,sliceApplied->QJ,sliceFields->uU,slicePartIndex->uu,slicePlaces->Vt
open PySem.Builtin.SmallTypes renaming nextOf->Wc,ownedTupleHandOut->qw,ownedTupleIsFree->WK
open PySem.Builtin.Str renaming occurrences->vE,partsBetween->xc,strKind->Xa,strSliceIndices->XT,tooLong->ql
open PySem.Builtin.Tuple renaming tupleCompareSizes->uc,tupleExact->VE,tupleItemsOf->uI
open PySem.Calls renaming Constant_str->W1,Name_function_global->QI,callWith_builtin->VY,evalArgs_plain->qc,spliced_cons->WF,spliced_nil->QQ
open PySem.Challenge renaming pw_glowflock_k58_texts_refused->VO,rw_glowflock_k58_texts_refused->wF
open PySem.Code renaming isGuard->uX
open PySem.EntryCells renaming newEntry->xZ
open PySem.F renaming args_object_init_3->qY,args_str_split_2->Qx,args_tuple_add_2->qs,args_tuple_iterator_next_1->Qj,args_zip_next_1->XC,attrBase_ValueError->Qs,called_set->VH,called_zip->Xk,entry_all_loop->X8,entry_str_split->QW,entry_tuple_add->qD,entry_tuple_iterator_next->Qu,entry_zip_new->xu,entry_zip_next->X1,excBase_ValueError->xQ,newCall_zip_2->xt,plainAttrs_list->qF,plainAttrs_str->X9,plainAttrs_str->va,plain_all_loop->qS,plain_list_iadd->xk,plain_set_new->ur,slot_int_rmul->ug,slot_list_count->xl,slot_list_index->xh,slot_str_join->vX,slot_str_replace->Qy,slot_str_split->Wx,slot_str_split->xb,slot_tuple_add->qJ,slot_tuple_iterator_next->Vm,slot_zip_next->qX,typeCall_zip_2->Q7,type_str_join->vY,type_str_replace->Xq,type_str_split->Wy
open PySem.Heap renaming IsTuple->Q6,MadeExcOf->uw,SameBut->vN,get?_push_of_some->wk,get?_push_size->wE,get?_update_other->qK,get?_update_self->W2,lt_size->wH,size_push->vS,update->VZ
open PySem.Heap.IsSliceOf renaming new->Xi
open PySem.Heap.SameBut renaming update->Ws
open PySem.IntMulOk renaming of_left->ua,of_right->XH
open PySem.Meets renaming of_wp->u6
open PySem.Obj renaming cls_mapFields->XB,data_mapFields->W3,isFreed_of_fields->Vj,mapFields->Vl,mapSeq->vC,putSet->QZ
open PySem.Paired renaming length->uH
open PySem.PassesOwn renaming never->xw
open PySem.PyData renaming canLay0->Wd,canLayAll0->V6,depth->VG,depthAll->qZ,eqv->Wm,eqvAll->qO,strOk->vJ
open PySem.SeqAt renaming EqAt->ud,canLay_of_shaped->Vb,shaped->vV
open PySem.SeqAt.EqAt renaming int_int->Xh,int_str->Xd,str_int->Xe
open PySem.SetTable renaming below->Ww,fill->uP,grown->xK,has->Xl,insertAt->Wj,laid->uO,layClean->XE,sizeAbove->VU,turns->xJ
open PySem.SetTable.below renaming go->qH
open PySem.SetTable.layClean renaming free->WU
open PySem.SetTable.probe renaming go->QV
open PySem.SetTable.sizeAbove renaming go->Wi
open PySem.Shared renaming heap->qL
open PySem.Str renaming empty->Qd,empty->xv,ext'->V1,join->qy,join->vb,length->ub,ofString->VD,ofString->wq,ofString_eq_toList->V0
open PySem.StrLaws renaming join_split->VI,occ_head->xf,occ_length_le->xL,partsBetween_eq->ut,partsFrom_ne->uT,sliceText->Vq,split_free->u3,subAt_one->XI
open PySem.Txt renaming mul->Qm,partition->Wv,split->wM,startswith->vP,upper->Qz
open PySem.Unicode renaming numberText->Xp
open PySem.Value renaming isInt->Qn
open PySem.Value.type renaming inj->uE
open PySem.W renaming Frag->wa,InstAt->xH,Looks->QK,OpenLaw->xp,WalkO->uL,callWith_K->Xf,cellsFrom_some->xB,clsIn->xV,codeIn->Qg,excIn->WJ,exmOne->WM,findIn->xG,findObj->uj,fnOf->VC,hideAll->Vh,hideAll_get->Qe,hideAll_none->xP,keepIn->Vy,kia_one->WQ,kia_tup->WR,kitAny->qa,kitOne->wt,kitx_bool->Xz,kitx_dict->QT,kitx_int->XX,kitx_list->XA,kitx_none->Xy,kitx_str->XY,kitx_tuple->Xj,looks_findIn->xR,methodObj->QP,mg_none_of->vL,mg_of->vj,mroIn->uN,nsIn->wY,of_hideAll->VR
open PySem.W.Looks renaming ld->u9
open PySem.Walks renaming list->um
open Rat renaming divInt->WY,not_lt->qB,num_divInt_den->QF,num_nonneg->uv
open ToString renaming toString->V2
namespace GH
open PySem PySem.W PyProof.Rows
noncomputable def pZ (p:wV) (w:wR) (m:Nat) (an:Option wg) (N:Nat) (s0:wo):Option wo :=
 Option.bind (Fast.tw14082659384304107361 Fast.tw14364793385576792824 p w m an N s0 (topStub p)) λs1=>match staticsOk (Fast.tw5923862056798008813 p.main.body) s0.heap s1.heap&&namesBound p s1.heap&&gensDone s1&&laidKept s0.heap s1.heap with | true=>some s1 | false=>none
noncomputable def fG (w:wR) (os:OsState):wo:=⟨boot_heap w.params,#[],boot_drawn,boot_toks,os⟩
theorem U2{p q:wV}{loose:List Str}{Xt:wo->Bool}{A:Type}{Yf:wo->A}{Ya:wR->A}{N:Nat}(e:opening p=plainProg p.main.scope.names)(hN:Nat.ble 600 N=true)(f:∀s,fenceModules? p s=some s){m:Nat}{an:Option wg}
  (size:∀w:wR,((boot_heap w.params).isNs wJ,(boot_heap w.params).objs.size,(boot_heap w.params).nsMap wJ "__annotations__")=(true,m,an))
  (h:∀w:wR,(λos=>(pZ p w m an N (fG w os)).map (λs=>(Fast.tw4187177175401517315 q loose (Fast.tw5923862056798008813 p.main.body) Xt true s,Yf s)))=λ_=>some (openGood q loose,Ya w)):LeftO p q loose Xt Yf Ya N:=λw=>by
 obtain⟨⟨h',gs,d,k,os⟩,e',e2⟩:=vA.mp (boot_open e hN f (w:=w));obtain⟨rfl,rfl,rfl,rfl⟩:h'=boot_heap w.params/\gs = #[]/\d=boot_drawn/\k=boot_toks:=by simpa using e2
 obtain⟨z1,z2,z3⟩:_/\_/\_:=by simpa only[uG] using size w
 have r:=congrFun (h w) os;unfold openEnds;rw[e']
 show u8 _ (topFrom treeTable p w N _)=_
 rw[<- r];unfold topFrom pZ fG;rw[<- Fast.te14082659384304107361,<- Fast.te14364793385576792824,<- Fast.te5923862056798008813,<- Fast.te4187177175401517315];dsimp only;rw[z1,z2,z3]
 rfl
noncomputable def iW (p:wV) (w:wR) (m:Nat) (an:Option wg) (N:Nat) (s0:wo):Option wo:=Fast.tw14082659384304107361 Fast.tw14364793385576792824 p w m an N s0 (topStub p)
noncomputable def zG (p:wV) (w:wR) (m:Nat) (an:Option wg) (N:Nat) (os:OsState):Option Bool:=(iW p w m an N (fG w os)).map λs1=>staticsOk (Fast.tw5923862056798008813 p.main.body) (fG w os).heap s1.heap&&namesBound p s1.heap&&gensDone s1&&laidKept (fG w os).heap s1.heap
theorem Nh{p q:wV}{loose:List Str}{Xt:wo->Bool}{A:Type}{Yf:wo->A}{Ya:wR->A}{N:Nat}(e:opening p=plainProg p.main.scope.names)(hN:Nat.ble 600 N=true)(f:∀s,fenceModules? p s=some s){m:Nat}{an:Option wg}
  (size:∀w:wR,((boot_heap w.params).isNs wJ,(boot_heap w.params).objs.size,(boot_heap w.params).nsMap wJ "__annotations__")=(true,m,an))
  (hA:∀w:wR,(λos=>zG p w m an N os)=λ_=>some true)
  (hB0:∀w:wR,(λos=>(iW p w m an N (fG w os)).map (λs=>((Fast.tw4187177175401517315 q loose (Fast.tw5923862056798008813 p.main.body) Xt true s).1,(Fast.tw4187177175401517315 q loose (Fast.tw5923862056798008813 p.main.body) Xt true s).2.1)))=λ_=>some (expectedOf q,bltViewBooted))
  (hB1:∀w:wR,(λos=>(iW p w m an N (fG w os)).map (λs=>((Fast.tw4187177175401517315 q loose (Fast.tw5923862056798008813 p.main.body) Xt true s).2.2.1,(Fast.tw4187177175401517315 q loose (Fast.tw5923862056798008813 p.main.body) Xt true s).2.2.2.1)))=λ_=>some (true,true))
  (hB2:∀w:wR,(λos=>(iW p w m an N (fG w os)).map (λs=>(Fast.tw4187177175401517315 q loose (Fast.tw5923862056798008813 p.main.body) Xt true s).2.2.2.2))=λ_=>some (pinGoodD (drecsOf q),plainGoodE q (looseW q loose),plainGoodD q loose,wideGood q,clsGoodW q loose))
  (hC:∀w:wR,(λos=>(iW p w m an N (fG w os)).map (λs=>Yf s))=λ_=>some (Ya w)):LeftO p q loose Xt Yf Ya N:=by
 refine U2 e hN f size λw=>?_
 funext os
 have h1:=congrFun (hA w) os;unfold zG at h1;obtain⟨s1,e1,e2⟩:=vA.mp h1;have g0:=congrFun (hB0 w) os;have g1:=congrFun (hB1 w) os;have g2:=congrFun (hB2 w) os;have k:=congrFun (hC w) os;rw[e1]at g0 g1 g2 k;have g0:=vo g0;have g1:=vo g1;have g2:=vo g2;have a0:=congrArg Prod.fst g0;have b0:=congrArg Prod.snd g0;have a1:=congrArg Prod.fst g1;have b1:=congrArg Prod.snd g1;have g:Fast.tw4187177175401517315 q loose (Fast.tw5923862056798008813 p.main.body) Xt true s1=openGood q loose:=Q0 a0 (Q0 b0 (Q0 a1 (Q0 b1 g2)));have k:=vo k
 have ez:pZ p w m an N (fG w os)=some s1:=by
  unfold pZ;unfold iW at e1;rw[e1]
  show(match _ with | true=>some s1 | false=>none)=some s1
  rw[e2]
 rw[ez];exact congrArg some (Q0 g k)
def qv:wV:=view VO [1,2,3,4,5,6,7,8,9,10,12,13,14,15,16,17,18,19,21,22,23,24,25,26,27,29,30,31,32,33,34,36,37,38,39,40,41,43,44,45,46,47,48,49,50,51,52,53,54,56,57,58,59,60,61,62,63,64,65,66,67,68,69,70,71,72,74,75,76,77,78,79,80,81,82,83,84]
theorem Ft:wF.wellSaid=true:=by kernel_rfl
theorem size(w:wR):((boot_heap w.params).isNs wJ,(boot_heap w.params).objs.size,(boot_heap w.params).nsMap wJ "__annotations__")=(true,11,some (.ref 6)):=by kernel_rfl
theorem N0(w:wR):(λos=>zG wF.row.prog w 11 (some (.ref 6)) 7684 os)=λ_=>some true:=by kernel_rfl
theorem NR(w:wR):(λos=>(iW wF.row.prog w 11 (some (.ref 6)) 7684 (fG w os)).map (λs=>((Fast.tw4187177175401517315 qv [] (Fast.tw5923862056798008813 wF.row.prog.main.body) (λs=>xlAt GH.qv [] s&&recOk (RowW.records (OpenRow.toRowW (OpenLaw.row wF))) s) true s).1,(Fast.tw4187177175401517315 qv [] (Fast.tw5923862056798008813 wF.row.prog.main.body) (λs=>xlAt GH.qv [] s&&recOk (RowW.records (OpenRow.toRowW (OpenLaw.row wF))) s) true s).2.1)))=λ_=>some (expectedOf qv,bltViewBooted):=by kernel_rfl
theorem NP(w:wR):(λos=>(iW wF.row.prog w 11 (some (.ref 6)) 7684 (fG w os)).map (λs=>((Fast.tw4187177175401517315 qv [] (Fast.tw5923862056798008813 wF.row.prog.main.body) (λs=>xlAt GH.qv [] s&&recOk (RowW.records (OpenRow.toRowW (OpenLaw.row wF))) s) true s).2.2.1,(Fast.tw4187177175401517315 qv [] (Fast.tw5923862056798008813 wF.row.prog.main.body) (λs=>xlAt GH.qv [] s&&recOk (RowW.records (OpenRow.toRowW (OpenLaw.row wF))) s) true s).2.2.2.1)))=λ_=>some (true,true):=by kernel_rfl
theorem NW(w:wR):(λos=>(iW wF.row.prog w 11 (some (.ref 6)) 7684 (fG w os)).map (λs=>(Fast.tw4187177175401517315 qv [] (Fast.tw5923862056798008813 wF.row.prog.main.body) (λs=>xlAt GH.qv [] s&&recOk (RowW.records (OpenRow.toRowW (OpenLaw.row wF))) s) true s).2.2.2.2))=λ_=>some (pinGoodD (drecsOf qv),plainGoodE qv (looseW qv []),plainGoodD qv [],wideGood qv,clsGoodW qv []):=by kernel_rfl
local macro_rules | `(tactic| o_head $H)=>`(tactic| (refine holds_open (q:=GH.qv) (loose:=[]) (Xt:=λ s=>xlAt GH.qv [] s && recOk (RowW.records (OpenRow.toRowW (OpenLaw.row wF))) s) (XP:=XL GH.qv []) (Yf:=Hook.obs $H) (Ya:=Hook.val $H) (YP:=Hook.says $H) (N:=7684) ?hl (Hook.of $H) (Hook.keeps $H) (λ s e=>xl_of s (xO.mp e).1) XL.keeps (by rfl) (by rfl) (by rfl) (λ s e=>recFacts_of (xO.mp e).2) (by rfl) (by first | assumption | decide +kernel) (by decide +kernel) ⟨rfl,rfl,rfl,rfl,rfl,by decide +kernel⟩ ?hw ?hc; (case hl=>refine GH.Nh (by kernel_rfl) rfl (λ s=>by kernel_rfl) GH.size GH.N0 GH.NR GH.NP GH.NW ?_; intro w; kernel_rfl)))
local macro_rules | `(tactic| o_law)=>`(tactic| refine holds_law GH.Ft λ Ft=>?_)
set_option maxHeartbeats 0
open_top head for wF
end GH
set_option maxHeartbeats 4000000
namespace L2
open PySem PySem.Spec PyProof.Rows
abbrev Key:=Sum Int Str
def KW:Key->wg->Bool
 | .inl k,v=>Qn k v
 | .inr x,v=>Value.isStrOf x v
def zzW(w:wR):Key->Int
 | .inl k=>hashInt k
 | .inr x=>hashStr w x
theorem ja:∀{k:Key}{v:wg},KW k v=true->(∃i t,k=Sum.inl i/\v=Value.int i t)\/(∃x t,k=Sum.inr x/\v=Value.str x t)
 | .inl i,v,h=>by
  obtain⟨t,e⟩:=Value.isInt_shape (k:=i) (v:=v) h;exact .inl ⟨i,t,rfl,e⟩
 | .inr x,v,h=>by
  obtain⟨t,e⟩:=Value.isStrOf_shape (x:=x) (v:=v) h;exact .inr ⟨x,t,rfl,e⟩
theorem OH(a b:Int):decide ((Sum.inl a:Key)=Sum.inl b)=(a == b):=by
 by_cases e:a=b
 ·subst e;simp
 ·have h:¬ (Sum.inl a:Key)=Sum.inl b:=λq=>e (Sum.inl.inj q)
  rw[decide_eq_false h];exact(beq_eq_false_iff_ne.mpr e).symm
theorem zw7(a b:Str):decide ((Sum.inr a:Key)=Sum.inr b)=decide (a=b):=by
 by_cases e:a=b
 ·subst e;simp
 ·have h:¬ (Sum.inr a:Key)=Sum.inr b:=λq=>e (Sum.inr.inj q)
  rw[decide_eq_false h,decide_eq_false e]
theorem N5(a:Int)(b:Str):decide ((Sum.inl a:Key)=Sum.inr b)=false:=decide_eq_false (λq=>nomatch q)
theorem Og(a:Str)(b:Int):decide ((Sum.inr a:Key)=Sum.inl b)=false:=decide_eq_false (λq=>nomatch q)
def BJ(prog:wV)(w:wR):PySem.KeyKind prog w Key where
 is:=KW
 hash:=zzW w
 inj:=λv a b ha hb=>by
  rcases ja ha with⟨i,t,rfl,rfl⟩ | ⟨x,t,rfl,rfl⟩
  ·rcases ja hb with⟨j,u,rfl,e⟩ | ⟨y,u,rfl,e⟩
   ·injection e with e1 _;rw[e1]
   ·exact nomatch e
  ·rcases ja hb with⟨j,u,rfl,e⟩ | ⟨y,u,rfl,e⟩
   ·exact nomatch e
   ·injection e with e1 _;rw[e1]
 byValue:=λk v h=>by
  rcases ja h with⟨i,t,rfl,rfl⟩ | ⟨x,t,rfl,rfl⟩<;>rfl
 pyHash:=λhv h=>by
  rcases ja hv with⟨i,t,rfl,rfl⟩ | ⟨x,t,rfl,rfl⟩
  ·exact wpAny_pyHash_int h
  ·exact wpAny_pyHash_str h
 eqBool:=λhu hv h=>by
  rcases ja hu with⟨i,t,rfl,rfl⟩ | ⟨x,t,rfl,rfl⟩
  ·rcases ja hv with⟨j,u,rfl,rfl⟩ | ⟨y,u,rfl,rfl⟩
   ·rw[OH]at h;exact wpAny_eqBool_int h
   ·rw[N5]at h;exact Xd i t y u _ _ _ _ h
  ·rcases ja hv with⟨j,u,rfl,rfl⟩ | ⟨y,u,rfl,rfl⟩
   ·rw[Og]at h;exact Xe x t j u _ _ _ _ h
   ·rw[zw7]at h;exact wpAny_eqBool_str h
 «strs»:=λk x t v h=>by
  rcases ja h with⟨i,u,rfl,e⟩ | ⟨y,u,rfl,e⟩
  ·exact nomatch e
  ·injection e with e1 _
   subst e1;cases v<;>rfl
inductive V where
 | bM | bl (b:Bool) | int (i:Int) | str (x:Str) | byt (b:Array UInt8) | flt (b:UInt64) | ref (a:wd) | ty (n:String)
 deriving DecidableEq
def aW:V->wg->Prop
 | .bM,u=>u=Value.none
 | .bl b,u=>u=Value.bool b
 | .int i,u=>∃t,u=Value.int i t
 | .str x,u=>∃t,u=Value.str x t
 | .byt b,u=>∃t,u=Value.bytes b t
 | .flt b,u=>∃t,u=Value.float b t
 | .ref a,u=>u=Value.ref a
 | .ty n,u=>u=Value.type n
abbrev aC:List V->List wg->Prop:=Paired aW
theorem aC.length{xs:List V}{us:List wg}(r:aC xs us):xs.length=us.length:=uH r
theorem aC.get:∀{xs:List V}{us:List wg}{i:Nat}{x:V},aC xs us->xs[i]? = some x->∃u,us[i]? = some u/\aW x u
 | _,_,_,_,.nil,e=>by simp at e
 | _,_,0,_,.cons r _,e=>by simp at e;subst e;exact⟨_,rfl,r⟩
 | _,_,i+1,x,.cons _ t,e=>by
  obtain⟨u,h1,h2⟩:=aC.get (i:=i) (x:=x) t (by simpa using e);exact⟨u,by simpa using h1,h2⟩
theorem aC.set{x:V}{u:wg}(r:aW x u):∀{xs:List V}{us:List wg}(i:Nat),aC xs us->aC (xs.set i x) (us.set i u)
 | _,_,_,.nil=>.nil
 | _,_,0,.cons _ t=>.cons r t
 | _,_,i+1,.cons q t=>.cons q (aC.set r i t)
theorem aC.append:∀{xs ys:List V}{us ws:List wg},aC xs us->aC ys ws->aC (xs++ys) (us++ws)
 | _,_,_,_,.nil,s=>s
 | _,_,_,_,.cons r t,s=>.cons r (aC.append t s)
theorem aC.take:∀{xs:List V}{us:List wg}(n:Nat),aC xs us->aC (xs.take n) (us.take n)
 | _,_,0,_=>.nil
 | _,_,_+1,.nil=>.nil
 | _,_,n+1,.cons r t=>.cons r (aC.take n t)
theorem aC.drop:∀{xs:List V}{us:List wg}(n:Nat),aC xs us->aC (xs.drop n) (us.drop n)
 | _,_,0,r=>r
 | _,_,_+1,.nil=>.nil
 | _,_,n+1,.cons _ t=>aC.drop n t
def LK:Option V->Option wg->Prop
 | some v,some u=>aW v u
 | none,none=>True
 | _,_=>False
def KV{κ : Type} : List (κ × V)->List (κ × wg)->Prop:=Paired λ(p : κ × V)(q : κ × wg)=>p.1=q.1/\aW p.2 q.2
def kV:Key->V
 | .inl i=>.int i
 | .inr x=>.str x
inductive HO where
 /-- a list -/
 | lst (xs:List V)
 /-- a tuple (never changes) -/
 | tup (xs:List V)
 /-- a dict whose keys are ints and texts;one whose keys are tuples of ints and texts (the empty one is both) -/
 | dK (kvs:List (Key × V)) | dT (kvs:List (List Key × V))
 /-- a set of ints: its members,its size -/
 | set (S:Int->Bool) (n:Nat)
 /-- an instance of the class at C,its dict at dx,its attributes -/
 | ins (C dx:wd) (fs:List (Str × V))
 /-- the dict of the instance at x -/
 | own (x:wd)
 /-- the dict of an exception -/
 | xd (fs:List (Str × V))
 /-- a bound method,f of x -/
 | met (f x:wd)
 /-- a range object lo,lo+1,.. below hi -/
 | sh (lo hi:Int)
 /-- a thing that is known to the object (the script;a dict while a loop walks it): read,never written while it is so -/
 | ft (o:Obj) (u:HO)
 /-- a code object's table -/
 | jJ (ps:Array wg)
 /-- any other thing,by what is true of its one object (a def of one's own: mm a S n:=HO.ext λh=>..) -/
 | ext (φ : wK->Prop)
abbrev Hp:=wd->Option HO
def upd(H:Hp)(a:wd)(o:HO):Hp:=λb=>if b=a then some o else H b
theorem cb{H:Hp}{a:wd}{o:HO} : upd H a o a=some o:=by unfold upd;rw[if_pos rfl]
theorem b9{H:Hp}{a b:wd}{o:HO}(h:b≠a):upd H a o b=H b:=by unfold upd;rw[if_neg h]
theorem Kb{H:Hp}{a b:wd}{o u:HO}(h:H a=some o)(h':H b=some u)(d:o≠u):a≠b:=by
 intro e;subst e;rw[h]at h';exact d (vo h')
theorem gN{H:Hp}{a b:wd}{o:HO}(h:H a=some o)(h':H b=none):a≠b:=by
 intro e;subst e;rw[h]at h';cases h'
section
variable(P:wV)(w:wR)
def cF(H:Hp)(h:wK)(a:wd):HO->Prop
 | .lst xs=>xs.length<=wC /\ ∃(its:List wg)(n:Nat),aC xs its/\h.get? a=some {cls:=.type "list",data:=.seq its.toArray n}
 | .tup xs=>xs.length<=wC /\ ∃its:List wg,aC xs its/\IsTup h a its.toArray
 | .dK kvs=>kvs.length<=wC/\(a == sysModules)=false /\ ∃vs,KV kvs vs/\h.DictOf (BJ P w) a vs
 | .dT kvs=>kvs.length<=wC/\(a == sysModules)=false /\ ∃xs:List (List Key × wd × wg),
     Paired (λ(p:List Key × V)(q:List Key × wd × wg)=>p.1=q.1/\H q.2.1=some (.tup (p.1.map kV))/\aW p.2 q.2.2) kvs xs /\
     ∃o es ep,h.get? a=some o/\o.ExactDict/\o.data=.dict es ep/\es.toList=xs.map (entryOfKey (tupleKind (BJ P w)))/\(xs.map (·.1)).Nodup
 | .set S n=>h.SetOf (intKind P w) a S n
 | .ins C dx fs=>H dx=some (.own a)/\fs.length<=1000/\dx≠a/\h.get? a=some (PySem.W.instObj C dx) /\
     ∃mA,h.Ns1 dx mA/\(∀f,LK (fs.lookup f) (mA f))/\PySem.Within mA (fs.map (·.1))
 | .own _=>∃o,h.get? a=some o
 | .xd fs=>∃mA,h.Ns1 a mA /\ ∀f,LK (fs.lookup f) (mA f)
 | .sh lo hi=>∃t u v,h.get? a=some {cls:=.type "range",data:=.fields #[.int lo t,.int hi u,.int 1 v]}
 | .ft o u=>h.get? a=some o/\cF H h a u
 | .jJ ps=>h.get? a=some {cls:=.none,data:=.fields ps}
 | .met f x=>h.get? a=some (QP (.ref f) (.ref x))
 | .ext φ=>φ h/\(∃o,h.get? a=some o) /\ ∀h1 h2:wK,φ h1->(∀o,h1.get? a=some o->h2.get? a=some o) -> φ h2
def cc(H:Hp)(h:wK):Prop:=∀a o,H a=some o->cF P w H h a o
end
section
variable{P:wV}{w:wR}{H H':Hp}{h h':wK}{a:wd}{o:HO}
theorem cF.lt(x:cF P w H h a o):a<h.objs.size:=by
 cases o with
 | lst xs=>obtain⟨_,_,_,_,e⟩:=x;exact wH e
 | tup xs=>obtain⟨_,_,_,p⟩:=x;exact p.lt
 | dK kvs=>obtain⟨_,_,_,_,o,_,_,e,_⟩:=x;exact wH e
 | dT kvs=>obtain⟨_,_,_,_,o,_,_,e,_⟩:=x;exact wH e
 | set S n=>obtain⟨o,_,_,_,e,_⟩:=x;exact wH e
 | ins C dx fs=>obtain⟨_,_,_,e,_⟩:=x;exact wH e
 | own y=>obtain⟨_,e⟩:=x;exact wH e
 | xd fs=>obtain⟨_,⟨_,_,_,e,_⟩,_⟩:=x;exact wH e
 | sh lo hi=>obtain⟨_,_,_,e⟩:=x;exact wH e
 | ft ob u=>obtain⟨e,_⟩:=x;exact wH e
 | jJ ps=>exact wH (show h.get? a=some _ from x)
 | met f y=>exact wH (show h.get? a=some _ from x)
 | ext φ=>obtain⟨_,⟨_,e⟩,_⟩:=x;exact wH e
theorem Paired.Fw{α β : Type}{F G : α -> β -> Prop} : ∀{l₁ : List α}{l₂ : List β},Paired F l₁ l₂ -> (∀a b,F a b->G a b)->Paired G l₁ l₂
 | _,_,.nil,_=>.nil
 | _,_,.cons r t,f=>.cons (f _ _ r) (Paired.Fw t f)
theorem cF.gp(x:cF P w H h a o)(k:∀b u,(b=a\/H b=some (.own a))->h.get? b=some u->h'.get? b=some u)
  (ho:∀b,H b=some (.own a)->H' b=some (.own a)) (ht:∀b xs,H b=some (.tup xs)->H' b=some (.tup xs)):cF P w H' h' a o:=by
 induction o with
 | lst xs=>obtain⟨z,its,n,r,e⟩:=x;exact⟨z,its,n,r,k _ _ (.inl rfl) e⟩
 | tup xs=>obtain⟨z,its,r,ob,e,c⟩:=x;exact⟨z,its,r,ob,k _ _ (.inl rfl) e,c⟩
 | dK kvs=>obtain⟨z,y,vs,r,ob,es,ep,e,c⟩:=x;exact⟨z,y,vs,r,ob,es,ep,k _ _ (.inl rfl) e,c⟩
 | dT kvs =>
  obtain⟨z,y,xs,r,ob,es,ep,e,c⟩:=x;exact⟨z,y,xs,Paired.Fw r λp q z=>⟨z.1,ht _ _ z.2.1,z.2.2⟩,ob,es,ep,k _ _ (.inl rfl) e,c⟩
 | set S n=>obtain⟨ob,es,ep,t,e,c⟩:=x;exact⟨ob,es,ep,t,k _ _ (.inl rfl) e,c⟩
 | ins C dx fs =>
  obtain⟨d,z,ne,e,mA,⟨od,es,ep,e2,c⟩,r⟩:=x;exact⟨ho _ d,z,ne,k _ _ (.inl rfl) e,mA,⟨od,es,ep,k _ _ (.inr d) e2,c⟩,r⟩
 | own y=>obtain⟨ob,e⟩:=x;exact⟨ob,k _ _ (.inl rfl) e⟩
 | xd fs=>obtain⟨mA,⟨od,es,ep,e,c⟩,r⟩:=x;exact⟨mA,⟨od,es,ep,k _ _ (.inl rfl) e,c⟩,r⟩
 | sh lo hi=>obtain⟨t,u,v,e⟩:=x;exact⟨t,u,v,k _ _ (.inl rfl) e⟩
 | ft ob u ih=>obtain⟨e,q⟩:=x;exact⟨k _ _ (.inl rfl) e,ih q⟩
 | jJ ps =>
  have e:h.get? a=some {cls:=.none,data:=.fields ps}:=x
  show h'.get? a=some {cls:=.none,data:=.fields ps}
  exact k a _ (.inl rfl) e
 | met f y =>
  have e:h.get? a=some (QP (.ref f) (.ref y)):=x
  show h'.get? a=some (QP (.ref f) (.ref y))
  exact k a _ (.inl rfl) e
 | ext φ=>obtain⟨p,⟨o,e⟩,st⟩:=x;exact⟨st _ _ p λo q=>k _ _ (.inl rfl) q,⟨o,k _ _ (.inl rfl) e⟩,st⟩
theorem cc.lt(x:cc P w H h)(e:H a=some o):a<h.objs.size:=(x a o e).lt
theorem cc.fresh(x:cc P w H h)(e:h.objs.size<=a):H a=none:=by
 cases q:H a with
 | none=>rfl
 | some u=>exact absurd (ve (x.lt q) e) (WW _)
theorem cc.kept(x:cc P w H h)(k:∀b u,h.get? b=some u->h'.get? b=some u):cc P w H h':=λa o e =>
 (x a o e).gp (λb u _ q=>k b u q) (λ_ q=>q) λ_ _ q=>q
theorem cc.laid(x:cc P w H h)(k:∀b u,h.get? b=some u->h'.get? b=some u)(hp:h.objs.size<=a)(new:cF P w (upd H a o) h' a o):cc P w (upd H a o) h':=λb u e=>by
 have hn:=x.fresh hp
 by_cases hb:b=a
 ·subst hb;rw[cb]at e;cases e;exact new
 ·rw[b9 hb]at e
  exact(x b u e).gp (λc v _ q=>k c v q) (λc q=>by rw[b9 (gN q hn)];exact q) λc xs q=>by rw[b9 (gN q hn)];exact q
end
def Rd(H:Hp)(a:wd)(u:HO):Prop:=H a=some u \/ ∃o,H a=some (.ft o u)
theorem Rd.ok{P:wV}{w:wR}{H:Hp}{h:wK}{a:wd}{u:HO}(r:Rd H a u)(x:cc P w H h):cF P w H h a u:=by
 rcases r with r | ⟨o,r⟩
 ·exact x a u r
 ·obtain⟨_,q⟩:=x a _ r
  exact q
def x_:Option HO->Prop
 | some (.lst _)=>True
 | some (.dK _)=>True
 | some (.dT _)=>True
 | some (.set _ _)=>True
 | some (.ins _ _ _)=>True
 | some (.ext _)=>True
 | _=>False
section
variable{P:wV}{w:wR}{H:Hp}{h h':wK}{x e:wd}{o':HO}
theorem cc.write(ok:cc P w H h)(mu:x_ (H x))(he:e=x\/H e=some (.own x))(k:∀b u,b≠e->h.get? b=some u->h'.get? b=some u)(heo:∃u,h'.get? e=some u)
  (new:cF P w (upd H x o') h' x o'):cc P w (upd H x o') h':=λb u q=>by
 have nown:∀c y,H c=some (.own y)->c≠x:=λc y r z=>by subst z;rw[r]at mu;exact mu
 have ntup:∀c xs,H c=some (.tup xs)->c≠x:=λc xs r z=>by subst z;rw[r]at mu;exact mu
 by_cases hb:b=x
 ·subst hb;rw[cb]at q;cases q;exact new
 ·rw[b9 hb]at q
  by_cases hbe:b=e
  ·have q':H b=some (.own x):=by
    rcases he with z | z
    ·exact absurd (hbe.trans z) hb
    ·rw[hbe];exact z
   rw[q]at q';cases q';obtain⟨v,hv⟩:=heo;exact⟨v,by rw[hbe];exact hv⟩
  ·refine(ok b u q).gp (λc v hc r=>k c v ?_ r) (λc r=>by rw[b9 (nown c b r)];exact r) λc xs r=>by rw[b9 (ntup c xs r)];exact r
   rcases hc with rfl | hc
   ·exact hbe
   ·rintro rfl
    rcases he with z | z
    ·exact nown c b hc z
    ·rw[hc]at z;cases z;exact hb rfl
end
structure Un(fs ex:List wd)(H H':Hp)(h h':wK):Prop where
 keep:∀b o,h.get? b=some o->H b=none->b ∉ fs->b ∉ ex->h'.get? b=some o
 slot:∀b o,h.get? b=some o->H b=none->b∈fs->b ∉ ex->∃sl,h'.get? b=some {o with slots:=sl}
 free:∀b o,h.get? b=some o->H b=none->b ∉ ex->H' b=none
 there:∀b o,h.get? b=some o->b ∉ ex->∃o',h'.get? b=some o'
 eG:∀b xs,H b=some (.tup xs)->H' b=some (.tup xs)
 dW:∀b o u,H b=some (.ft o u)->H' b=some (.ft o u)
 eH:∀b ps,H b=some (.jJ ps)->∃more,H' b=some (.jJ (ps++more))
section
variable{fs fs' ex ex':List wd}{H H1 H2:Hp}{h h1 h2 h':wK}{a x e:wd}{o:HO}
theorem Un.any(u:Un fs ex H H1 h h1){b:wd}{ob:Obj}(q:h.get? b=some ob)(n:H b=none)(hx:b ∉ ex):∃sl,h1.get? b=some {ob with slots:=sl}:=by
 by_cases hb:b∈fs
 ·exact u.slot b ob q n hb hx
 ·exact⟨ob.slots,u.keep b ob q n hb hx⟩
theorem Un.kept(k:∀b u,h.get? b=some u->h'.get? b=some u):Un fs ex H H h h' :=
 ⟨λb ob q _ _ _=>k b ob q,λb ob q _ _ _=>⟨ob.slots,k b ob q⟩,λ_ _ _ n _=>n,λb ob q _=>⟨ob,k b ob q⟩,λ_ _ q=>q,λ_ _ _ q=>q,λ_ ps q=>⟨#[],by rw[q];simp⟩⟩
theorem Un.refl:Un fs ex H H h h:=Un.kept λ_ _ q=>q
theorem Un.laid(k:∀b u,h.get? b=some u->h'.get? b=some u)(hp:h.objs.size<=a)(hn:H a=none):Un fs ex H (upd H a o) h h' where
 keep:=λb u q _ _ _=>k b u q
 slot:=λb u q _ _ _=>⟨u.slots,k b u q⟩
 free:=λb u q n _=>by rw[b9 (wZ (ve (wH q) hp))];exact n
 there:=λb u q _=>⟨u,k b u q⟩
 eG:=λb xs q=>by rw[b9 (gN q hn)];exact q
 dW:=λb u xs q=>by rw[b9 (gN q hn)];exact q
 eH:=λb ps q=>⟨#[],by rw[b9 (gN q hn),q];simp⟩
theorem Un.write(mu:x_ (H x))(he:e=x\/H e=some (.own x))(k:∀b u,b≠e->h.get? b=some u->h'.get? b=some u)(heo:∃u,h'.get? e=some u):Un fs ex H (upd H x o) h h':=by
 have hx:∀b,H b=none->b≠x:=λb n z=>by subst z;rw[n]at mu;exact mu
 have hb:∀b,H b=none->b≠e:=λb n z=>by
  subst z;rcases he with r | r
  ·exact hx b n r
  ·rw[n]at r;cases r
 have hm:∀b u,H b=some u->¬ x_ (some u)->b≠x:=λb u q nm z=>by subst z;rw[q]at mu;exact nm mu
 refine⟨λb u q n _ _=>k b u (hb b n) q,λb u q n _ _=>⟨u.slots,k b u (hb b n) q⟩,λb u q n _=>by rw[b9 (hx b n)];exact n,λb u q _=>?_,
  λb xs q=>by rw[b9 (hm b _ q λz=>z)];exact q,λb u xs q=>by rw[b9 (hm b _ q λz=>z)];exact q,λb ps q=>⟨#[],by rw[b9 (hm b _ q λz=>z),q];simp⟩⟩
 by_cases hbe:b=e
 ·subst hbe;exact heo
 ·exact⟨u,k b u hbe q⟩
end
def ff(h:wK)(H:Hp):List wd:=(vf h.objs.size).filter λa=>(H a).isSome
def ji(h:wK)(H:Hp):wK:=Vh h (ff h H)
theorem Ua(h:wK)(H:Hp):(ji h H).objs.size=h.objs.size:=PySem.W.hideAll_size _ _
theorem Z8{h:wK}{H:Hp}{b:wd}{o:Obj}(e:h.get? b=some o)(n:H b=none):(ji h H).get? b=some o :=
 Qe _ e λhm=>by
  have q:(H b).isSome=true:=(qm.mp hm).2;rw[n]at q;simp at q
theorem zuV{h:wK}{H:Hp}{b:wd}{o:Obj}(e:(ji h H).get? b=some o):h.get? b=some o/\H b=none:=by
 have e':h.get? b=some o:=VR (ff h H) e;refine⟨e',?_⟩;cases q:H b with
 | none=>rfl
 | some x =>
  have hm:b∈ff h H:=qm.mpr ⟨vy.mpr (wH e'),by simp[q]⟩;have z:(ji h H).get? b=none:=xP (ff h H) hm;rw[z]at e;cases e
def Q_(g h:wK)(L:wd):List (wd × Obj):=(vf h.objs.size).filterMap λa=>if a=L\/(g.get? a).isSome=true then none else(h.get? a).map λo=>(a,o)
def aO(g h:wK)(L d:wd):List (wd × Obj):=(Q_ g h L).filter λp=>decide (p.1≠d)
structure Mod(K:wa)(mg:Str->Option wg)(base:wK):Prop where
 mV:K.In base
 glob:base.Ns wJ mg
 blt:∃mb,base.Ns builtinsNs mb /\ ∀x:Str,x≠"__name__" -> mb x=vR x
 nolimit:base.NoLimit
structure Cx where
 prog:wV
 w:wR
 K:wa
 mg:Str->Option wg
 base:wK
 A:vm
 N:List Str
 s₀ : wo
 H₀ : Hp
 env:Env
 outer:List Env
 stack:List Env
 ex:List wd
 fn:Str->Bool
 calm:Bool
 pn:List (wd × Obj)
 xe:wg->wo->Prop
def bt(l:List Env):List wd:=l.filterMap (·.frame)
abbrev Cx.fs(X:Cx):List wd:=bt X.outer
def pV(sc:Scope)(x:Str):Prop:=sc.names.lookup x=some .local\/sc.names.lookup x=some .cell\/sc.names.lookup x=some .free
def Loc(sc:Scope)(x:Str):Prop:=sc.names.lookup x=some .local\/sc.names.lookup x=some .cell
def zzX(env:Env)(h:wK)(m:Str->Option wg)(x:Str)(u:wg):Prop :=
 (env.kindOf x=some .local/\m x=some u)\/((env.kindOf x=some .cell\/env.kindOf x=some .free) /\ ∃c,env.cells.lookup x=some c/\h.IsCell c (some u))
structure Cx.Ok(X:Cx):Prop where
 mod:Mod X.K X.mg X.base
 kind:X.env.scope.kind=.function
 glob:X.env.globals=wJ
 blt:X.env.builtins=builtinsNs
 above:X.s₀.heap.objs.size<=X.env.locals
 inj:∀x y c,X.env.cells.lookup x=some c->X.env.cells.lookup y=some c->x=y
 has:∀x,(X.env.kindOf x=some .cell\/X.env.kindOf x=some .free)->∃c,X.env.cells.lookup x=some c
 jF:∀x c,X.fn x=true->X.env.cells.lookup x=some c->X.s₀.heap.objs.size<=c
 hd:X.calm=true->X.A.handled=none
 frames:X.A.frames=some X.stack
 kx:X.stack=X.outer\/(X.stack=X.env::X.outer/\X.env.frame=some X.env.locals)
 mD:∀b∈X.ex,b≠X.env.locals /\ ∀x c,X.env.cells.lookup x=some c->c≠b
 bs:∀b o,X.base.get? b=some o->X.s₀.heap.get? b=some o/\X.H₀ b=none
 gG:X.base.objs.size<=X.s₀.heap.objs.size
 ju:∀b o,X.base.get? b=some o->b ∉ X.ex
 jW:∀b∈X.ex,b ∉ X.fs
 dw:X.s₀.heap.FunFrames X.base X.outer
 gD:∀b∈X.fs,X.H₀ b=none
structure Inv(X:Cx)(pins:List (wd × Obj))(σ : List (Option V))(H:Hp)(s:wo):Prop where
 ok:X.Ok
 os:s.os=X.s₀.os
 bare:VP s.gens
 base:Un X.fs X.ex X.H₀ H X.s₀.heap s.heap
 loc:∃m,s.heap.Ns X.env.locals m /\ ∀(i:Nat)(x:Str)(v:V),X.N[i]? = some x -> σ[i]? = some (some v)->pV X.env.scope x->∃u,aW v u/\zzX X.env s.heap m x u
 cell:∀x c,X.env.cells.lookup x=some c->∃v,s.heap.IsCell c v
 free:H X.env.locals=none
 eF:∀x c,X.env.cells.lookup x=some c->H c=none
 pin:∀p∈X.pn++pins,s.heap.get? p.1=some p.2/\H p.1=none/\p.1≠X.env.locals/\p.1 ∉ X.fs /\ ∀v,p.2.data≠.cell v
 ar:cc X.prog X.w H s.heap
 len : σ.length=X.N.length
section
variable{X:Cx}{pins:List (wd × Obj)}{σ : List (Option V)}{H H':Hp}{s:wo}{h':wK}
theorem Cx.Ok.NX(ok:X.Ok){b:wd}{o:Obj}(e:X.base.get? b=some o):b ∉ X.fs:=λhb=>by
 have:=(ok.dw.mem hb).1;rw[e]at this;cases this
theorem Inv.bs(I:Inv X pins σ H s):∀b o,X.base.get? b=some o->s.heap.get? b=some o/\H b=none:=λb o e =>
 ⟨I.base.keep b o (I.ok.bs b o e).1 (I.ok.bs b o e).2 (I.ok.NX e) (I.ok.ju b o e),I.base.free b o (I.ok.bs b o e).1 (I.ok.bs b o e).2 (I.ok.ju b o e)⟩
theorem Inv.bk(I:Inv X pins σ H s):∀b o,X.base.get? b=some o->s.heap.get? b=some o:=λb o e=>(I.bs b o e).1
theorem Inv.mod(I:Inv X pins σ H s):Mod X.K X.mg X.base:=I.ok.mod
theorem Inv.cq(I:Inv X pins σ H s):X.K.In s.heap:=I.ok.mod.mV.keeps I.bk
theorem Inv.lt(I:Inv X pins σ H s):X.env.locals<s.heap.objs.size:=let ⟨_,hn,_⟩:=I.loc;hn.lt
theorem Inv.sz(I:Inv X pins σ H s):X.s₀.heap.objs.size<=s.heap.objs.size:=vd I.ok.above (qr I.lt)
theorem Inv.N1(I:Inv X pins σ H s){a:wd}(h:s.heap.objs.size<=a):a ∉ X.fs:=λhb=>by
 obtain⟨_,o,ho,_⟩:=I.ok.dw.mem hb;exact absurd (ve (wH ho) (vd I.sz h)) (WW _)
theorem Inv.ia(I:Inv X pins σ H s):∀x c,X.env.cells.lookup x=some c->c≠X.env.locals:=λx c e z=>by
 obtain⟨v,o,ho,hd⟩:=I.cell x c e;obtain⟨m,⟨o',es,ep,ho',hd',_⟩,_⟩:=I.loc;rw[z,ho']at ho;cases ho;rw[hd']at hd;cases hd
theorem Inv.dw(I:Inv X pins σ H s):s.heap.FunFrames X.base X.outer:=by
 have all:∀(l:List Env),(∀b∈bt l,b∈X.fs)->X.s₀.heap.FunFrames X.base l->s.heap.FunFrames X.base l:=by
  intro l
  induction l with
  | nil=>intro _ _;trivial
  | cons env r ih =>
   intro hs hl;obtain⟨hk,⟨L,o,hf,hn,ho,hd⟩,hr⟩:=hl;have hL:L∈X.fs:=hs L (by unfold bt;rw[VL,hf];exact vc);obtain⟨sl,e⟩:=I.base.slot L o ho (I.ok.gD L hL) hL λz=>I.ok.jW L z hL
   exact⟨hk,⟨L,_,hf,hn,e,hd⟩,ih (λb hb=>hs b (by unfold bt;rw[VL,hf];exact wI _ hb)) hr⟩
 exact all X.outer (λ_ hb=>hb) I.ok.dw
theorem Inv.stack(I:Inv X pins σ H s):s.heap.FunFrames X.base X.stack:=by
 rcases I.ok.kx with e | ⟨e,hf⟩
 ·rw[e];exact I.dw
 ·rw[e]
  obtain⟨m,hn,_⟩:=I.loc;refine .cons (by rw[I.ok.kind];decide) hf hn ?_ I.dw;exact Heap.get?_none_of_le (vd I.ok.gG I.ok.above)
theorem Inv.iN(I:Inv X pins σ H s):∀b∈bt X.stack,b∈X.env.locals::X.fs:=λb hb=>by
 rcases I.ok.kx with e | ⟨e,hf⟩
 ·rw[e]at hb;exact wI _ hb
 ·rw[e]at hb
  unfold bt at hb;rw[VL,hf]at hb;exact hb
theorem Inv.mh(I:Inv X pins σ H s):∀b∈bt X.stack,H b=none:=λb hb=>by
 rcases wO.mp (I.iN b hb)with e | hb
 ·rw[e];exact I.free
 ·obtain⟨_,o,ho,_⟩:=I.ok.dw.mem hb
  exact I.base.free b o ho (I.ok.gD b hb) λz=>I.ok.jW b z hb
theorem Inv.step{g':Array GenState}{t':Nat}{d':Drawn}{ch:List wd}(I:Inv X pins σ H s)
  (hch:∀b∈ch,(b∈X.ex\/X.s₀.heap.objs.size<=b)/\b≠X.env.locals/\(∀x c,X.env.cells.lookup x=some c->c≠b) /\ ∀p∈X.pn++pins,p.1≠b)
  (keep:∀b o,b≠X.env.locals->b ∉ X.fs->b ∉ ch->s.heap.get? b=some o->H b=none->h'.get? b=some o)
  (slot:∀b o,b≠X.env.locals->b∈X.fs->b ∉ ch->s.heap.get? b=some o->H b=none->∃sl,h'.get? b=some {o with slots:=sl}) (free:∀b o,b ∉ ch->s.heap.get? b=some o->H b=none->H' b=none)
  (there:∀b o,b ∉ ch->s.heap.get? b=some o->∃o',h'.get? b=some o')
  (eG:∀b xs,H b=some (.tup xs)->H' b=some (.tup xs)) (dW:∀b o u,H b=some (.ft o u)->H' b=some (.ft o u)) (eH:∀b ps,H b=some (.jJ ps)->∃more,H' b=some (.jJ (ps++more)))
  (ns:∀m,s.heap.Ns X.env.locals m->h'.Ns X.env.locals m) (ar:cc X.prog X.w H' h') (hg:VP g') :
  Inv X pins σ H' {s with heap:=h',gens:=g',drawn:=d',toks:=t'}:=by
 have neL:∀b o,X.s₀.heap.get? b=some o->b≠X.env.locals:=λb o e=>wZ (ve (wH e) I.ok.above)
 have neC:∀b o,X.s₀.heap.get? b=some o->b ∉ X.ex->b ∉ ch:=λb o e hx hb=>by
  rcases (hch b hb).1 with z | z
  ·exact hx z
  ·exact absurd (ve (wH e) z) (WW _)
 have cellK:∀x c,X.env.cells.lookup x=some c->∀v,s.heap.IsCell c v->h'.IsCell c v:=λx c e v ⟨o,ho,hd⟩=>by
  have nch:c ∉ ch:=λz=>(hch c z).2.2.1 x c e rfl
  by_cases hc:c∈X.fs
  ·obtain⟨sl,q⟩:=slot c o (I.ia x c e) hc nch ho (I.eF x c e)
   exact⟨_,q,hd⟩
  ·exact⟨o,keep c o (I.ia x c e) hc nch ho (I.eF x c e),hd⟩
 refine⟨I.ok,I.os,hg,⟨λb o e n hb hx=>?_,λb o e n hb hx=>?_,λb o e n hx=>?_,λb o e hx=>?_,λb xs e=>eG b xs (I.base.eG b xs e),λb o xs e=>dW b o xs (I.base.dW b o xs e),λb ps e=>?_⟩,?_,λx c e=>?_,?_,λx c e=>?_,λp hp=>?_,ar,I.len⟩
 ·exact keep b o (neL b o e) hb (neC b o e hx) (I.base.keep b o e n hb hx) (I.base.free b o e n hx)
 ·obtain⟨sl,e1⟩:=I.base.slot b o e n hb hx
  obtain⟨sl',e2⟩:=slot b _ (neL b o e) hb (neC b o e hx) e1 (I.base.free b o e n hx);exact⟨sl',e2⟩
 ·obtain⟨o',e1⟩:=I.base.there b o e hx
  exact free b o' (neC b o e hx) e1 (I.base.free b o e n hx)
 ·obtain⟨o',e1⟩:=I.base.there b o e hx
  exact there b o' (neC b o e hx) e1
 ·obtain⟨m1,e1⟩:=I.base.eH b ps e
  obtain⟨m2,e2⟩:=eH b _ e1;exact⟨m1++m2,by rw[e2,Qo]⟩
 ·obtain⟨m,hn,hl⟩:=I.loc
  refine⟨m,ns m hn,λi x v e1 e2 e3=>?_⟩;obtain⟨u,r,l⟩:=hl i x v e1 e2 e3;refine⟨u,r,?_⟩;rcases l with l | ⟨k,c,e,z⟩
  ·exact .inl l
  ·exact .inr ⟨k,c,e,cellK x c e _ z⟩
 ·obtain⟨v,z⟩:=I.cell x c e
  exact⟨v,cellK x c e v z⟩
 ·obtain⟨m,⟨o,_,_,ho,_⟩,_⟩:=I.loc
  exact free _ o (λz=>(hch _ z).2.1 rfl) ho I.free
 ·obtain⟨v,o,ho,hd⟩:=I.cell x c e
  exact free c o (λz=>(hch c z).2.2.1 x c e rfl) ho (I.eF x c e)
 ·obtain⟨e,n,ne,nf,d⟩:=I.pin p hp
  have nch:p.1 ∉ ch:=λz=>(hch p.1 z).2.2.2 p hp rfl
  exact⟨keep p.1 p.2 ne nf nch e n,free p.1 p.2 nch e n,ne,nf,d⟩
theorem Inv.un{t':Nat}(I:Inv X pins σ H s)(u:Un X.fs [] H H' s.heap h')(ar:cc X.prog X.w H' h'):Inv X pins σ H' {s with heap:=h',toks:=t'}:=by
 obtain⟨m,⟨o,es,ep,ho,r⟩,_⟩:=id I.loc;obtain⟨sl,hL⟩:=u.any ho I.free (by simp)
 exact I.step (g':=s.gens) (d':=s.drawn) (ch:=[]) (λ_ z=>nomatch z) (λb o _ hb _ e n=>u.keep b o e n hb (by simp)) (λb o _ hb _ e n=>u.slot b o e n hb (by simp)) (λb o _ e n=>u.free b o e n (by simp)) (λb o _ e=>u.there b o e (by simp)) u.eG u.dW u.eH (λm' hm=>by
  obtain⟨o',es',ep',ho',r'⟩:=hm;rw[ho]at ho';cases ho';exact⟨_,es',ep',hL,r'⟩) ar I.bare
theorem Inv.call{g':Array GenState}{t':Nat}{d':Drawn}{ch:List wd}(I:Inv X pins σ H s)(u:Un (bt X.stack) ch H H' s.heap h')(ar:cc X.prog X.w H' h')(hg:VP g')
  (hch:∀b∈ch,(b∈X.ex\/X.s₀.heap.objs.size<=b)/\b≠X.env.locals/\(∀x c,X.env.cells.lookup x=some c->c≠b) /\ ∀p∈X.pn++pins,p.1≠b) :
  Inv X pins σ H' {s with heap:=h',gens:=g',drawn:=d',toks:=t'}:=by
 obtain⟨m,⟨o,es,ep,ho,r⟩,_⟩:=id I.loc;obtain⟨sl,hL⟩:=u.any ho I.free λz=>(hch _ z).2.1 rfl
 exact I.step (ch:=ch) hch (λb o hL hb hc e n=>u.keep b o e n (λz=>(wO.mp (I.iN b z)).elim hL hb) hc) (λb o _ _ hc e n=>u.any e n hc) (λb o hc e n=>u.free b o e n hc) (λb o hc e=>u.there b o e hc) u.eG u.dW u.eH (λm' hm=>by
  obtain⟨o',es',ep',ho',r'⟩:=hm;rw[ho]at ho';cases ho';exact⟨_,es',ep',hL,r'⟩) ar hg
theorem Inv.turned{t':Nat}{it:wd}(I:Inv X pins σ H s)(k:∀b o,b≠it->s.heap.get? b=some o->h'.get? b=some o)(hn:H it=none)(hL:it≠X.env.locals)
  (h1:it∈X.ex\/X.s₀.heap.objs.size<=it) (h2:∀x c,X.env.cells.lookup x=some c->c≠it) (h3:∀p∈X.pn++pins,p.1≠it):Inv X pins σ H {s with heap:=h',toks:=t'}:=by
 have nit:∀b u,H b=some u->b≠it:=λb u e z=>by rw[z,hn]at e;cases e
 refine I.step (g':=s.gens) (d':=s.drawn) (ch:=[it]) (λb hb=>?_) (λb o _ _ hc e _=>k b o (λz=>hc (by simp[z])) e) (λb o _ _ hc e _=>⟨o.slots,k b o (λz=>hc (by simp[z])) e⟩) (λ_ _ _ _ n=>n)
  (λb o hc e=>⟨o,k b o (λz=>hc (by simp[z])) e⟩) (λ_ _ e=>e) (λ_ _ _ e=>e) (λb ps e=>⟨#[],by rw[e];simp⟩) (λm hm=>?_) (λb u e=>?_) I.bare
 ·have e:b=it:=by simpa using hb
  subst e;exact⟨h1,hL,h2,h3⟩
 ·obtain⟨o,es,ep,ho,r⟩:=hm
  exact⟨o,es,ep,k _ o (qi hL) ho,r⟩
 ·refine(I.ar b u e).gp (λc v hc q=>k c v ?_ q) (λ_ q=>q) λ_ _ q=>q
  rcases hc with z | z
  ·rw[z];exact nit b u e
  ·exact nit c _ z
theorem Inv.tok(I:Inv X pins σ H s)(t:Nat):Inv X pins σ H {s with toks:=t}:=I.un (h':=s.heap) (t':=t) Un.refl I.ar
theorem Inv.kept{t':Nat}(I:Inv X pins σ H s)(k:∀b u,s.heap.get? b=some u->h'.get? b=some u):Inv X pins σ H {s with heap:=h',toks:=t'}:=I.un (Un.kept k) (I.ar.kept k)
theorem Inv.laid{a:wd}{o:HO}{t':Nat}(I:Inv X pins σ H s)(k:∀b u,s.heap.get? b=some u->h'.get? b=some u)(hp:s.heap.objs.size<=a)(new:cF X.prog X.w (upd H a o) h' a o) :
  Inv X pins σ (upd H a o) {s with heap:=h',toks:=t'}:=I.un (Un.laid k hp (I.ar.fresh hp)) (I.ar.laid k hp new)
theorem Inv.write{x e:wd}{o:HO}{t':Nat}(I:Inv X pins σ H s)(mu:x_ (H x))(he:e=x\/H e=some (.own x))(k:∀b u,b≠e->s.heap.get? b=some u->h'.get? b=some u)(heo:∃u,h'.get? e=some u)
  (new:cF X.prog X.w (upd H x o) h' x o):Inv X pins σ (upd H x o) {s with heap:=h',toks:=t'}:=I.un (Un.write mu he k heo) (I.ar.write mu he k heo new)
theorem Inv.Ff{pins':List (wd × Obj)}(I:Inv X pins σ H s)(h:∀p∈pins',s.heap.get? p.1=some p.2/\H p.1=none/\p.1≠X.env.locals/\p.1 ∉ X.fs /\ ∀v,p.2.data≠.cell v):Inv X pins' σ H s :=
 ⟨I.ok,I.os,I.bare,I.base,I.loc,I.cell,I.free,I.eF,λp hp=>(Wf.mp hp).elim (λz=>I.pin p (Wl _ z)) (h p),I.ar,I.len⟩
theorem Bi{N:List Str}(hN:N.Nodup){i j:Nat}{x:Str}(a:N[i]? = some x)(b:N[j]? = some x):i=j:=by
 obtain⟨h1,e1⟩:=wX.mp a;obtain⟨h2,e2⟩:=wX.mp b;exact(Q1 hN).mp (e1.trans e2.symm)
theorem G0{M:Model}{A:vm}{E:wg->wo->Prop}{i:Nat}{x:Str}{v:V}{u:wg}{Q:Unit->wo->Prop}(I:Inv X pins σ H s)(hN:X.N.Nodup)(hi:X.N[i]? = some x)(hx:Loc X.env.scope x)(r:aW v u)
  (h:∀s',Inv X pins (σ.set i (some v)) H s'->(∃a,vN a s.heap s'.heap/\(a=X.env.locals\/X.env.cells.lookup x=some a))->Q () s') (hf:X.fn x=true\/X.env.scope.names.lookup x=some .local:=by first | exact .inl rfl | exact .inr rfl | assumption):wA M A (storeName X.env x u) Q E s:=by
 obtain⟨m,hn,hl⟩:=id I.loc;have hcls:(X.env.scope.kind == .class || (X.env.scope.kind == .module&&X.env.locals != X.env.globals))=false:=by rw[I.ok.kind];rfl
 have hiσ : i < σ.length:=by rw[I.len];exact(wX.mp hi).1
 have ia:=I.ia
 have tracked:∀{a:wd}{h':wK},(∃o,s.heap.get? a=some o/\H a=none)->vN a s.heap h'->cc X.prog X.w H h':=λ{a h'} ha hs b ob e=>by
  obtain⟨_,_,hfree⟩:=ha;refine(I.ar b ob e).gp (λc w' hc q=>(hs.2 c ?_).trans q) (λ_ q=>q) λ_ _ q=>q
  rintro rfl;rcases hc with rfl | hc
  ·rw[hfree]at e;cases e
  ·rw[hfree]at hc;cases hc
 rcases hx with hk | hk
 ·refine wpAny_storeName_local hk hn (λh' hn' hs=>?_) hcls
  obtain⟨oL,_,_,hoL,_⟩:=id hn;refine h _ ⟨I.ok,I.os,I.bare,⟨λb o e n hb hx=>?_,λb o e n hb hx=>?_,I.base.free,λb o e hx=>?_,I.base.eG,I.base.dW,I.base.eH⟩,⟨_,hn',λj y v' e1 e2 e3=>?_⟩,λy c e=>?_,I.free,I.eF,λp hp=>?_,tracked ⟨oL,hoL,I.free⟩ hs,by simpa using I.len⟩ ⟨_,hs,.inl rfl⟩
  ·exact(hs.2 b (wZ (ve (wH e) I.ok.above))).trans (I.base.keep b o e n hb hx)
  ·obtain⟨sl,e1⟩:=I.base.slot b o e n hb hx
   exact⟨sl,(hs.2 b (wZ (ve (wH e) I.ok.above))).trans e1⟩
  ·obtain⟨o',e1⟩:=I.base.there b o e hx
   exact⟨o',(hs.2 b (wZ (ve (wH e) I.ok.above))).trans e1⟩
  ·by_cases hj:j=i
   ·subst hj
    rw[hi]at e1;cases e1;rw[xA hiσ]at e2;cases e2;exact⟨u,r,.inl ⟨hk,by simp⟩⟩
   ·rw[qU (qi hj)]at e2
    obtain⟨u',r',q⟩:=hl j y v' e1 e2 e3;refine⟨u',r',?_⟩;rcases q with⟨k,e⟩ | ⟨k,c,e,z⟩
    ·refine .inl ⟨k,?_⟩
     have:y≠x:=λe=>hj (Bi hN e1 (e ▸ hi))
     simp[this,e]
    ·exact .inr ⟨k,c,e,z.sameBut hs (ia y c e)⟩
  ·obtain⟨w',z⟩:=I.cell y c e
   exact⟨w',z.sameBut hs (ia y c e)⟩
  ·obtain⟨e,n,ne,nf,d⟩:=I.pin p hp
   exact⟨(hs.2 p.1 ne).trans e,n,ne,nf,d⟩
 ·have hfn:X.fn x=true:=by
   rcases hf with z | z
   ·exact z
   ·rw[z]at hk;cases hk
  obtain⟨c,hc⟩:=I.ok.has x (.inl hk);obtain⟨w',z⟩:=I.cell x c hc;refine wpAny_storeName_cell I.ok.kind hk hc z (λh' hc' hs=>?_);obtain⟨oc,hoc,hocd⟩:=id z;refine h {s with heap:=h'} ⟨I.ok,I.os,I.bare,⟨λb o e n hb hx=>?_,λb o e n hb hx=>?_,I.base.free,λb o e hx=>?_,I.base.eG,I.base.dW,I.base.eH⟩,⟨m,hn.sameBut hs (qi (ia x c hc)),λj y v' e1 e2 e3=>?_⟩,λy c' e=>?_,I.free,I.eF,λp hp=>?_,tracked ⟨oc,hoc,I.eF x c hc⟩ hs,by simpa using I.len⟩ ⟨c,hs,.inr hc⟩
  ·exact(hs.2 b (wZ (ve (wH e) (I.ok.jF x c hfn hc)))).trans (I.base.keep b o e n hb hx)
  ·obtain⟨sl,e1⟩:=I.base.slot b o e n hb hx
   exact⟨sl,(hs.2 b (wZ (ve (wH e) (I.ok.jF x c hfn hc)))).trans e1⟩
  ·obtain⟨o',e1⟩:=I.base.there b o e hx
   exact⟨o',(hs.2 b (wZ (ve (wH e) (I.ok.jF x c hfn hc)))).trans e1⟩
  ·by_cases hj:j=i
   ·subst hj
    rw[hi]at e1;cases e1;rw[xA hiσ]at e2;cases e2;exact⟨u,r,.inr ⟨.inl hk,c,hc,hc'⟩⟩
   ·rw[qU (qi hj)]at e2
    obtain⟨u',r',q⟩:=hl j y v' e1 e2 e3;refine⟨u',r',?_⟩;rcases q with q | ⟨k,c',e,z'⟩
    ·exact .inl q
    ·refine .inr ⟨k,c',e,z'.sameBut hs ?_⟩
     rintro rfl;exact hj (Bi hN e1 (I.ok.inj _ _ _ e hc ▸ hi))
  ·by_cases hcc:c'=c
   ·subst hcc;exact⟨_,hc'⟩
   ·obtain⟨w2,z2⟩:=I.cell y c' e
    exact⟨w2,z2.sameBut hs hcc⟩
  ·obtain⟨e,n,ne,nf,d⟩:=I.pin p hp
   refine⟨(hs.2 p.1 ?_).trans e,n,ne,nf,d⟩;intro q;rw[q,hoc]at e;have q':oc=p.2:=vo e;exact d w' (by rw[<- q'];exact hocd)
theorem mQ{M:Model}{A:vm}{E:wg->wo->Prop}{i:Nat}{x:Str}{v:V}{u:wg}{Q:Unit->wo->Prop}(I:Inv X pins σ H s)(hN:X.N.Nodup)(hi:X.N[i]? = some x)(hx:Loc X.env.scope x)(r:aW v u)
  (h:∀s',Inv X pins (σ.set i (some v)) H s'->Q () s') (hf:X.fn x=true\/X.env.scope.names.lookup x=some .local:=by first | exact .inl rfl | exact .inr rfl | assumption):wA M A (storeName X.env x u) Q E s :=
 G0 I hN hi hx r (λs' I' _=>h s' I') hf
theorem Inv.yU{s':wo}{ch:List wd}(I:Inv X pins σ H s)(ho:s'.os=s.os)(u:Un (bt X.stack) ch H H' s.heap s'.heap)(ar:cc X.prog X.w H' s'.heap)(hg:VP s'.gens)
  (hch:∀b∈ch,(b∈X.ex\/X.s₀.heap.objs.size<=b)/\b≠X.env.locals/\(∀x c,X.env.cells.lookup x=some c->c≠b) /\ ∀p∈X.pn++pins,p.1≠b):Inv X pins σ H' s':=by
 obtain⟨h',g',d',t',o'⟩:=s';have e:o'=s.os:=ho;subst e;exact I.call (g':=g') (t':=t') (d':=d') u ar hg hch
end
abbrev XK:=wg->Option wd->Hp->Prop
abbrev St:=List (Option V)
abbrev VK:=V->Hp->Prop
abbrev TE:=St->Hp->VK->Prop
abbrev TT:=St->Hp->(Bool->Hp->Prop)->Prop
abbrev TA:=St->Hp->(List V->Hp->Prop)->Prop
structure ck where
 nx:St->Hp->Prop
 rt:VK
 bk:St->Hp->Prop:=λ_ _=>False
 ct:St->Hp->Prop:=λ_ _=>False
abbrev TS:=ck->St->Hp->Prop
def EP(X:Cx)(pins:List (wd × Obj))(σ : St)(Q:VK)(u:wg)(s':wo):Prop:=∃v H',Inv X pins σ H' s'/\aW v u/\Q v H'
def TP(X:Cx)(pins:List (wd × Obj))(σ : St)(Q:Bool->Hp->Prop)(b:Bool)(s':wo):Prop:=∃H',Inv X pins σ H' s'/\Q b H'
def AP(X:Cx)(pins:List (wd × Obj))(σ : St)(Q:List V->Hp->Prop)(us:List wg)(s':wo):Prop:=∃vs H',Inv X pins σ H' s'/\aC vs us/\Q vs H'
def SP(X:Cx)(pins:List (wd × Obj))(D:ck)(f:Flow)(s':wo):Prop :=
 match f with
 | .next=>∃σ' H',Inv X pins σ' H' s'/\D.nx σ' H'
 | .brk=>∃σ' H',Inv X pins σ' H' s'/\D.bk σ' H'
 | .cont=>∃σ' H',Inv X pins σ' H' s'/\D.ct σ' H'
 | .ret u=>∃v σ' H',Inv X pins σ' H' s'/\aW v u/\D.rt v H'
def PE(X:Cx)(e:Expr)(t:TE):Prop :=
 ∀(pins:List (wd × Obj))(s:wo)(σ : St)(H:Hp)(Q:VK),Inv X pins σ H s->t σ H Q->wA (model X.prog X.w) X.A (eval e X.env) (EP X pins σ Q) X.xe s
def PT(X:Cx)(e:Expr)(t:TT):Prop :=
 ∀(pins:List (wd × Obj))(s:wo)(σ : St)(H:Hp)(Q:Bool->Hp->Prop),Inv X pins σ H s->t σ H Q->wA (model X.prog X.w) X.A (isTrue e X.env (eval e X.env)) (TP X pins σ Q) X.xe s
def PW(X:Cx)(e:Expr)(t:TT):Prop :=
 ∀(whole:Sem wg)(pins:List (wd × Obj))(s:wo)(σ : St)(H:Hp)(Q:Bool->Hp->Prop),Inv X pins σ H s->t σ H Q->wA (model X.prog X.w) X.A (isTrue e X.env whole) (TP X pins σ Q) X.xe s
theorem PW.pt{X:Cx}{e:Expr}{t:TT}(h:PW X e t):PT X e t:=h _
def PA(X:Cx)(es:List Expr)(t:TA):Prop :=
 ∀(pos:Pos)(pins:List (wd × Obj))(s:wo)(σ : St)(H:Hp)(Q:List V->Hp->Prop),Inv X pins σ H s->t σ H Q->wA (model X.prog X.w) X.A (spliced (Vr pos (w5 es X.env))) (AP X pins σ Q) X.xe s
def PS(X:Cx)(st:vq)(t:TS):Prop :=
 ∀(pins:List (wd × Obj))(s:wo)(σ : St)(H:Hp)(D:ck),Inv X pins σ H s->t D σ H->wA (model X.prog X.w) X.A (exec st X.env) (SP X pins D) X.xe s
def cV(X:Cx)(st:List vq)(t:TS):Prop :=
 ∀(pins:List (wd × Obj))(s:wo)(σ : St)(H:Hp)(D:ck),Inv X pins σ H s->t D σ H->wA (model X.prog X.w) X.A (execs st X.env) (SP X pins D) X.xe s
theorem aq{α : Type}{t:Sem α}{Q Q' : α -> wo->Prop}{M:Model}{A:vm}{E:wg->wo->Prop}{s:wo}(h:wA M A t Q E s)(hQ:∀a s,Q a s->Q' a s):wA M A t Q' E s:=vU h hQ λ_ _ x=>x
section
variable{X:Cx}
def fo(i:Nat):TE:=λσ H Q=>∃v,σ[i]? = some (some v)/\Q v H
def tC(v:V):TE:=λ_ H Q=>Q v H
theorem FJ{i:Nat}{x:Str}{pos:Pos}(hN:X.N[i]? = some x)(hv:pV X.env.scope x)(hd:(x == ("__debug__" : Str))=false:=by decide)(hcd:(x == ("__classdict__" : Str))=false:=by decide):PE X (.Name x pos) (fo i):=by
 intro pins s σ H Q I h;obtain⟨v,e,h⟩:=h;obtain⟨m,hn,hl⟩:=I.loc;obtain⟨u,r,l⟩:=hl i x v hN e hv;have fin:EP X pins σ Q u s:=⟨v,H,I,r,h⟩;rcases l with⟨hk,hm⟩ | ⟨hk,c,hc,hcell⟩
 ·exact wpAny_Name (wpAny_loadName_local I.ok.kind hk hn hm fin) hd
 ·rcases hk with hk | hk
  ·exact wpAny_Name (wpAny_loadName_cell I.ok.kind hk hc hcell fin) hd
  ·exact wpAny_Name (wpAny_loadName_free I.ok.kind hk hc hcell fin hcd) hd
theorem ak{i j pos} : PE X (.Constant (.int i) j pos) (tC (.int i)):=λ_ _ _ H _ I h=>wpAny_Constant_int ⟨.int i,H,I.tok _,⟨_,rfl⟩,h⟩
theorem cK{b j pos} : PE X (.Constant (.bool b) j pos) (tC (.bl b)):=λ_ _ _ H _ I h=>Constant_bool ⟨.bl b,H,I,rfl,h⟩
theorem Hy{j pos} : PE X (.Constant .none j pos) (tC .bM):=λ_ _ _ H _ I h=>Constant_none ⟨.bM,H,I,rfl,h⟩
theorem ah{x j pos} : PE X (.Constant (.str x) j pos) (tC (.str x)):=λ_ _ _ H _ I h=>W1 ⟨.str x,H,I.tok _,⟨_,rfl⟩,h⟩
def Gl(X:Cx)(x:Str):Prop:=X.env.kindOf x=some .globalImplicit
theorem rL{E:wg->wo->Prop}{pins:List (wd × Obj)}{s:wo}{σ : St}{H:Hp}{x:Str}{u:wg}{pos:Pos}{Q:wg->wo->Prop}(I:Inv X pins σ H s)(hg:Gl X x)(hm:X.mg x=some u)(h:Q u s)
  (hd:(x == ("__debug__" : Str))=false:=by decide):wA (model X.prog X.w) X.A (eval (.Name x pos) X.env) Q E s :=
 QI I.ok.kind hg (Calls.loadGlobal_global (by rw[I.ok.glob];exact I.mod.glob.keeps I.bk) hm h) hd
theorem mJ{E:wg->wo->Prop}{pins:List (wd × Obj)}{s:wo}{σ : St}{H:Hp}{x:Str}{u:wg}{pos:Pos}{Q:wg->wo->Prop}(I:Inv X pins σ H s)(hg:Gl X x)(hm:X.mg x=none)(hv:vR x=some u)(h:Q u s)
  (hn:x≠"__name__":=by decide) (hd:(x == ("__debug__" : Str))=false:=by decide):wA (model X.prog X.w) X.A (eval (.Name x pos) X.env) Q E s:=by
 obtain⟨mb,h1,h2⟩:=I.mod.blt;exact QI I.ok.kind hg (Calls.loadGlobal_builtin (by rw[I.ok.glob];exact I.mod.glob.keeps I.bk) hm (by rw[I.ok.blt];exact h1.keeps I.bk) ((h2 x hn).trans hv) h) hd
theorem b7{x:Str}{v:V}{u:wg}{pos:Pos}(hg:Gl X x)(hm:X.mg x=some u)(r:aW v u)(hd:(x == ("__debug__" : Str))=false:=by decide):PE X (.Name x pos) (tC v) :=
 λ_ _ _ H _ I h=>rL I hg hm ⟨v,H,I,r,h⟩ hd
theorem eU{x:Str}{v:V}{u:wg}{pos:Pos}(hg:Gl X x)(hm:X.mg x=none)(hv:vR x=some u)(r:aW v u)(hn:x≠"__name__":=by decide)(hd:(x == ("__debug__" : Str))=false:=by decide):PE X (.Name x pos) (tC v) :=
 λ_ _ _ H _ I h=>mJ I hg hm hv ⟨v,H,I,r,h⟩ hn hd
def t2I(ta tb:TE)(k:Int->Int->Hp->Prop):St->Hp->Prop:=λσ H=>ta σ H λx H1=>tb σ H1 λy H2=>∃i j,x=.int i/\y=.int j/\k i j H2
variable{a b:Expr}{ta tb:TE}{pos:Pos}
def lM(p:Int->Int->Bool)(ta tb:TE):TE:=λσ H Q=>t2I ta tb (λi j H2=>Q (.bl (p i j)) H2) σ H
abbrev tLt:TE->TE->TE:=lM λi j=>decide (i<j)
abbrev tLe:TE->TE->TE:=lM λi j=>decide (i<=j)
abbrev tGt:TE->TE->TE:=lM λi j=>decide (j<i)
abbrev tGe:TE->TE->TE:=lM λi j=>decide (j<=i)
abbrev zz0:TE->TE->TE:=lM λi j=>decide (i=j)
abbrev zzZ:TE->TE->TE:=lM λi j=>!decide (i=j)
def tB(t:TE):TT:=λσ H Q=>t σ H λx H1=>∃c,x=.bl c/\Q c H1
theorem bC{e:Expr}{t:TE}(h:PE X e t)(he:∀whole,isTrue e X.env whole=(do let v <- whole;standAt e.pos;holding [v] (truthy v)):=by intro _;rfl):PT X e (tB t):=by
 intro pins s σ H Q I hw;refine isTrue_plain (aq (h pins s σ H _ I hw) λv s1 ⟨x,H1,I1,r1,q1⟩=>?_) (he _);obtain⟨d,rfl,q⟩:=q1;cases r1;exact Wt ⟨H1,I1,q⟩
variable{tA tB':TT}{aO:List Expr}
def Gf(t u:TT):TT:=λσ H Q=>t σ H λc H1=>if c=true then u σ H1 Q else Q false H1
def Ho(t u:TT):TT:=λσ H Q=>t σ H λc H1=>if c=true then Q true H1 else u σ H1 Q
def Je(t:TT):TT:=λσ H Q=>t σ H λc H1=>Q (!c) H1
theorem YK(ha:PT X a tA):PW X (.BoolOp .And [a] pos) tA:=by
 intro wh pins s σ H Q I h;refine isTrue_and (aq (ha pins s σ H Q I h) λc s1 e=>?_);cases c with
 | true=>exact isTrue_and_nil e
 | false=>exact e
theorem cY(ha:PT X a tA):PW X (.BoolOp .Or [a] pos) tA:=by
 intro wh pins s σ H Q I h;refine isTrue_or (aq (ha pins s σ H Q I h) λc s1 e=>?_);cases c with
 | false=>exact isTrue_or_nil e
 | true=>exact e
theorem zxr(ha:PT X a tA)(hb:PW X (.BoolOp .And (b::aO) pos) tB'):PW X (.BoolOp .And (a::b::aO) pos) (Gf tA tB'):=by
 intro wh pins s σ H Q I h;refine isTrue_and (aq (ha pins s σ H _ I h) λc s1 ⟨H1,I1,q1⟩=>?_);cases c with
 | true=>exact hb wh pins s1 σ H1 Q I1 q1
 | false=>exact⟨H1,I1,q1⟩
theorem cv(ha:PT X a tA)(hb:PW X (.BoolOp .Or (b::aO) pos) tB'):PW X (.BoolOp .Or (a::b::aO) pos) (Ho tA tB'):=by
 intro wh pins s σ H Q I h;refine isTrue_or (aq (ha pins s σ H _ I h) λc s1 ⟨H1,I1,q1⟩=>?_);cases c with
 | true=>exact⟨H1,I1,q1⟩
 | false=>exact hb wh pins s1 σ H1 Q I1 q1
theorem bA(ha:PT X a tA):PT X (.UnaryOp .Not a pos) (Je tA):=by
 intro pins s σ H Q I h;exact isTrue_not (ha pins s σ H (λc H1=>Q (!c) H1) I h)
def Ka(ta tb:TE):TE:=λσ H Q=>ta σ H λx H1=>∃c,x=.bl c/\if c=true then tb σ H1 Q else Q (.bl false) H1
def FC(ta tb:TE):TE:=λσ H Q=>ta σ H λx H1=>∃c,x=.bl c/\if c=true then Q (.bl true) H1 else tb σ H1 Q
def HM(ta:TE):TE:=λσ H Q=>ta σ H λx H1=>∃c,x=.bl c/\Q (.bl (!c)) H1
theorem eB{op}{t:TE}(h:PE X a t):PE X (.BoolOp op [a] pos) t:=λpins s σ H Q I hw=>BoolOp_one (h pins s σ H Q I hw)
theorem df(ha:PE X a ta)(hb:PE X (.BoolOp .And (b::aO) pos) tb):PE X (.BoolOp .And (a::b::aO) pos) (Ka ta tb):=by
 intro pins s σ H Q I h;refine BoolOp_and (aq (ha pins s σ H _ I h) λv s1 ⟨x,H1,I1,r1,q1⟩=>?_);obtain⟨c,rfl,q1⟩:=q1;cases r1;refine Wt ?_;cases c with
 | true=>exact hb pins s1 σ H1 Q I1 q1
 | false=>exact⟨.bl false,H1,I1,rfl,q1⟩
theorem RM(ha:PE X a ta)(hb:PE X (.BoolOp .Or (b::aO) pos) tb):PE X (.BoolOp .Or (a::b::aO) pos) (FC ta tb):=by
 intro pins s σ H Q I h;refine BoolOp_or (aq (ha pins s σ H _ I h) λv s1 ⟨x,H1,I1,r1,q1⟩=>?_);obtain⟨c,rfl,q1⟩:=q1;cases r1;refine Wt ?_;cases c with
 | false=>exact hb pins s1 σ H1 Q I1 q1
 | true=>exact⟨.bl true,H1,I1,rfl,q1⟩
theorem nF(ha:PE X a ta):PE X (.UnaryOp .Not a pos) (HM ta):=by
 intro pins s σ H Q I h;refine UnaryOp_ (aq (ha pins s σ H _ I h) λv s1 ⟨x,H1,I1,r1,q1⟩=>?_);obtain⟨c,rfl,q1⟩:=q1;cases r1;exact not_of (Wt ⟨.bl (!c),H1,I1,rfl,q1⟩)
def LB(t:TT)(ta tb:TE):TE:=λσ H Q=>t σ H λc H1=>if c=true then ta σ H1 Q else tb σ H1 Q
theorem Ar{c:Expr}(hc:PT X c tA)(ha:PE X a ta)(hb:PE X b tb):PE X (.IfExp c a b pos) (LB tA ta tb):=by
 intro pins s σ H Q I h;refine wpAny_IfExp (aq (hc pins s σ H _ I h) λd s1 ⟨H1,I1,q1⟩=>?_);cases d with
 | true=>exact ha pins s1 σ H1 Q I1 q1
 | false=>exact hb pins s1 σ H1 Q I1 q1
end
def aN(K:wa)(H:Hp)(a:wd)(xs:List V):Prop :=
 Rd H a (.lst xs) \/
  ∃(o:Obj)(its:Array wg)(n:Nat),K.lookup a=some o/\o.cls=.type "list"/\o.dict=none/\o.data=.seq its n/\its.size<=wC/\aC xs its.toList
def aP(K:wa)(H:Hp)(a:wd)(xs:List V):Prop :=
 Rd H a (.tup xs) \/
  ∃(o:Obj)(its:Array wg)(n:Nat),K.lookup a=some o/\o.cls=.type "tuple"/\o.data=.seq its n/\its.size<=wC/\aC xs its.toList
def zzN:wg->Option V
 | .none=>some .bM
 | .bool b=>some (.bl b)
 | .int i _=>some (.int i)
 | .str x _=>some (.str x)
 | .bytes b _=>some (.byt b)
 | .float b _=>some (.flt b)
 | .ref a=>some (.ref a)
 | .type n=>some (.ty n)
 | _=>none
theorem aW.abs{x:V}{u:wg}(r:aW x u):zzN u=some x:=by
 cases x with
 | bM=>cases r;rfl
 | bl _=>cases r;rfl
 | int _=>obtain⟨t,rfl⟩:=r;rfl
 | str _=>obtain⟨t,rfl⟩:=r;rfl
 | byt _=>obtain⟨t,rfl⟩:=r;rfl
 | flt _=>obtain⟨t,rfl⟩:=r;rfl
 | ref _=>cases r;rfl
 | ty _=>cases r;rfl
theorem aW.inj{x y:V}{u:wg}(r:aW x u)(q:aW y u):x=y:=vo (r.abs.symm.trans q.abs)
theorem aC.inj:∀{xs ys:List V}{us:List wg},aC xs us->aC ys us->xs=ys
 | _,_,_,.nil,.nil=>rfl
 | _,_,_,.cons r t,.cons r' t'=>by rw[r.inj r',aC.inj t t']
section
variable{X:Cx}{pins:List (wd × Obj)}{σ : St}{H:Hp}{s:wo}{a:wd}{xs ys:List V}
theorem aN.of{K:wa}(h:H a=some (.lst xs)):aN K H a xs:=.inl (.inl h)
theorem aP.of{K:wa}(h:H a=some (.tup xs)):aP K H a xs:=.inl (.inl h)
theorem Inv.list(I:Inv X pins σ H s)(h:aN X.K H a xs):∃its:List wg,aC xs its/\PlainL s.heap a its.toArray/\xs.length<=wC:=by
 rcases h with h | ⟨o,its,n,hk,hc,hd,hs,hz,r⟩
 ·obtain⟨z,its,n,r,e⟩:=h.ok I.ar
  exact⟨its,r,⟨_,n,e,rfl,rfl,rfl⟩,z⟩
 ·refine⟨its.toList,r,⟨o,n,I.cq a o hk,hc,hd,by simpa using hs⟩,?_⟩
  have e:=r.length;simp only[wG]at e
  lia
theorem Inv.tuple(I:Inv X pins σ H s)(h:aP X.K H a xs):∃its:List wg,aC xs its/\IsTup s.heap a its.toArray/\xs.length<=wC:=by
 rcases h with h | ⟨o,its,n,hk,hc,hs,hz,r⟩
 ·obtain⟨z,its,r,p⟩:=h.ok I.ar
  exact⟨its,r,p,z⟩
 ·refine⟨its.toList,r,⟨o,I.cq a o hk,hc,n,by simpa using hs⟩,?_⟩
  have e:=r.length;simp only[wG]at e
  lia
theorem Inv.EK(I:Inv X pins σ H s)(h:aN X.K H a xs)(h':aN X.K H a ys):xs=ys:=by
 obtain⟨its,r,⟨o,n,e,_,_,d⟩,_⟩:=I.list h;obtain⟨its',r',⟨o',n',e',_,_,d'⟩,_⟩:=I.list h';rw[e]at e';cases e';rw[d]at d'
 injection d' with d1 _
 have:its=its':=by simpa using congrArg uV d1
 subst this;exact r.inj r'
theorem Inv.EC(I:Inv X pins σ H s)(h:aP X.K H a xs)(h':aP X.K H a ys):xs=ys:=by
 obtain⟨its,r,⟨o,e,_,n,d⟩,_⟩:=I.tuple h;obtain⟨its',r',⟨o',e',_,n',d'⟩,_⟩:=I.tuple h';rw[e]at e';cases e';rw[d]at d'
 injection d' with d1 _
 have:its=its':=by simpa using congrArg uV d1
 subst this;exact r.inj r'
end
abbrev Cx.gU(X:Cx)(E:wg->wo->Prop):Cx:={X with xe:=E}
abbrev Cx.rq(X:Cx):Cx:=X.gU λ_ _=>False
theorem Cx.Ok.gU{X:Cx}(ok:X.Ok)(E:wg->wo->Prop):(X.gU E).Ok :=
 ⟨ok.mod,ok.kind,ok.glob,ok.blt,ok.above,ok.inj,ok.has,ok.jF,ok.hd,ok.frames,ok.kx,ok.mD,ok.bs,ok.gG,ok.ju,ok.jW,ok.dw,ok.gD⟩
theorem Cx.Ok.jr{X:Cx}{E:wg->wo->Prop}(ok:(X.gU E).Ok):X.Ok :=
 ⟨ok.mod,ok.kind,ok.glob,ok.blt,ok.above,ok.inj,ok.has,ok.jF,ok.hd,ok.frames,ok.kx,ok.mD,ok.bs,ok.gG,ok.ju,ok.jW,ok.dw,ok.gD⟩
section
variable{X:Cx}{pins:List (wd × Obj)}{σ : St}{H:Hp}{s:wo}{E:wg->wo->Prop}
theorem Inv.gU(I:Inv X pins σ H s)(E:wg->wo->Prop):Inv (X.gU E) pins σ H s:=⟨I.ok.gU E,I.os,I.bare,I.base,I.loc,I.cell,I.free,I.eF,I.pin,I.ar,I.len⟩
theorem Inv.jr(I:Inv (X.gU E) pins σ H s):Inv X pins σ H s:=⟨I.ok.jr,I.os,I.bare,I.base,I.loc,I.cell,I.free,I.eF,I.pin,I.ar,I.len⟩
theorem SP.jr{D:ck}{f:Flow}{s':wo}(h:SP (X.gU E) pins D f s'):SP X pins D f s':=by
 cases f with
 | next=>obtain⟨σ',H',I,q⟩:=h;exact⟨σ',H',I.jr,q⟩
 | brk=>obtain⟨σ',H',I,q⟩:=h;exact⟨σ',H',I.jr,q⟩
 | cont=>obtain⟨σ',H',I,q⟩:=h;exact⟨σ',H',I.jr,q⟩
 | ret u=>obtain⟨v,σ',H',I,r,q⟩:=h;exact⟨v,σ',H',I.jr,r,q⟩
theorem cV.rq{st:List vq}{t:TS}(h:cV X.rq st t):cV X st t:=λpins s σ H D I hw =>
 vU (h pins s σ H D (I.gU _) hw) (λ_ _ q=>q.jr) λ_ _ z=>WX z
end
section
variable{X:Cx}{st:vq}{aO:List vq}{t u:TS}{e:Expr}{te:TE}{pos:Pos}
def CD:TS:=λD σ H=>D.nx σ H
def kG(t u:TS):TS:=λD σ H=>t {D with nx:=u D} σ H
theorem bH:cV X [] CD:=λ_ _ σ H _ I h=>qq ⟨σ,H,I,h⟩
theorem aF(h1:PS X st t)(h2:cV X aO u):cV X (st::aO) (kG t u):=by
 intro pins s σ H D I h;refine wpAny_execs_cons (aq (h1 pins s σ H {D with nx:=u D} I h) λf s1 q=>?_);cases f with
 | next =>
  obtain⟨σ',H',I',q⟩:=q;exact h2 pins s1 σ' H' D I' q
 | ret v=>exact q
 | brk=>exact q
 | cont=>exact q
theorem aA(h1:PS X st t):cV X [st] t:=by
 intro pins s σ H D I h;refine wpAny_execs_cons (aq (h1 pins s σ H D I h) λf s1 q=>?_);cases f with
 | next=>exact qq q
 | ret v=>exact q
 | brk=>exact q
 | cont=>exact q
theorem Inv.quiet{pins:List (wd × Obj)}{σ : St}{H:Hp}{s:wo}(I:Inv X pins σ H s):interactive X.env=false:=by simp[interactive,I.ok.kind]
def Ac(te:TE):TS:=λD σ H=>te σ H λ_ H1=>D.nx σ H1
theorem GB(he:PE X e te)(hs:swapsWith e none pos.line X.env=pure false:=by rfl):PS X (.Expr e pos) (Ac te):=by
 intro pins s σ H D I h;exact wpAny_Expr_any (aq (he pins s σ H _ I h) λv s1 ⟨x,H1,I1,r1,q1⟩=>⟨σ,H1,I1,q1⟩) I.quiet hs
def zi(te:TE):TS:=λD σ H=>te σ H D.rt
theorem aG(he:PE X e te):PS X (.Return (some e) pos) (zi te):=by
 intro pins s σ H D I h;exact wpAny_Return_some (aq (he pins s σ H _ I h) λv s1 ⟨x,H1,I1,r1,q1⟩=>⟨x,σ,H1,I1,r1,q1⟩)
def zu(c:TT)(t u:TS):TS:=λD σ H=>c σ H λb H1=>if b=true then t D σ H1 else u D σ H1
theorem bI{c:Expr}{a b:List vq}{tc:TT}(hc:PT X c tc)(ha:cV X a t)(hb:cV X b u):PS X (.If c a b pos) (zu tc t u):=by
 intro pins s σ H D I h;refine wpAny_If (aq (hc pins s σ H _ I h) λd s1 ⟨H1,I1,q1⟩=>?_);cases d with
 | true=>exact ha pins s1 σ H1 D I1 q1
 | false=>exact hb pins s1 σ H1 D I1 q1
end
abbrev TG:=V->St->Hp->(St->Hp->Prop)->Prop
abbrev iY:=List V->St->Hp->(St->Hp->Prop)->Prop
def PG(X:Cx)(target:Expr)(t:TG):Prop :=
 ∀(pins:List (wd × Obj))(s:wo)(σ : St)(H:Hp)(v:V)(u:wg)(Q:St->Hp->Prop),Inv X pins σ H s->aW v u->t v σ H Q ->
  wA (model X.prog X.w) X.A (assign target X.env u) (λ_ s'=>∃σ' H',Inv X pins σ' H' s'/\Q σ' H') X.xe s
def pq(X:Cx)(ts:List Expr)(t:iY):Prop :=
 ∀(pins:List (wd × Obj))(s:wo)(σ : St)(H:Hp)(vs:List V)(us:List wg)(Q:St->Hp->Prop),Inv X pins σ H s->aC vs us->t vs σ H Q ->
  wA (model X.prog X.w) X.A (assignInOrder ((assignEach ts X.env).map (·.2)) us) (λ_ s'=>∃σ' H',Inv X pins σ' H' s'/\Q σ' H') X.xe s
abbrev r8:=V->V->V->Hp->(Hp->Prop)->Prop
def GZ(X:Cx)(t:r8):Prop :=
 ∀(pins:List (wd × Obj))(s:wo)(σ : St)(H:Hp)(o i v:V)(ov iv u:wg)(Q:Hp->Prop),Inv X pins σ H s->aW o ov->aW i iv->aW v u->t o i v H Q ->
  wA (model X.prog X.w) X.A (setItem ov iv u) (λ_ s'=>∃H',Inv X pins σ H' s'/\Q H') X.xe s
abbrev TIp:=V->V->Hp->VK->Prop
section
variable{X:Cx}{pos:Pos}
def fg(i:Nat):TG:=λv σ H Q=>Q (σ.set i (some v)) H
theorem bZ{i:Nat}{x:Str}(hN:X.N.Nodup)(hi:X.N[i]? = some x)(hx:Loc X.env.scope x)(hf:X.fn x=true\/X.env.scope.names.lookup x=some .local:=by first | exact .inl rfl | exact .inr rfl | assumption):PG X (.Name x pos) (fg i):=by
 intro pins s σ H v u Q I r h;exact wpAny_assign_Name (mQ I hN hi hx r (λs' I'=>⟨_,H,I',h⟩) hf)
def zx:iY:=λvs σ H Q=>vs=[]/\Q σ H
def tE(t:TG)(u:iY):iY:=λvs σ H Q=>∃v r,vs=v::r/\t v σ H λσ' H'=>u r σ' H' Q
theorem yZ:pq X [] zx:=by
 intro pins s σ H vs us Q I r h;obtain⟨e,h⟩:=h;subst e;cases r;exact assignInOrder_nil ⟨σ,H,I,h⟩
theorem j_{e:Expr}{es:List Expr}{t:TG}{u:iY}(h1:PG X e t)(h2:pq X es u)
  (hs:(assignEach (e::es) X.env).map (·.2)=assign e X.env::(assignEach es X.env).map (·.2):=by rfl):pq X (e::es) (tE t u):=by
 intro pins s σ H vs us Q I r h;obtain⟨v,vr,e1,h⟩:=h;subst e1;cases r with
 | cons r rr =>
  rw[hs];refine assignInOrder_cons (aq (h1 pins s σ H _ _ _ I r h) λ_ s1 ⟨σ1,H1,I1,q1⟩=>?_);exact h2 pins s1 σ1 H1 _ _ Q I1 rr q1
def mR(K:wa)(n:Nat)(t:iY):TG:=λv σ H Q=>∃a xs,v=.ref a/\aP K H a xs/\xs.length=n/\t xs σ H Q
theorem BK{es:List Expr}{k:Nat}{t:iY}{n:Nat}(hc:X.calm=true)(h:pq X es t)
  (hn:(assignEach es X.env).length=n:=by rfl) (hst:(assignEach es X.env).findIdx? (·.1)=none:=by rfl):PG X (.Tuple es k pos) (mR X.K n t):=by
 intro pins s σ H v u Q I r hw;obtain⟨a,xs,e1,hq,hl,hw⟩:=hw;subst e1;cases r;obtain⟨its,rv,ht,hz⟩:=I.tuple hq;refine assign_Tuple_tuple (I.ok.hd hc) ht (by simp[hn,<- hl,rv.length]) hst λh' hx=>?_
 have I1:Inv X pins σ H {s with heap:=h'}:=I.kept (t':=s.toks) λb o e=>hx b o (wZ (wH e)) e
 exact h pins _ σ H xs _ Q I1 (by simpa using rv) hw
def Ks(to ti:TE)(t:r8):TG:=λv σ H Q=>to σ H λo H1=>ti σ H1 λi H2=>t o i v H2 λH3=>Q σ H3
theorem Ck{o i:Expr}{to ti:TE}{t:r8}(ho:PE X o to)(hi:PE X i ti)(hs:GZ X t)
  (ha:∀v,assign (.Subscript o i pos) X.env v=(do
   let ov <- holding [v] (eval o X.env)
   let iv <- holding [v,ov] (eval i X.env)
   standAt pos
   holding [v,ov,iv] (setItem ov iv v)
   release [v,ov,iv] []):=by intro _;rfl):PG X (.Subscript o i pos) (Ks to ti t):=by
 intro pins s σ H v u Q I r h;rw[ha];refine wj (Wa (aq (ho pins s σ H _ I h) λov s1 ⟨x,H1,I1,r1,q1⟩=>?_));refine wj (Wa (aq (hi pins s1 σ H1 _ I1 q1) λiv s2 ⟨y,H2,I2,r2,q2⟩=>?_));refine wj (wpAny_standAt (wj (Wa (aq (hs pins s2 σ H2 x y v ov iv u _ I2 r1 r2 r q2) λ_ s3 ⟨H3,I3,q3⟩=>?_))));exact wpAny_release ⟨σ,H3,I3,q3⟩
def jo(te:TE)(g:TG):TS:=λD σ H=>te σ H λx H1=>g x σ H1 D.nx
theorem Cq{tg e:Expr}{te:TE}{g:TG}(he:PE X e te)(hg:PG X tg g)(hs:swapsWithSole [tg] e pos.line X.env=pure false:=by rfl)(hw:swappedStores [tg] e X.env=pure none:=by rfl)
  (h1:(assignEach [tg] X.env).map (·.2)=[assign tg X.env]:=by rfl):PS X (.Assign [tg] e pos) (jo te g):=by
 intro pins s σ H D I h;refine wpAny_Assign_stores (aq (he pins s σ H _ I h) λv s1 ⟨x,H1,I1,r1,q1⟩=>?_) hs hw;rw[h1];exact aq (hg pins s1 σ H1 x v _ I1 r1 q1) λ_ s2 q=>q
theorem Fx{i:Nat}{x:Str}{e:Expr}{te:TE}{pos':Pos}(hN:X.N.Nodup)(hi:X.N[i]? = some x)(hx:Loc X.env.scope x)(he:PE X e te)(hs:swapsWith e (some (.Name x pos')) pos.line X.env=pure false:=by rfl)(hf:X.fn x=true\/X.env.scope.names.lookup x=some .local:=by first | exact .inl rfl | exact .inr rfl | assumption) :
  PS X (.Assign [.Name x pos'] e pos) (jo te (fg i)):=by
 intro pins s σ H D I h;refine wpAny_Assign_Name (aq (he pins s σ H _ I h) λv s1 ⟨y,H1,I1,r1,q1⟩=>?_) hs;exact mQ I1 hN hi hx r1 (λs2 I2=>⟨_,H1,I2,q1⟩) hf
end
section
variable{X:Cx}{pos:Pos}
def IZ(c:TT)(tb:TS):TS:=λD σ H=>∃W:Nat->St->Hp->Prop,(∃m,W m σ H) /\ ∀m σ H,W m σ H ->
 c σ H λb H1=>if b=true then ∃N:St->Hp->Prop,(∀σ' H',N σ' H'->∃m',m'<m/\W m' σ' H')/\tb {D with nx:=N,ct:=N,bk:=D.nx} σ H1 else D.nx σ H1
theorem zt2{c:Expr}{body:List vq}{tc:TT}{tb:TS}(hp:PassesOwn (model X.prog X.w) X.A X.env X.xe)(hc:PT X c tc)(hb:cV X body tb):PS X (.While c body [] pos) (IZ tc tb):=by
 intro pins s σ H D I h;obtain⟨W,⟨m0,w0⟩,turn⟩:=h;refine wpAny_While (codeAny_whileLoop (λn s'=>∃σ' H',Inv X pins σ' H' s'/\W n σ' H') ?_ m0 ⟨σ,H,I,w0⟩);rintro n s1 ⟨σ1,H1,I1,w1⟩;refine Vk hp (aq (hc pins s1 σ1 H1 _ I1 (turn n σ1 H1 w1)) λb s2 ⟨H2,I2,q2⟩=>?_);cases b with
 | true =>
  obtain⟨N,hN,q2⟩:=q2;rw[if_pos rfl];refine Vk hp (aq (hb pins s2 σ1 H2 _ I2 q2) λf s3 q3=>?_);cases f with
  | next =>
   obtain⟨σ3,H3,I3,n3⟩:=q3;obtain⟨m',hm,w3⟩:=hN σ3 H3 n3;exact⟨m',hm,σ3,H3,I3,w3⟩
  | cont =>
   obtain⟨σ3,H3,I3,n3⟩:=q3;obtain⟨m',hm,w3⟩:=hN σ3 H3 n3;exact⟨m',hm,σ3,H3,I3,w3⟩
  | brk=>exact q3
  | ret v=>exact q3
 | false =>
  rw[if_neg vG];exact qq ⟨σ1,H2,I2,q2⟩
end
structure It where
 go:Nat->Hp->Prop
 gj:Nat->Hp->V->Hp->Prop
 stop:Nat->Hp->Prop
def cD(X:Cx)(pins:List (wd × Obj))(H:Hp)(b:wd):Prop :=
 H b=none/\b≠X.env.locals/\b ∉ X.fs/\(b∈X.ex\/X.s₀.heap.objs.size<=b)/\(∀x c,X.env.cells.lookup x=some c->c≠b) /\ ∀p∈X.pn++pins,p.1≠b
theorem Inv.iO{X:Cx}{pins:List (wd × Obj)}{σ : St}{H H':Hp}{s:wo}{b:wd}(I:Inv X pins σ H s)(hb:s.heap.objs.size<=b)(hn:H' b=none):cD X pins H' b:=by
 refine⟨hn,vO (ve I.lt hb),I.N1 hb,.inr (vd I.sz hb),λx c e z=>?_,λp hp z=>?_⟩
 ·obtain⟨v,q⟩:=I.cell x c e
  exact absurd (ve q.lt (by rw[z];exact hb)) (WW _)
 ·exact absurd (ve (wH (I.pin p hp).1) (by rw[z];exact hb)) (WW _)
structure ip(P:wV)(w:wR)(K:wa)(tg:Expr)(J:It)(fp:List wd)(it:wd)(tn:Nat->wK->Prop):Prop where
 mem:it∈fp
 obj:∀i h,tn i h->∀b∈fp,∃o,h.get? b=some o /\ ∀v,o.data≠.cell v
 keep:∀i h h',tn i h->(∀b∈fp,∀o,h.get? b=some o->h'.get? b=some o)->tn i h'
 item:∀(X:Cx),X.prog=P->X.w=w->X.K=K->X.calm=true->∀(i:Nat)(pins:List (wd × Obj))(s:wo)(σ : St)(H:Hp)(E:wg->wo->Prop),Inv X pins σ H s->(∀b∈fp,cD X pins H b)->tn i s.heap->J.go i H ->
   wA (model P w) X.A (pyNext (.ref it)) (λr s1=>∃u,r=some u /\
     wA (model P w) X.A (VW tg (.ref it) u) (λ_ s2=>∃x H',Inv X pins σ H' s2/\aW x u/\J.gj i H x H'/\tn (i+1) s2.heap /\ ∀b∈fp,H' b=none) E s1) E s
 done:∀(X:Cx),X.prog=P->X.w=w->X.K=K->X.calm=true->∀(i:Nat)(pins:List (wd × Obj))(s:wo)(σ : St)(H:Hp)(E:wg->wo->Prop),Inv X pins σ H s->(∀b∈fp,cD X pins H b)->tn i s.heap->J.stop i H ->
   wA (model P w) X.A (pyNext (.ref it)) (λr s1=>r=none/\Inv X pins σ H s1) E s
 self:∀(A:vm)(i:Nat)(s:wo)(Q:wg->wo->Prop)(E:wg->wo->Prop),tn i s.heap->Q (.ref it) s->wA (model P w) A (pyIter (.ref it)) Q E s
abbrev TI:=St->Hp->(It->Hp->Prop)->Prop
def Bc(X:Cx)(pins:List (wd × Obj))(σ : St)(tg:Expr)(R:It->Hp->Prop)(itv:wg)(s2:wo):Prop :=
 ∃(it:wd)(fp:List wd)(tn:Nat->wK->Prop)(J:It)(H':Hp),itv=.ref it/\Inv X pins σ H' s2/\ip X.prog X.w X.K tg J fp it tn/\tn 0 s2.heap/\(∀b∈fp,cD X pins H' b)/\R J H'
def PI(X:Cx)(tg iter:Expr)(wi:TI):Prop :=
 ∀(pins:List (wd × Obj))(s:wo)(σ : St)(H:Hp)(R:It->Hp->Prop),Inv X pins σ H s->wi σ H R ->
  wA (model X.prog X.w) X.A (eval iter X.env) (λv s1=>wA (model X.prog X.w) X.A (pyIter v) (Bc X pins σ tg R) X.xe s1) X.xe s
theorem yc{M:Model}{A:vm}{E:wg->wo->Prop}{s:wo}{tg:Expr}{it:wd}{u:wg}{o:Obj}{n:String}{vs:Array wg}{Q:Unit->wo->Prop}(ho:s.heap.get? it=some o)(hc:o.cls=.type n)(hd:o.data=.fields vs)
   (hn:["enumerate","zip","dict_itemiterator","dict_reverseitemiterator","odict_iterator","itertools.zip_longest","itertools.pairwise"].contains n=false) (hQ:Q () s):wA M A (VW tg (.ref it) u) Q E s:=by
 unfold VW
 cases tg<;>first
   | exact wz hQ
   | (cases u<;>first
       | exact wz hQ
       | (refine wj (wpAny_load ho ?_)
          rw[hc,hd]
          show wA M A (if(["enumerate","zip","dict_itemiterator","dict_reverseitemiterator","odict_iterator","itertools.zip_longest","itertools.pairwise"].contains n&&vs[0]? == some (rawInt _))=true then _ else _) Q E s
          rw[if_neg (by intro h;rw[hn,vi]at h;cases h)];exact wz hQ))
def iK(K:wa)(a:wd):It :=
 ⟨λi H=>∃xs x,aN K H a xs/\xs[i]? = some x,λi H x H'=>H'=H /\ ∀xs,aN K H a xs->xs[i]? = some x,λi H=>∃xs,aN K H a xs/\xs.length<=i⟩
def rW(K:wa)(a:wd):It :=
 ⟨λi H=>∃xs x,aP K H a xs/\xs[i]? = some x,λi H x H'=>H'=H /\ ∀xs,aP K H a xs->xs[i]? = some x,λi H=>∃xs,aP K H a xs/\xs.length<=i⟩
def iU(lo:Int)(n:Nat):It:=⟨λi _=>i<n,λi H x H'=>H'=H/\x=.int (lo+i),λi _=>n<=i⟩
theorem HR{P:wV}{w:wR}{K:wa}{tg:Expr}(a it:wd):ip P w K tg (iK K a) [it] it (λi h=>h.IsListIter it a i) where
 mem:=by simp
 obj:=λi h st b hb=>by
  have e:b=it:=by simpa using hb
  subst e;obtain⟨o,e,c,d⟩:=st;exact⟨o,e,λv z=>by rw[d]at z;cases z⟩
 keep:=λi h h' st k=>st.at λo e=>k it (by simp) o e
 item:=by
  intro X hP hw hK hc i pins s σ H E I hf st hg;subst hP hw hK;obtain⟨xs,x,hq,hx⟩:=hg;obtain⟨its,rv,p,hz⟩:=I.list hq;obtain⟨u,hu,ru⟩:=rv.get hx;obtain⟨f0,f1,f2,f3,f4,f5⟩:=hf it (by simp);refine wpAny_pyNext_list_item st p.isList (x:=u) (by simpa using hu) λh' st' sb=>?_
  have I1:Inv X pins σ H {s with heap:=h'}:=I.turned (t':=s.toks) (λb o hb e=>(sb.2 b hb).trans e) f0 f1 f3 f4 f5;obtain⟨o,e,c,d⟩:=id st';exact⟨u,rfl,yc (s:={s with heap:=h'}) e c d (by decide) ⟨x,H,I1,ru,⟨rfl,λys hy=>by rw[I.EK hy hq];exact hx⟩,st',λb hb=>(hf b hb).1⟩⟩
 done:=by
  intro X hP hw hK hc i pins s σ H E I hf st hg;subst hP hw hK;obtain⟨xs,hq,hx⟩:=hg;obtain⟨its,rv,p,hz⟩:=I.list hq;obtain⟨f0,f1,f2,f3,f4,f5⟩:=hf it (by simp);have hl:=rv.length;exact wpAny_pyNext_list_end (I.ok.hd hc) st p.isList (by simp;lia) λh' eb=>⟨rfl,I.turned (t':=s.toks) (λb o hb e=>eb b o hb e) f0 f1 f3 f4 f5⟩
 self:=λ_ _ _ _ _ st h=>wpAny_pyIter_listiter st h
theorem G6{P:wV}{w:wR}{K:wa}{tg:Expr}(a it:wd):ip P w K tg (rW K a) [it] it (λi h=>h.IsTupleIter it a i) where
 mem:=by simp
 obj:=λi h st b hb=>by
  have e:b=it:=by simpa using hb
  subst e;obtain⟨o,e,c,d⟩:=st;exact⟨o,e,λv z=>by rw[d]at z;cases z⟩
 keep:=λi h h' st k=>st.at λo e=>k it (by simp) o e
 item:=by
  intro X hP hw hK hc i pins s σ H E I hf st hg;subst hP hw hK;obtain⟨xs,x,hq,hx⟩:=hg;obtain⟨its,rv,p,hz⟩:=I.tuple hq;obtain⟨u,hu,ru⟩:=rv.get hx;obtain⟨f0,f1,f2,f3,f4,f5⟩:=hf it (by simp);refine wpAny_pyNext_tuple_item st (show s.heap.IsTuple a its.toArray from p) (x:=u) (by simpa using hu) λh' st' sb=>?_
  have I1:Inv X pins σ H {s with heap:=h'}:=I.turned (t':=s.toks) (λb o hb e=>(sb.2 b hb).trans e) f0 f1 f3 f4 f5;obtain⟨o,e,c,d⟩:=id st';exact⟨u,rfl,yc (s:={s with heap:=h'}) e c d (by decide) ⟨x,H,I1,ru,⟨rfl,λys hy=>by rw[I.EC hy hq];exact hx⟩,st',λb hb=>(hf b hb).1⟩⟩
 done:=by
  intro X hP hw hK hc i pins s σ H E I hf st hg;subst hP hw hK;obtain⟨xs,hq,hx⟩:=hg;obtain⟨its,rv,p,hz⟩:=I.tuple hq;obtain⟨f0,f1,f2,f3,f4,f5⟩:=hf it (by simp);have hl:=rv.length;exact wpAny_pyNext_tuple_end (I.ok.hd hc) st (show s.heap.IsTuple a its.toArray from p) (by simp;lia) λh' eb=>⟨rfl,I.turned (t':=s.toks) (λb o hb e=>eb b o hb e) f0 f1 f3 f4 f5⟩
 self:=λ_ _ _ _ _ st h=>wpAny_pyIter_tupleiter st h
theorem OB{P:wV}{w:wR}{K:wa}{tg:Expr}(it:wd)(lo:Int)(n:Nat):ip P w K tg (iU lo n) [it] it (λi h=>IsRangeIter h it (lo+(i:Nat)*1) ((n:Int)-(i:Nat)) 1) where
 mem:=by simp
 obj:=λi h st b hb=>by
  have e:b=it:=by simpa using hb
  subst e
  exact⟨_,st,λv z=>by
   have z':Data.fields _=Data.cell v:=z;cases z'⟩
 keep:=λi h h' st k=>k it (by simp) _ st
 item:=by
  intro X hP hw hK hc i pins s σ H E I hf st hg;subst hP hw hK;obtain⟨f0,f1,f2,f3,f4,f5⟩:=hf it (by simp);have W:=Walks.range (prog:=X.prog) (w:=X.w) (I.ok.hd hc) it lo 1 n;refine W.item i s _ _ hg st λv h' tk hv st' kk=>?_
  obtain⟨t,rfl⟩:=hv;have I1:Inv X pins σ H {s with heap:=h',toks:=tk}:=I.turned (λb o hb e=>kk b o (by simpa using hb) e) f0 f1 f3 f4 f5;refine⟨_,rfl,yc (s:={s with heap:=h',toks:=tk}) (n:="range_iterator") st' rfl rfl (by decide) ⟨.int (lo+i),H,I1,⟨t,?_⟩,⟨rfl,rfl⟩,st',λb hb=>(hf b hb).1⟩⟩;rw[Int.mul_one]
 done:=by
  intro X hP hw hK hc i pins s σ H E I hf st hg;subst hP hw hK;obtain⟨f0,f1,f2,f3,f4,f5⟩:=hf it (by simp);exact wpAny_pyNext_range_end (I.ok.hd hc) st (by have:n<=i:=hg;lia) λh' eb=>⟨rfl,I.turned (t':=s.toks) (λb o hb e=>eb b o hb e) f0 f1 f3 f4 f5⟩
 self:=λ_ _ _ _ _ st h=>wpAny_pyIter_rangeiter st h
section
variable{X:Cx}{tg:Expr}
def Cn(K:wa)(tl:TE):TI:=λσ H R=>tl σ H λx H1=>∃a,x=.ref a/\(∃xs,aN K H1 a xs)/\R (iK K a) H1
def GD(K:wa)(tl:TE):TI:=λσ H R=>tl σ H λx H1=>∃a,x=.ref a/\(∃xs,aP K H1 a xs)/\R (rW K a) H1
theorem fc{l:Expr}{tl:TE}(hl:PE X l tl):PI X tg l (Cn X.K tl):=by
 intro pins s σ H R I h;refine aq (hl pins s σ H _ I h) λv s1 ⟨x,H1,I1,r1,q1⟩=>?_
 obtain⟨a,e,⟨xs,hq⟩,q⟩:=q1;subst e;cases r1;obtain⟨its,rv,p,hz⟩:=I1.list hq;refine W8 p.isList ?_;refine⟨s1.heap.objs.size,[s1.heap.objs.size],_,_,H1,rfl,I1.kept (t':=s1.toks) λb o e=>wk _ e,HR a _,⟨_,wE _ rfl,rfl,rfl⟩,λb hb=>?_,q⟩;have e:b=s1.heap.objs.size:=by simpa using hb
 subst e;exact I1.iO (wx _) (I1.ar.fresh (wx _))
theorem zxq{l:Expr}{tl:TE}(hl:PE X l tl):PI X tg l (GD X.K tl):=by
 intro pins s σ H R I h;refine aq (hl pins s σ H _ I h) λv s1 ⟨x,H1,I1,r1,q1⟩=>?_
 obtain⟨a,e,⟨xs,hq⟩,q⟩:=q1;subst e;cases r1;obtain⟨its,rv,p,hz⟩:=I1.tuple hq;refine Vf (show s1.heap.IsTuple a its.toArray from p) ?_;refine⟨s1.heap.objs.size,[s1.heap.objs.size],_,_,H1,rfl,I1.kept (t':=s1.toks) λb o e=>wk _ e,G6 a _,⟨_,wE _ rfl,rfl,rfl⟩,λb hb=>?_,q⟩;have e:b=s1.heap.objs.size:=by simpa using hb
 subst e;exact I1.iO (wx _) (I1.ar.fresh (wx _))
theorem OO{pins:List (wd × Obj)}{σ : St}{H:Hp}{s:wo}{R:It->Hp->Prop}{E:wg->wo->Prop}{lo hi:Int}{t u v:Tok}{tk:Nat}(I:Inv X pins σ H s)(h1 : -(2^62)<=lo)(h2:lo<2^62)(h3 : -(2^62)<=hi)(h4:hi<2^62)
  (q:R (iU lo (hi-lo).toNat) H):wA (model X.prog X.w) X.A (pyIter (.ref s.heap.objs.size)) (Bc X pins σ tg R) E {s with heap:=s.heap.push {cls:=.type "range",data:=.fields #[.int lo t,.int hi u,.int 1 v]},toks:=tk}:=by
 refine wpAny_pyIter_range (IsRange.new ..) (small_one h1 h2 h3 h4) ?_;have I1:Inv X pins σ H {s with heap:=s.heap.push {cls:=.type "range",data:=.fields #[.int lo t,.int hi u,.int 1 v]},toks:=tk}:=I.kept λb o e=>wk _ e
 refine⟨(s.heap.push {cls:=.type "range",data:=.fields #[.int lo t,.int hi u,.int 1 v]}).objs.size,[(s.heap.push {cls:=.type "range",data:=.fields #[.int lo t,.int hi u,.int 1 v]}).objs.size],_,_,H,rfl,
  I1.kept (t':=tk) λb o e=>wk _ e,OB _ lo (hi-lo).toNat,?_,λb hb=>?_,q⟩
 ·have e1:lo+((0:Nat):Int)*1=lo:=by simp
  have e2:(((hi-lo).toNat:Nat):Int)-((0:Nat):Int)=u5 lo hi 1:=by rw[rangeSize_one];split<;>lia
  show IsRangeIter _ _ (lo+((0:Nat):Int)*1) ((((hi-lo).toNat:Nat):Int)-((0:Nat):Int)) 1
  rw[e1,e2];exact wE _ rfl
 ·have e:b=(s.heap.push {cls:=.type "range",data:=.fields #[.int lo t,.int hi u,.int 1 v]}).objs.size:=by simpa using hb
  subst e;exact I1.iO (wx _) (I1.ar.fresh (wx _))
def KL(ta:TA):TI:=λσ H R=>ta σ H λvs H1=>∃j:Int,vs=[.int j] /\ -(2^62)<=j/\j<2^62/\R (iU 0 j.toNat) H1
theorem Oc{a:Expr}{ta:TA}{p pos:Pos}(hg:Gl X "range")(hm:X.mg "range"=none)(ha:PA X [a] ta)(hs:w5 [a] X.env=[(false,eval a X.env)]:=by rfl):PI X tg (.Call (.Name "range" p) [a] [] pos) (KL ta):=by
 intro pins s σ H R I h;refine Call_ (mJ I hg hm boot_range (qb (aq (ha pos pins s σ H _ I h) λus s1 ⟨vs,H1,I1,r1,q1⟩=>?_) hs rfl));obtain⟨j,e,q1,q2,q⟩:=q1;subst e;cases r1 with
 | cons r rr =>
  cases rr;obtain⟨t,rfl⟩:=r;exact call_range_1 (OO I1 (by lia) (by lia) q1 q2 (by simpa using q))
def tG(wi:TI)(g:TG)(tb:TS):TS:=λD σ H=>wi σ H λJ H1=>∃W:Nat->Nat->St->Hp->Prop,(∃m,W 0 m σ H1) /\ ∀i m σ H,W i m σ H ->
 (J.stop i H/\D.nx σ H)\/(J.go i H /\ ∃N:St->Hp->Prop,(∀σ' H',N σ' H'->∃m',m'<m/\W (i+1) m' σ' H') /\ ∀x H',J.gj i H x H'->g x σ H' λσ2 H2=>tb {D with nx:=N,ct:=N,bk:=D.nx} σ2 H2)
def lI(fp:List wd)(h:wK):List (wd × Obj):=fp.filterMap λb=>(h.get? b).map λo=>(b,o)
theorem kI{fp:List wd}{h:wK}{b:wd}{o:Obj}(hb:b∈fp)(e:h.get? b=some o):(b,o)∈lI fp h:=VS.mpr ⟨b,hb,by rw[e];rfl⟩
theorem Om{fp:List wd}{h:wK}{p:wd × Obj}(hp:p∈lI fp h):p.1∈fp/\h.get? p.1=some p.2:=by
 obtain⟨b,hb,e⟩:=VS.mp hp;cases q:h.get? b with
 | none=>rw[q]at e;cases e
 | some o =>
  rw[q]at e;have e':(b,o)=p:=vo e;subst e';exact⟨hb,q⟩
theorem Inv.pinned{pins:List (wd × Obj)}{σ : St}{H:Hp}{s:wo}{fp:List wd}(I:Inv X pins σ H s)(hf:∀b∈fp,cD X pins H b)(ho:∀b∈fp,∃o,s.heap.get? b=some o /\ ∀v,o.data≠.cell v):Inv X (pins++lI fp s.heap) σ H s :=
 I.Ff λp hp=>(Wf.mp hp).elim (λz=>I.pin p (vv _ z)) λz=>by
  obtain⟨hb,e⟩:=Om z;obtain⟨f0,f1,f2,_⟩:=hf p.1 hb;obtain⟨o,e',d⟩:=ho p.1 hb;rw[e]at e';cases e';exact⟨e,f0,f1,f2,d⟩
theorem Inv.kA{pins pl:List (wd × Obj)}{σ : St}{H:Hp}{s:wo}(I:Inv X (pins++pl) σ H s):Inv X pins σ H s:=I.Ff λp hp=>I.pin p (vv _ (Wl _ hp))
theorem UQ{iter:Expr}{body:List vq}{wi:TI}{g:TG}{tb:TS}{pos:Pos}(hp:PassesOwn (model X.prog X.w) X.A X.env X.xe)(hc:X.calm=true)(hi:PI X tg iter wi)(hg:PG X tg g)(hb:cV X body tb)
  (hs:∀x,V7 iter X.env x=pure x:=by intro _;rfl):PS X (.For tg iter body [] pos) (tG wi g tb):=by
 intro pins s σ H D I h;refine wpAny_For (aq (hi pins s σ H _ I h) λv s1 h1=>aq h1 λitv s2 h2=>?_) hs;obtain⟨it,fp,tn,J,H2,e,I2,T,st2,f2,W,⟨m0,w0⟩,turn⟩:=h2;subst e
 -- what stays true of the iterator's objects through the loop
 have stat:∀{H':Hp},(∀b∈fp,H' b=none)->∀b∈fp,cD X pins H' b:=λhn b hb=>⟨hn b hb,(f2 b hb).2⟩
 refine codeAny_forLoop_any (λn s'=>∃i σ' H',Inv X pins σ' H' s'/\tn i s'.heap/\(∀b∈fp,H' b=none)/\W i n σ' H') ?_ m0 ⟨0,σ,H2,I2,st2,λb hb=>(f2 b hb).1,w0⟩;rintro n s3 ⟨i,σ3,H3,I3,st3,fr3,w3⟩;rcases turn i n σ3 H3 w3 with⟨stop,qn⟩ | ⟨go,N,hN,step⟩
 ·refine Vk hp (aq (T.done X rfl rfl rfl hc i pins s3 σ3 H3 X.xe I3 (stat fr3) st3 stop) λr s4 ⟨hr,I4⟩=>?_)
  subst hr;exact qq ⟨σ3,H3,I4,qn⟩
 ·refine Vk hp (aq (T.item X rfl rfl rfl hc i pins s3 σ3 H3 X.xe I3 (stat fr3) st3 go) λr s4 ⟨u,hr,h4⟩=>?_)
  subst hr;refine Vk hp (aq h4 λ_ s5 ⟨x,H5,I5,r5,y5,st5,fr5⟩=>?_);have I5':=I5.pinned (stat fr5) (T.obj _ _ st5);refine Vk hp (aq (hg _ s5 σ3 H5 x u _ I5' r5 (step x H5 y5)) λ_ s6 ⟨σ6,H6,I6,q6⟩=>?_);refine Vk hp (aq (hb _ s6 σ6 H6 _ I6 q6) λf s7 q7=>?_)
  have again:∀{σ7:St}{H7:Hp},Inv X (pins++lI fp s5.heap) σ7 H7 s7->N σ7 H7->∃m,m<n /\ ∃i σ' H',Inv X pins σ' H' s7/\tn i s7.heap/\(∀b∈fp,H' b=none)/\W i m σ' H':=λ{σ7 H7} I7 n7=>by
   obtain⟨m',hm,w7⟩:=hN σ7 H7 n7;refine⟨m',hm,i+1,σ7,H7,I7.kA,T.keep _ _ _ st5 λb hb o e=>(I7.pin (b,o) (vv _ (vv _ (kI hb e)))).1,λb hb=>?_,w7⟩;obtain⟨o,e,d⟩:=T.obj _ _ st5 b hb;exact(I7.pin (b,o) (vv _ (vv _ (kI hb e)))).2.1
  cases f with
  | next=>obtain⟨σ7,H7,I7,n7⟩:=q7;exact again I7 n7
  | cont=>obtain⟨σ7,H7,I7,n7⟩:=q7;exact again I7 n7
  | brk=>obtain⟨σ7,H7,I7,q7⟩:=q7;exact⟨σ7,H7,I7.kA,q7⟩
  | ret v=>obtain⟨x7,σ7,H7,I7,r7,q7⟩:=q7;exact⟨x7,σ7,H7,I7.kA,r7,q7⟩
end
theorem Ym{K:wa}{a:wd}{xs:List V}{g:TG}{tb:TS}{D:ck}{σ : St}{H:Hp}(Pv:Nat->St->Hp->Prop)(h0:Pv 0 σ H)(hl:∀i σ H,i<=xs.length->Pv i σ H->aN K H a xs)
  (hs:∀i x σ H,xs[i]? = some x->Pv i σ H->g x σ H λσ2 H2=>tb {D with nx:=Pv (i+1),ct:=Pv (i+1),bk:=D.nx} σ2 H2) (hd:∀σ H,Pv xs.length σ H->D.nx σ H) :
  ∃W:Nat->Nat->St->Hp->Prop,(∃m,W 0 m σ H) /\ ∀i m σ H,W i m σ H ->
   ((iK K a).stop i H/\D.nx σ H)\/((iK K a).go i H /\ ∃N:St->Hp->Prop,(∀σ' H',N σ' H'->∃m',m'<m/\W (i+1) m' σ' H') /\ ∀x H',(iK K a).gj i H x H'->g x σ H' λσ2 H2=>tb {D with nx:=N,ct:=N,bk:=D.nx} σ2 H2):=by
 refine⟨λi m σ H=>m=xs.length-i/\i<=xs.length/\Pv i σ H,⟨xs.length,by simp,vM _,h0⟩,?_⟩;rintro i m σ H ⟨rfl,hi,p⟩;have q:=hl i σ H hi p
 by_cases hlt:i<xs.length
 ·refine .inr ⟨⟨xs,xs[i],q,by simp[hlt]⟩,Pv (i+1),λσ' H' p'=>⟨xs.length-(i+1),by lia,rfl,hlt,p'⟩,λx H' y=>?_⟩
  obtain⟨e,y⟩:=y;subst e;exact hs i x σ _ (y xs q) p
 ·have e:i=xs.length:=by lia
  subst e;exact .inl ⟨⟨xs,q,wx _⟩,hd σ H p⟩
theorem zrz{lo:Int}{n:Nat}{g:TG}{tb:TS}{D:ck}{σ : St}{H:Hp}(Pv:Nat->St->Hp->Prop)(h0:Pv 0 σ H)
  (hs:∀i σ H,i<n->Pv i σ H->g (.int (lo+i)) σ H λσ2 H2=>tb {D with nx:=Pv (i+1),ct:=Pv (i+1),bk:=D.nx} σ2 H2) (hd:∀σ H,Pv n σ H->D.nx σ H) :
  ∃W:Nat->Nat->St->Hp->Prop,(∃m,W 0 m σ H) /\ ∀i m σ H,W i m σ H ->
   ((iU lo n).stop i H/\D.nx σ H)\/((iU lo n).go i H /\ ∃N:St->Hp->Prop,(∀σ' H',N σ' H'->∃m',m'<m/\W (i+1) m' σ' H') /\ ∀x H',(iU lo n).gj i H x H'->g x σ H' λσ2 H2=>tb {D with nx:=N,ct:=N,bk:=D.nx} σ2 H2):=by
 refine⟨λi m σ H=>m=n-i/\i<=n/\Pv i σ H,⟨n,by simp,vM _,h0⟩,?_⟩;rintro i m σ H ⟨rfl,hi,p⟩
 by_cases hlt:i<n
 ·refine .inr ⟨hlt,Pv (i+1),λσ' H' p'=>⟨n-(i+1),by lia,rfl,hlt,p'⟩,λx H' y=>?_⟩
  obtain⟨e,y⟩:=y;subst e y;exact hs i σ _ hlt p
 ·have e:i=n:=by lia
  subst e;exact .inl ⟨wx _,hd σ H p⟩
abbrev R2:=V->V->Hp->VK->Prop
def ax(X:Cx)(f:wg->wg->Sem wg)(r:R2):Prop :=
 ∀(pins:List (wd × Obj))(s:wo)(σ : St)(H:Hp)(x y:V)(v u:wg)(Q:VK),Inv X pins σ H s->aW x v->aW y u->r x y H Q ->
  wA (model X.prog X.w) X.A (f v u) (EP X pins σ Q) X.xe s
def Bb(X:Cx)(f:wg->Sem wg)(r:V->Hp->VK->Prop):Prop :=
 ∀(pins:List (wd × Obj))(s:wo)(σ : St)(H:Hp)(x:V)(v:wg)(Q:VK),Inv X pins σ H s->aW x v->r x H Q ->
  wA (model X.prog X.w) X.A (f v) (EP X pins σ Q) X.xe s
def ao(X:Cx)(f:wg)(r:List V->Hp->VK->Prop):Prop :=
 ∀(pins:List (wd × Obj))(s:wo)(σ : St)(H:Hp)(xs:List V)(us:List wg)(Q:VK),Inv X pins σ H s->aC xs us->r xs H Q ->
  wA (model X.prog X.w) X.A (call f us) (EP X pins σ Q) X.xe s
def zzH(X:Cx)(r:V->Hp->(Bool->Hp->Prop)->Prop):Prop :=
 ∀(pins:List (wd × Obj))(s:wo)(σ : St)(H:Hp)(x:V)(v:wg)(Q:Bool->Hp->Prop),Inv X pins σ H s->aW x v->r x H Q ->
  wA (model X.prog X.w) X.A (truthy v) (TP X pins σ Q) X.xe s
def dD(r:R2)(ta tb:TE):TE:=λσ H Q=>ta σ H λx H1=>tb σ H1 λy H2=>r x y H2 Q
def KS(r:V->Hp->VK->Prop)(ta:TE):TE:=λσ H Q=>ta σ H λx H1=>r x H1 Q
def rI(C:Int->Int->Prop)(g:Int->Int->V):R2:=λx y H Q=>∃i j,x=.int i/\y=.int j/\C i j/\Q (g i j) H
def gw(g:Int->Int->V):R2:=λx y H Q=>∃i j,x=.int i/\y=.int j/\Q (g i j) H
def rU(g:Int->V):V->Hp->VK->Prop:=λx H Q=>∃i,x=.int i/\Q (g i) H
section
variable{X:Cx}{a b c:Expr}{ta tb tc:TE}{pos:Pos}
theorem BE(ha:PE X a ta)(hb:PE X b tb){pins:List (wd × Obj)}{s:wo}{σ : St}{H:Hp}{R:V->V->Hp->Prop}(I:Inv X pins σ H s)
  (h:ta σ H λx H1=>tb σ H1 λy H2=>R x y H2) {Q:wg->wo->Prop} {f:wg->wg->Sem wg}
  (hf:∀v u s2 x y H2,Inv X pins σ H2 s2->aW x v->aW y u->R x y H2->wA (model X.prog X.w) X.A (f v u) Q X.xe s2) :
  wA (model X.prog X.w) X.A (eval a X.env) (λv s₁=>wA (model X.prog X.w) X.A (eval b X.env) (λu s₂=>wA (model X.prog X.w) X.A (f v u) Q X.xe s₂) X.xe s₁) X.xe s:=by
 refine aq (ha pins s σ H _ I h) λv s1 ⟨x,H1,I1,r1,q1⟩=>?_
 refine aq (hb pins s1 σ H1 _ I1 q1) λu s2 ⟨y,H2,I2,r2,q2⟩=>?_
 exact hf v u s2 x y H2 I2 r1 r2 q2
theorem aw{op:Operator}{r:R2}(ho:ax X (vT op) r)(ha:PE X a ta)(hb:PE X b tb):PE X (.BinOp a op b pos) (dD r ta tb):=by
 intro pins s σ H Q I h;exact wpAny_BinOp (BE ha hb I h λv u s2 x y H2 I2 rx ry q=>ho pins s2 σ H2 x y v u Q I2 rx ry q)
theorem yf{op:UnaryOp}{r:V->Hp->VK->Prop}(ho:Bb X (unaryOp op) r)(ha:PE X a ta):PE X (.UnaryOp op a pos) (KS r ta):=by
 intro pins s σ H Q I h;exact UnaryOp_ (aq (ha pins s σ H _ I h) λv s1 ⟨x,H1,I1,r1,q1⟩=>ho pins s1 σ H1 x v Q I1 r1 q1)
theorem sL{f:wg->wg->Sem wg}{C:Int->Int->Prop}{g:Int->Int->Int}
  (rule:∀(i j:Int)(t u:Tok)(s:wo)(Q:wg->wo->Prop)(E:wg->wo->Prop),C i j->Q (.int (g i j) s.toks) {s with toks:=s.toks+1}->wA (model X.prog X.w) X.A (f (.int i t) (.int j u)) Q E s) :
  ax X f (rI C λi j=>.int (g i j)):=by
 intro pins s σ H x y v u Q I rx ry h;obtain⟨i,j,rfl,rfl,hc,q⟩:=h;obtain⟨t,rfl⟩:=rx;obtain⟨t',rfl⟩:=ry;exact rule i j t t' s _ _ hc ⟨.int (g i j),H,I.tok _,⟨_,rfl⟩,q⟩
theorem G8{f:wg->wg->Sem wg}{g:Int->Int->Int}
  (rule:∀(i j:Int)(t u:Tok)(s:wo)(Q:wg->wo->Prop)(E:wg->wo->Prop),Q (.int (g i j) s.toks) {s with toks:=s.toks+1}->wA (model X.prog X.w) X.A (f (.int i t) (.int j u)) Q E s) :
  ax X f (gw λi j=>.int (g i j)):=by
 intro pins s σ H x y v u Q I rx ry h;obtain⟨i,j,rfl,rfl,q⟩:=h;obtain⟨t,rfl⟩:=rx;obtain⟨t',rfl⟩:=ry;exact rule i j t t' s _ _ ⟨.int (g i j),H,I.tok _,⟨_,rfl⟩,q⟩
theorem t9{f:wg->wg->Sem wg}{g:Int->Int->Bool}
  (rule:∀(i j:Int)(t u:Tok)(s:wo)(Q:wg->wo->Prop)(E:wg->wo->Prop),Q (.bool (g i j)) s->wA (model X.prog X.w) X.A (f (.int i t) (.int j u)) Q E s) :
  ax X f (gw λi j=>.bl (g i j)):=by
 intro pins s σ H x y v u Q I rx ry h;obtain⟨i,j,rfl,rfl,q⟩:=h;obtain⟨t,rfl⟩:=rx;obtain⟨t',rfl⟩:=ry;exact rule i j t t' s _ _ ⟨.bl (g i j),H,I,rfl,q⟩
def Jr(i j:Int):Prop:=0<=j/\j<=1000000/\i.natAbs<2^64
theorem Zo:ax X (vT .Add) (gw λi j=>.int (i+j)):=G8 λ_ _ _ _ _ _ _ q=>add_int q
theorem Ky:ax X (vT .Sub) (gw λi j=>.int (i-j)):=G8 λ_ _ _ _ _ _ _ q=>sub_int q
theorem jm:ax X (vT .Mod) (rI (λ_ j=>0<j) λi j=>.int (i % j)):=sL λi j _ _ _ _ _ hc q=>by
 have h1:(0:Int)<j:=hc;exact mod_int' (by lia) (by rw[Int.fmod_eq_emod_of_nonneg i (by lia)];exact q)
theorem RT:ax X (vT .Pow) (rI Jr λi j=>.int (i^j.toNat)):=sL λ_ _ _ _ _ _ _ hc q=>pow_int_small hc.1 hc.2.1 hc.2.2 q
theorem TR{f:wg->Sem wg}{g:Int->Int}
  (rule:∀(i:Int)(t:Tok)(s:wo)(Q:wg->wo->Prop)(E:wg->wo->Prop),Q (.int (g i) s.toks) {s with toks:=s.toks+1}->wA (model X.prog X.w) X.A (f (.int i t)) Q E s) :
  Bb X f (rU λi=>.int (g i)):=by
 intro pins s σ H x v Q I rx h;obtain⟨i,rfl,q⟩:=h;obtain⟨t,rfl⟩:=rx;exact rule i t s _ _ ⟨.int (g i),H,I.tok _,⟨_,rfl⟩,q⟩
theorem pA:Bb X (unaryOp .USub) (rU λi=>.int (-i)):=TR λ_ _ _ _ _ q=>neg_int q
end
section
variable{X:Cx}{a b c:Expr}{ta tb tc:TE}{pos:Pos}
theorem US{pins:List (wd × Obj)}{σ : St}{H:Hp}{s:wo}{Q:VK}{k k':Bool}(I:Inv X pins σ H s)(q:Q (.bl k) H)(e:k=k'):EP X pins σ Q (.bool k') s:=by
 subst e;exact⟨.bl k,H,I,rfl,q⟩
theorem zT:ax X (wQ .Lt) (gw λi j=>.bl (decide (i<j))):=t9 λ_ _ _ _ _ _ _ q=>lt_int q
theorem gA:ax X (wQ .LtE) (gw λi j=>.bl (decide (i<=j))):=t9 λ_ _ _ _ _ _ _ q=>le_int q
theorem sP:ax X (wQ .Gt) (gw λi j=>.bl (decide (j<i))):=t9 λ_ _ _ _ _ _ _ q=>gt_int q
theorem JQ:ax X (wQ .GtE) (gw λi j=>.bl (decide (j<=i))):=t9 λ_ _ _ _ _ _ _ q=>ge_int q
theorem zqT:ax X (wQ .In) (λx y H Q=>∃i j,x=.str i/\y=.str j/\Q (.bl (!(vE j i 0 j.length 1).isEmpty)) H):=by
 intro pins s σ H x y v u Q I rx ry h;obtain⟨i,j,rfl,rfl,q⟩:=h;obtain⟨t,rfl⟩:=rx;obtain⟨t',rfl⟩:=ry;exact in_str (US I q rfl)
theorem ax.or{f:wg->wg->Sem wg}{r r':R2}(h:ax X f r)(h':ax X f r'):ax X f (λx y H Q=>r x y H Q\/r' x y H Q):=by
 intro pins s σ H x y v u Q I rx ry q;rcases q with q | q
 ·exact h pins s σ H x y v u Q I rx ry q
 ·exact h' pins s σ H x y v u Q I rx ry q
theorem aV(b:Expr){op:CmpOp}(h:op≠.In:=by decide)(h2:op≠.NotIn:=by decide):behindInMarks op b=false:=by
 have e1:(op == CmpOp.In)=false:=by cases op<;>first | rfl | exact absurd rfl h
 have e2:(op == CmpOp.NotIn)=false:=by cases op<;>first | rfl | exact absurd rfl h2
 cases b<;>simp[behindInMarks,e1,e2]
theorem dH{op:CmpOp}{r:R2}(ho:ax X (wQ op) r)(ha:PE X a ta)(hb:PE X b tb)(hm:behindInMarks op b=false):PE X (.Compare a [op] [b] pos) (dD r ta tb):=by
 intro pins s σ H Q I h;exact wpAny_Compare1 (BE ha hb I h λv u s2 x y H2 I2 rx ry q=>ho pins s2 σ H2 x y v u Q I2 rx ry q) hm
def zW(t:TE):TT:=λσ H Q=>t σ H λx H'=>∃k,x=.bl k/\Q k H'
theorem bG{op:CmpOp}{r:R2}(ho:ax X (wQ op) r)(ha:PE X a ta)(hb:PE X b tb)(hm:behindInMarks op b=false):PT X (.Compare a [op] [b] pos) (zW (dD r ta tb)):=by
 intro pins s σ H Q I h
 refine wpAny_isTrue_Compare1 (aq (ha pins s σ H _ I h) λv s1 ⟨x,H1,I1,r1,q1⟩=>aq (hb pins s1 σ H1 _ I1 q1) λu s2 ⟨y,H2,I2,r2,q2⟩ =>
  aq (ho pins s2 σ H2 x y v u _ I2 r1 r2 q2) λc s3 ⟨z,H3,I3,r3,k,e,q3⟩=>?_) hm
 subst e;cases r3;exact Wt ⟨H3,I3,q3⟩
def zj(r r':R2)(ta tb tc:TE):TE:=λσ H Q=>ta σ H λx H1=>tb σ H1 λy H2=>r x y H2 λz H3=>∃k,z=.bl k /\
 (if k=true then tc σ H3 λw' H4=>r' y w' H4 Q else Q (.bl false) H3)
theorem Mb{op op':CmpOp}{r r':R2}(ho:ax X (wQ op) r)(ho':ax X (wQ op') r')(ha:PE X a ta)(hb:PE X b tb)(hc:PE X c tc)
  (hm:lastMarks [op,op'] [b,c]=false:=by with_unfolding_all rfl):PE X (.Compare a [op,op'] [b,c] pos) (zj r r' ta tb tc):=by
 intro pins s σ H Q I h
 refine Compare_chain (aq (ha pins s σ H _ I h) λv s1 ⟨x,H1,I1,r1,q1⟩=>chain_link (aq (hb pins s1 σ H1 _ I1 q1) λu s2 ⟨y,H2,I2,r2,q2⟩ =>
  aq (ho pins s2 σ H2 x y v u _ I2 r1 r2 q2) λd s3 ⟨z,H3,I3,r3,k,e,q3⟩=>?_)) hm
 subst e;cases r3;refine Wt ?_;cases k with
 | false=>exact ite_ff ⟨.bl false,H3,I3,rfl,q3⟩
 | true=>exact ite_tt (chain_last (aq (hc pins s3 σ H3 _ I3 q3) λw' s4 ⟨z',H4,I4,r4,q4⟩=>ho' pins s4 σ H4 y z' u w' Q I4 r2 r4 q4))
theorem KZ{op op':CmpOp}{r r':R2}(ho:ax X (wQ op) r)(ho':ax X (wQ op') r')(ha:PE X a ta)(hb:PE X b tb)(hc:PE X c tc)
  (hm:lastMarks [op,op'] [b,c]=false:=by with_unfolding_all rfl):PT X (.Compare a [op,op'] [b,c] pos) (zW (zj r r' ta tb tc)):=by
 intro pins s σ H Q I h
 refine isTrue_chain (aq (ha pins s σ H _ I h) λv s1 ⟨x,H1,I1,r1,q1⟩=>test_link (aq (hb pins s1 σ H1 _ I1 q1) λu s2 ⟨y,H2,I2,r2,q2⟩ =>
  aq (ho pins s2 σ H2 x y v u _ I2 r1 r2 q2) λd s3 ⟨z,H3,I3,r3,k,e,q3⟩=>?_)) hm
 subst e;cases r3;refine Wt ?_;cases k with
 | false =>
  obtain⟨k',e',q'⟩:=q3;cases e';exact ite_ff ⟨H3,I3,q'⟩
 | true =>
  refine ite_tt (test_last (aq (hc pins s3 σ H3 _ I3 q3) λw' s4 ⟨z',H4,I4,r4,q4⟩=>aq (ho' pins s4 σ H4 y z' u w' _ I4 r2 r4 q4) λd' s5 ⟨z2,H5,I5,r5,k2,e2,q5⟩=>?_));subst e2;cases r5;exact Wt ⟨H5,I5,q5⟩
def CH(K:wa)(x:V)(H:Hp)(k:Bool):Prop :=
 match x with
 | .bM=>k=false
 | .bl b=>k=b
 | .int i=>k=(i != 0)
 | .str y=>y.length<=wC/\k=((y.length:Int) != 0)
 | .byt y=>y.size<=wC/\k=((y.size:Int) != 0)
 | .ref p=>(∃xs,aN K H p xs/\k = !xs.isEmpty)\/(∃xs,aP K H p xs/\k = !xs.isEmpty) \/ ∃kvs,H p=some (.dK kvs)/\k = !kvs.isEmpty
 | _=>False
theorem zoZ{κ : Type}{kvs:List (κ × V)}{vs:List (κ × wg)}(r:KV kvs vs):(!vs.isEmpty) = !kvs.isEmpty:=by
 cases r<;>rfl
theorem Ak{xs:List V}{its:List wg}(r:aC xs its):(!its.toArray.isEmpty) = !xs.isEmpty:=by
 cases r<;>simp
theorem km:(wC:Nat)<2^63:=by rw[vB];decide
theorem zw6:zzH X (λx H Q=>∃k,CH X.K x H k/\Q k H):=by
 intro pins s σ H x v Q I rx h;obtain⟨k,e,q⟩:=h;have hl:=km;have hs:wC=16777216:=vB;cases x with
 | bM =>
  cases rx;have e':k=false:=e;subst e';exact truthy_none ⟨H,I,q⟩
 | bl b =>
  cases rx;have e':k=b:=e;subst e';exact Wt ⟨H,I,q⟩
 | int i =>
  obtain⟨t,rfl⟩:=rx;have e':k=(i != 0):=e;subst e';exact PySem.P.truthy_int ⟨H,I,q⟩
 | str y =>
  obtain⟨t,rfl⟩:=rx;obtain⟨hy,e'⟩:y.length<=wC/\k=((y.length:Int) != 0):=e;subst e';exact PySem.P.truthy_str (by lia) ⟨H,I.tok _,q⟩
 | byt y =>
  obtain⟨t,rfl⟩:=rx;obtain⟨hy,e'⟩:y.size<=wC/\k=((y.size:Int) != 0):=e;subst e';exact PySem.W.truthy_bytes (by lia) ⟨H,I.tok _,q⟩
 | ref p =>
  cases rx;have e':(∃xs,aN X.K H p xs/\k = !xs.isEmpty)\/(∃xs,aP X.K H p xs/\k = !xs.isEmpty) \/ ∃kvs,H p=some (.dK kvs)/\k = !kvs.isEmpty:=e;rcases e' with⟨xs,hx,e'⟩ | ⟨xs,hx,e'⟩ | ⟨kvs,hx,e'⟩
  ·subst e'
   obtain⟨its,r,pl,hz⟩:=I.list hx;have hlen:=r.length;exact wpAny_truthy_list pl.isList (by simp only[wN];lia) ⟨H,I.tok _,by rw[Ak r];exact q⟩
  ·subst e'
   obtain⟨its,r,pl,hz⟩:=I.tuple hx;have hlen:=r.length;exact truthy_tuple pl (by simp only[wN];lia) ⟨H,I.tok _,by rw[Ak r];exact q⟩
  ·subst e'
   obtain⟨hz,hS,vs,r,m⟩:kvs.length<=wC/\(p == sysModules)=false /\ ∃vs,KV kvs vs/\s.heap.DictOf (BJ X.prog X.w) p vs:=I.ar p _ hx;have hlen:kvs.length=vs.length:=uH r;exact wpAny_truthy_dict hS m (by lia) ⟨H,I.tok _,by rw[zoZ r];exact q⟩
 | _=>exact(show False from e).elim
theorem zs3(ha:PE X a ta)(he:∀whole,isTrue a X.env whole=(do let v <- whole;standAt a.pos;holding [v] (truthy v))) :
  PT X a (λσ H Q=>ta σ H λx H'=>∃k,CH X.K x H' k/\Q k H'):=by
 intro pins s σ H Q I h;exact isTrue_plain (aq (ha pins s σ H _ I h) λv s1 ⟨x,H1,I1,r1,q1⟩=>zw6 pins s1 σ H1 x v Q I1 r1 q1) (he _)
theorem Zu:ax X (vT .Add) (λx y H Q=>∃i j,x=.str i/\y=.str j/\i.length+j.length<=wC/\Q (.str (i++j)) H):=by
 intro pins s σ H x y v u Q I rx ry h;obtain⟨i,j,rfl,rfl,hz,q⟩:=h;obtain⟨t,rfl⟩:=rx;obtain⟨t',rfl⟩:=ry;exact add_str (λt' tk=>⟨.str (i++j),H,I.tok _,⟨_,rfl⟩,q⟩) hz
theorem gi{x:V}{us:List wg}(r:aC [x] us):∃u,us=[u]/\aW x u:=by
 cases r with
 | cons r1 r2=>cases r2;exact⟨_,rfl,r1⟩
theorem iQ{x y:V}{us:List wg}(r:aC [x,y] us):∃u w',us=[u,w']/\aW x u/\aW y w':=by
 cases r with
 | cons r1 r2 =>
  cases r2 with
  | cons r3 r4=>cases r4;exact⟨_,_,rfl,r1,r3⟩
theorem SG:ao X (.builtin "abs") (λxs H Q=>∃i,xs=[.int i]/\Q (.int (if i<0 then -i else i)) H):=by
 intro pins s σ H xs us Q I r h;obtain⟨i,rfl,q⟩:=h;obtain⟨u,rfl,t,rfl⟩:=gi r;exact call_abs_int λu tk=>⟨.int (if i<0 then -i else i),H,I.tok _,⟨_,rfl⟩,q⟩
theorem Sq:ao X (.type "str") (λxs H Q=>∃i,xs=[.int i]/\i.natAbs.log2<1920/\Q (.str (V2 i)) H):=by
 intro pins s σ H xs us Q I r h;obtain⟨i,rfl,hz,q⟩:=h;obtain⟨u,rfl,t,rfl⟩:=gi r;exact PySem.P.str_of_int hz ⟨.str _,H,I.tok _,⟨_,rfl⟩,q⟩
end
section
variable{prog:wV}{w:wR}{A:vm}{E:wg->wo->Prop}{s:wo}{K:wa}{x dx C f:wd}{mA:Str->Option wg}{name:Str}{v:wg}
end
section
variable{P:wV}{w:wR}{H H':Hp}{h h':wK}{a C dx:wd}{fs fs':List (Str × V)}
end
section
variable{X:Cx}{pins:List (wd × Obj)}{σ : St}{H:Hp}{s:wo}{a C dx:wd}{fs:List (Str × V)}{f:Str}{v:V}{A:vm}{E:wg->wo->Prop}
end
section
variable{X:Cx}{o e value:Expr}{f:Str}{pos pos' tpos:Pos}{ta tv:TE}
end
section
variable{X:Cx}{pins:List (wd × Obj)}{σ : St}{H:Hp}{s:wo}{A:vm}{E:wg->wo->Prop}{Q:wg->wo->Prop}{c:wg}{b:Bool}
end
structure cO(k:Nat)(A:vm):Prop where
 hd:A.handled=none
 dp:A.depth+3*k+5<recursionLimit
 un:A.units+16*k+200<cLine
 gd:A.guards=some []
theorem cO.mono{j k:Nat}{A:vm}(r:cO k A)(h:j<=k):cO j A:=⟨r.hd,by have:=r.dp;lia,by have:=r.un;lia,by first | exact r.gd | (simp[uW,Code.guards,uX,guardIds];exact r.gd)⟩
theorem cO.deeper{k:Nat}{A:vm}(r:cO (k+1) A)(env:Env):cO k (A.deeper env) :=
 ⟨r.hd,by have:=r.dp;show A.depth+1+3*k+5<_;lia,by have:=r.un;show A.units+3+16*k+200<_;lia,by first | exact r.gd | (simp[uW,Code.guards,uX,guardIds];exact r.gd)⟩
theorem cO.depth{k:Nat}{A:vm}(r:cO k A):A.depth<recursionLimit:=by have:=r.dp;lia
theorem cO.units{k:Nat}{A:vm}(r:cO k A):A.units+64<cLine:=by have:=r.un;lia
def hX:TA:=λ_ H Q=>Q [] H
def gk(ta:TE)(tr:TA):TA:=λσ H Q=>ta σ H λx H1=>tr σ H1 λxs H2=>Q (x::xs) H2
section
variable{X:Cx}{e:Expr}{es:List Expr}{te:TE}{t:TA}{pos:Pos}
theorem ae:PA X [] hX:=λ_ _ _ _ H Q I h=>QQ ⟨[],H,I,.nil,h⟩
theorem aa(ha:PE X e te)(hr:PA X es t)(hs:w5 (e::es) X.env=(false,eval e X.env)::w5 es X.env:=by rfl):PA X (e::es) (gk te t):=by
 intro pos pins s σ H Q I h;rw[hs]
 show wA _ _ (spliced ((false,eval e X.env)::Vr pos (w5 es X.env))) _ _ s
 refine WF (aq (ha pins s σ H _ I h) λu s1 ⟨x,H1,I1,r1,q1⟩=>?_);exact aq (hr pos pins s1 σ H1 _ I1 q1) λus s2 ⟨xs,H2,I2,r2,q2⟩=>⟨x::xs,H2,I2,.cons r1 r2,q2⟩
def P0(t:TA):TE:=λσ H Q=>t σ H λxs H1=>xs.length<=wC /\ ∀p,H1 p=none->Q (.ref p) (upd H1 p (.tup xs))
def zzO(t:TA):TE:=λσ H Q=>t σ H λxs H1=>xs.length<=wC /\ ∀p,H1 p=none->Q (.ref p) (upd H1 p (.lst xs))
theorem zyz{x1}(h:PA X es t):PE X (.Tuple es x1 pos) (P0 t):=by
 intro pins s σ H Q I hq;refine wpAny_Tuple_spliced (aq (h pos pins s σ H _ I hq) λus s1 ⟨xs,H1,I1,r,z,q⟩=>⟨by rw[<- r.length];exact z,?_⟩);have hf:H1 s1.heap.objs.size=none:=I1.ar.fresh (wx _);refine⟨.ref s1.heap.objs.size,upd H1 s1.heap.objs.size (.tup xs),I1.laid (t':=s1.toks) (λb u e=>wk _ e) (wx _) ?_,rfl,q _ hf⟩;exact⟨z,us,r,⟨_,wE _ rfl,rfl,_,rfl⟩⟩
theorem YJ(h:PA X es t):PE X (.List es pos) (zzO t):=by
 intro pins s σ H Q I hq;refine wpAny_List_spliced (aq (h pos pins s σ H _ I hq) λus s1 ⟨xs,H1,I1,r,z,q⟩=>⟨by rw[<- r.length];exact z,?_⟩);have hf:H1 s1.heap.objs.size=none:=I1.ar.fresh (wx _);refine⟨.ref s1.heap.objs.size,upd H1 s1.heap.objs.size (.lst xs),I1.laid (t':=s1.toks) (λb u e=>wk _ e) (wx _) ?_,rfl,q _ hf⟩;exact⟨z,us,0,r,wE _ rfl⟩
end
abbrev Sp:=List V->Hp->VK->XK->Prop
abbrev dR:=List Env->Hp->wo->XK->wg->wo->Prop
structure yz(P:wV)(w:wR)(K:wa)(mg:Str->Option wg)(base:wK)(A:vm)(outer:List Env)(s:wo)(H:Hp):Prop where
 frames:A.frames=some outer
 mod:Mod K mg base
 bs:∀b o,base.get? b=some o->s.heap.get? b=some o/\H b=none
 gG:base.objs.size<=s.heap.objs.size
 dw:s.heap.FunFrames base outer
 gD:∀b∈bt outer,H b=none
 ar:cc P w H s.heap
 bare:VP s.gens
def CE(outer:List Env)(P:wV)(w:wR)(H:Hp)(s:wo)(Q:VK)(u:wg)(s':wo):Prop :=
 ∃v H',s'.os=s.os/\VP s'.gens/\Un (bt outer) [] H H' s.heap s'.heap/\cc P w H' s'.heap/\aW v u/\Q v H'
def CR(CX:dR)(outer:List Env)(P:wV)(w:wR)(H:Hp)(s:wo)(Q:VK)(E:XK)(r:Result)(s':wo):Prop :=
 match r with
 | .ok (.ret u)=>CE outer P w H s Q u s'
 | .ok _=>False
 | .error e=>CX outer H s E e s'
structure aK(P:wV)(w:wR)(K:wa)(mg:Str->Option wg)(base:wK)(CX:dR)(k:Nat)(f:wd)(fd:wS)(ps:List Str)(sp:Sp):Prop where
 len:∀vs H Q E,sp vs H Q E->vs.length=ps.length
 run:∀(A:vm)(outer:List Env)(s:wo)(H:Hp)(args:Args)(us:List wg)(vs:List V)(Q:VK)(E:XK),cO k A->yz P w K mg base A outer s H->BindsTo s fd args (ps.zip us)->aC vs us->sp vs H Q E ->
   VQ (model P w) A (.call (.ref f) args) (CR CX outer P w H s Q E) s
section
variable{X:Cx}{pins:List (wd × Obj)}{σ : St}{H:Hp}{s s':wo}
theorem Inv.Fu(I:Inv X pins σ H s):yz X.prog X.w X.K X.mg X.base X.A X.stack s H :=
 ⟨I.ok.frames,I.ok.mod,I.bs,vd I.ok.gG I.sz,I.stack,I.mh,I.ar,I.bare⟩
theorem Inv.after{Q:VK}{u:wg}(I:Inv X pins σ H s)(h:CE X.stack X.prog X.w H s Q u s'):EP X pins σ Q u s':=by
 obtain⟨v,H',os,bare,un,ar,r,q⟩:=h;obtain⟨hh,g,d,t,os'⟩:=s';obtain rfl:os'=s.os:=os;exact⟨v,H',I.call (h':=hh) (g':=g) (d':=d) (t':=t) (ch:=[]) un ar bare (λb z=>absurd z (by simp)),r,q⟩
end
def oj(sp:Sp)(dvs:List V)(E:XK)(t:TA):TE:=λσ H Q=>t σ H λvs H1=>sp (vs++dvs) H1 Q E
def iR(K:wa)(fd:wS)(ps:List Str)(ds:List wg):Prop :=
 ∀(s:wo)(us:List wg),K.In s.heap->(us++ds).length=ps.length->BindsTo s fd ⟨us,[]⟩ (ps.zip (us++ds))
theorem iR.all{K:wa}{fd:wS}{ps:List Str}(h:∀us:List wg,us.length=ps.length->bindArgs fd ⟨us,[]⟩=pure (ps.zip us)):iR K fd ps []:=λs us _ hl=>by
 rw[WC]at hl ⊢;exact .of_eq (h us hl)
def jd(CX:dR)(X:Cx)(E:XK):Prop:=∀(pins:List (wd × Obj))(σ : St)(H:Hp)(s:wo)(e:wg)(s':wo),Inv X pins σ H s->CX X.stack H s E e s'->X.xe e s'
section
variable{X:Cx}{CX:dR}{k:Nat}{f C:wd}{fd:wS}{ps:List Str}{sp:Sp}{dvs:List V}{ds:List wg}{E:XK}{x m:Str}{p pos apos:Pos}{e o:Expr}{es:List Expr}{ta:TE}{t:TA}
theorem zys{pins:List (wd × Obj)}{σ : St}{H:Hp}{s:wo}{Q:VK}{us:List wg}{vs:List V}(F:aK X.prog X.w X.K X.mg X.base CX k f fd ps sp)(hr:cO k X.A)(hb:iR X.K fd ps ds)(hd:aC dvs ds)(hx:jd CX X E)
  (I:Inv X pins σ H s) (r:aC vs us) (h:sp (vs++dvs) H Q E):wA (model X.prog X.w) X.A (call (.ref f) us) (EP X pins σ Q) X.xe s:=by
 have r2:aC (vs++dvs) (us++ds):=r.append hd;have hl:(us++ds).length=ps.length:=by rw[<- r2.length];exact F.len _ _ _ _ h
 refine wpAny_call (codeAny_mono (F.run X.A X.stack s H ⟨us,[]⟩ (us++ds) (vs++dvs) Q E hr I.Fu (hb s us I.cq hl) r2 h) λr s' hq=>?_);cases r with
 | error e=>exact hx pins σ H s e s' I hq
 | ok fl =>
  cases fl with
  | ret u=>exact I.after hq
  | next=>exact WX hq
  | brk=>exact WX hq
  | cont=>exact WX hq
theorem HP(F:aK X.prog X.w X.K X.mg X.base CX k f fd ps sp)(hr:cO k X.A)(hg:Gl X x)(hm:X.mg x=some (.ref f))(hk:Vy X.K (.ref f)=true)(hb:iR X.K fd ps ds)(hd:aC dvs ds)(hx:jd CX X E)
  (ha:PA X (e::es) t) (hdb:(x == ("__debug__" : Str))=false:=by decide) (he:w5 (e::es) X.env=(false,eval e X.env)::w5 es X.env:=by rfl) (hpl:(Vr pos (w5 es X.env)).any (·.1)=false:=by rfl) :
  PE X (.Call (.Name x p) (e::es) [] pos) (oj sp dvs E t):=by
 intro pins s σ H Q I h;refine qz (rL I hg hm ?_ hdb);refine Xf (h₀:=X.base) I.ok.mod.mV hk (aq (ha pos pins s σ H _ I h) λus s1 ⟨vs,H1,I1,r,q⟩=>⟨I1.cq,?_⟩) he hpl;exact zys F hr hb hd hx I1 r q
end
section
variable{X:Cx}{CX:dR}{k:Nat}{f C:wd}{fd:wS}{ps ks:List Str}{sp:Sp}{E:XK}{x m:Str}{p pos apos kpos:Pos}{e o:Expr}{es:List Expr}{kws:List Keyword}{te ta:TE}{t tk:TA}{nm:Option Str}
variable{g:List wg->List wg->List wg}{gV:List V->List V->List V}
end
structure aT(N P:List Str)(sc:Scope):Prop where
 kind:sc.kind=.function
 co:sc.isCoroutine=false
 gen:sc.isGenerator=false
 nd:N.Nodup
 pre:N.take P.length=P
 par:∀x∈P,sc.names.lookup x=some .local\/sc.names.lookup x=some .cell
 NO:∀y∈sc.names,y.2≠.free
theorem JT{kindOf:Str->Option W0}{x:Str} : ∀{binds:List (Str × wg)}{m:Str->Option wg},(∀v,(x,v) ∉ binds)->bindL kindOf binds m x=m x
 | [],_,_=>rfl
 | (n,v)::r,m,h=>by
  unfold bindL;rw[JT λw hw=>h w (wI _ hw)]
  split
  ·have:x≠n:=by rintro rfl;exact h v vc
   simp[this]
  ·rfl
theorem HA{kindOf:Str->Option W0}{x:Str} : ∀{binds:List (Str × wg)}{m:Str->Option wg},(∀v,(x,v) ∉ binds)->bindC kindOf binds m x=m x
 | [],_,_=>rfl
 | (n,v)::r,m,h=>by
  unfold bindC;rw[HA λw hw=>h w (wI _ hw)]
  split
  ·rfl
  ·have:x≠n:=by rintro rfl;exact h v vc
   simp[this]
theorem K_{kindOf:Str->Option W0}{x:Str}{v:wg} : ∀{P:List Str}{vs:List wg}{i:Nat}{m:Str->Option wg},P.Nodup->P[i]? = some x->vs[i]? = some v->kindOf x=some .local ->
  bindL kindOf (P.zip vs) m x=some v
 | [],_,_,_,_,h,_,_=>by simp at h
 | _::_,[],_,_,_,_,h,_=>by simp at h
 | p::P,w::vs,0,m,nd,h1,h2,hk=>by
  simp at h1 h2;subst h1;subst h2
  show bindL kindOf ((p,w)::P.zip vs) m p=_
  unfold bindL;rw[JT λv hv=>(Vi.mp nd).1 (xm hv).1,if_pos hk];simp
 | p::P,w::vs,i+1,m,nd,h1,h2,hk=>by
  show bindL kindOf ((p,w)::P.zip vs) m x=_
  unfold bindL;exact K_ (i:=i) (Vi.mp nd).2 (by simpa using h1) (by simpa using h2) hk
theorem FD{kindOf:Str->Option W0}{x:Str}{v:wg} : ∀{P:List Str}{vs:List wg}{i:Nat}{m:Str->Option wg},P.Nodup->P[i]? = some x->vs[i]? = some v->kindOf x≠some .local ->
  bindC kindOf (P.zip vs) m x=some v
 | [],_,_,_,_,h,_,_=>by simp at h
 | _::_,[],_,_,_,_,h,_=>by simp at h
 | p::P,w::vs,0,m,nd,h1,h2,hk=>by
  simp at h1 h2;subst h1;subst h2
  show bindC kindOf ((p,w)::P.zip vs) m p=_
  unfold bindC;rw[HA λv hv=>(Vi.mp nd).1 (xm hv).1,if_neg hk];simp
 | p::P,w::vs,i+1,m,nd,h1,h2,hk=>by
  show bindC kindOf ((p,w)::P.zip vs) m x=_
  unfold bindC;exact FD (i:=i) (Vi.mp nd).2 (by simpa using h1) (by simpa using h2) hk
def start(N:List Str)(vs:List V):St:=vs.map some++w6 (N.length-vs.length) none
def fM(CX:dR)(P:wV)(w:wR)(K:wa)(mg:Str->Option wg)(base:wK)(N:List Str)(qual:Str)(scope:Scope)(f:wd)(cd:wg)(A:vm)(outer:List Env)(s:wo)(H:Hp)(E:XK):Cx where
 prog:=P
 w:=w
 K:=K
 mg:=mg
 base:=base
 A:=A.deeper (envOfC qual scope s.heap.objs.size f cd)
 N:=N
 s₀:=s
 H₀:=H
 env:=envOfC qual scope s.heap.objs.size f cd
 outer:=outer
 stack:=envOfC qual scope s.heap.objs.size f cd::outer
 ex:=[]
 calm:=true
 fn:=λ_=>true
 pn:=[]
 xe:=λe s'=>wA (model P w) (A.deeper (envOfC qual scope s.heap.objs.size f cd)) (leaving (envOfC qual scope s.heap.objs.size f cd) e) (λ_ s''=>CX outer H s E e s'') (λe' s''=>CX outer H s E e' s'') s'
theorem AB{sc:Scope}{n:Nat}{x:Str}(h:sc.names.lookup x=some .cell):∃c,(cellsFrom n sc.names []).lookup x=some c:=by
 have q:=xB sc.names n [] (.inl h);exact VA.mp q
theorem Rk{CX:dR}{P:wV}{w:wR}{K:wa}{mg:Str->Option wg}{base:wK}{N ps:List Str}{qual:Str}{scope:Scope}{f:wd}{cd:wg}{A:vm}{outer:List Env}{s s1:wo}{H:Hp}{E:XK}{us:List wg}{vs:List V}
  (S:aT N ps scope) (hd:A.handled=none) (e0:yz P w K mg base A outer s H) (hl:vs.length=ps.length) (r:aC vs us)
  (x:InCallC s s.heap.objs.size (bindL (envOfC qual scope s.heap.objs.size f cd).kindOf (ps.zip us) λ_=>none) (cellsFrom (s.heap.objs.size+1) scope.names []) (bindC (envOfC qual scope s.heap.objs.size f cd).kindOf (ps.zip us) λ_=>none) s1) :
  Inv (fM CX P w K mg base N qual scope f cd A outer s H E) [] (start N vs) H s1:=by
 have hpl:ps.length<=N.length:=by have:=congrArg List.length S.pre;rw[VB]at this;lia
 obtain⟨h1,tk,rfl,hk⟩:=x.done;have noA:∀b:wd,b ∉ (fM CX P w K mg base N qual scope f cd A outer s H E).ex:=λb z=>absurd (show b∈([]:List wd)from z) (by simp)
 refine⟨⟨e0.mod,S.kind,rfl,rfl,wx _,λy z c h1 h2=>?_,λy hy=>?_,λy c _ h=>?_,λ_=>hd,Around.frames_deeper e0.frames,.inr ⟨rfl,rfl⟩,λb z=>absurd z (noA b),e0.bs,e0.gG,λb _ _=>noA b,λb z=>absurd z (noA b),e0.dw,e0.gD⟩,
  rfl,e0.bare,Un.kept hk,⟨_,x.toInCall.ns,λi y v h1 h2 h3=>?_⟩,λy c h=>⟨_,x.cell y c h⟩,e0.ar.fresh (wx _),λy c h=>?_,λp hp=>absurd (show p∈([]:List (wd × Obj))from hp) (by simp),e0.ar.kept hk,?_⟩
 ·exact name_of_addr x.apart (Va h1) (Va h2)
 ·have hy:scope.names.lookup y=some .cell\/scope.names.lookup y=some .free:=hy
  rcases hy with hy | hy
  ·exact AB hy
  ·exact absurd rfl (S.NO _ (Va hy))
 ·exact qr (x.above y c (Va h))
 ·have hi:i<vs.length:=by
   unfold start at h2
   by_cases hi:i<vs.length
   ·exact hi
   ·rw[Wk (by simpa using hi)]at h2
    rw[List.getElem?_replicate]at h2
    split at h2<;>cases h2
  have ha:vs[i]? = some v:=by
   unfold start at h2;rw[Wr (by simpa using hi),wB]at h2;cases e:vs[i]? with
   | none=>rw[e]at h2;cases h2
   | some a=>rw[e]at h2;cases h2;rfl
  obtain⟨u,hu,rv⟩:=r.get ha
  have hp:ps[i]? = some y:=by
   rw[<- S.pre,Q2 (by lia)];exact h1
  have ndP:ps.Nodup:=by rw[<- S.pre];exact S.nd.sublist (List.take_sublist _ _)
  refine⟨u,rv,?_⟩;rcases S.par y (vz hp)with k | k
  ·exact .inl ⟨k,K_ ndP hp hu k⟩
  ·obtain⟨c,e⟩:=AB (n:=s.heap.objs.size+1) k
   refine .inr ⟨.inl k,c,e,?_⟩;have q:=x.cell y c e;rw[FD ndP hp hu (by show scope.names.lookup y≠_;rw[k];decide)]at q;exact q
 ·exact e0.ar.fresh (qr (x.above y c (Va h)))
 ·unfold start
  show _=N.length
  rw[vQ,wm,List.length_replicate]
  lia
theorem GO{CX:dR}{P:wV}{w:wR}{K:wa}{mg:Str->Option wg}{base:wK}{k:Nat}{f:wd}{name qual:Str}{params:Arguments}{body:List vq}{scope:Scope}{dV kV doc pm cdv ct oc:wg}{an od:Option wd}
  {osl:Array (Option wg)} {N ps:List Str} {sp:Sp} (lk:K.lookup f=some ⟨oc,od,.func (VC name qual params body scope dV kV doc pm an cdv ct),osl⟩) (hcd:Qg K cdv qual=true) (S:aT N ps scope)
  (len:∀vs H Q E,sp vs H Q E->vs.length=ps.length)
  (hbody:∀(A:vm)(outer:List Env)(s:wo)(H:Hp)(vs:List V)(Q:VK)(E:XK),cO k (A.deeper (envOfC qual scope s.heap.objs.size f cdv))->sp vs H Q E ->
   ∃t,cV (fM CX P w K mg base N qual scope f cdv A outer s H E) body t/\t {nx:=λ_ H'=>Q .bM H',rt:=Q} (start N vs) H) :
  aK P w K mg base CX (k+1) f (VC name qual params body scope dV kV doc pm an cdv ct) ps sp:=by
 refine⟨len,λA outer s H args us vs Q E hr e0 hb r hsp=>?_⟩;have hl:=len _ _ _ _ hsp;have KX:K.In s.heap:=e0.mod.mV.keeps λb o e=>(e0.bs b o e).1
 have lim:s.heap.NoLimit:=e0.mod.nolimit.keeps λb o e=>(e0.bs b o e).1
 have hkind:∀y∈ps.zip us,scope.names.lookup y.1=some .local\/(scope.names.lookup y.1=some .cell/\((cellsFrom (s.heap.objs.size+1) scope.names []).lookup y.1).isSome=true):=λ⟨n,v⟩ hy=>by
  rcases S.par n (xm hy).1 with q | q
  ·exact .inl q
  ·exact .inr ⟨q,xB _ _ _ (.inl q)⟩
 refine codeAny_call_function hr.depth (KX _ _ lk) rfl S.co S.gen rfl (PySem.W.codeRec_of KX hcd) (hb _ _ _ _ ?_);refine wpAny_newFunctionEnv_cells S.kind hkind λenv he s1 x=>?_
 subst he;refine⟨lim.keeps x.toInCall.keep,codeAny_func ?_⟩;obtain⟨t,ht,hq⟩:=hbody A outer s H vs Q E (hr.deeper _) hsp;have I:Inv (fM CX P w K mg base N qual scope f cdv A outer s H E) [] (start N vs) H s1:=Rk S hr.hd e0 hl r x;refine vU (ht [] s1 (start N vs) H _ I hq) (λfl s' hs=>?_) λe s' hs=>hs
 have fin:∀{σ':St}{H':Hp}{v:V}{u:wg},Inv (fM CX P w K mg base N qual scope f cdv A outer s H E) [] σ' H' s'->aW v u->Q v H'->CE outer P w H s Q u s' :=
  λ{σ' H' v u} J rv q=>⟨v,H',J.os,J.bare,J.base,J.ar,rv,q⟩
 cases fl with
 | ret u =>
  obtain⟨v,σ',H',J,rv,q⟩:=hs;exact fin J rv q
 | next =>
  obtain⟨σ',H',J,q⟩:=hs;exact fin (v:=V.bM) (u:=Value.none) J rfl q
 | brk =>
  obtain⟨_,_,_,q⟩:=hs;exact WX q
 | cont =>
  obtain⟨_,_,_,q⟩:=hs;exact WX q
section
variable{X:Cx}{x:Str}{p pos:Pos}{e:Expr}{es:List Expr}{t:TA}{id T:String}{r:List V->Hp->VK->Prop}
def lS(r:List V->Hp->VK->Prop)(t:TA):TE:=λσ H Q=>t σ H λvs H1=>r vs H1 Q
theorem aD(hc:ao X (.builtin id) r)(hg:Gl X x)(hm:X.mg x=none)(hv:vR x=some (.builtin id))(ha:PA X (e::es) t)(hn:x≠"__name__":=by decide)(hdb:(x == ("__debug__" : Str))=false:=by decide)
  (he:w5 (e::es) X.env=(false,eval e X.env)::w5 es X.env:=by rfl) (hpl:(Vr pos (w5 es X.env)).any (·.1)=false:=by rfl):PE X (.Call (.Name x p) (e::es) [] pos) (lS r t):=by
 intro pins s σ H Q I h;refine qz (mJ I hg hm hv ?_ hn hdb);exact PyProof.Rows.callWith_builtin1 (aq (ha pos pins s σ H _ I h) λus s1 ⟨vs,H1,I1,r1,q1⟩=>hc pins s1 σ H1 vs us Q I1 r1 q1) he hpl
theorem eO(hc:ao X (.type T) r)(hg:Gl X x)(hm:X.mg x=none)(hv:vR x=some (.type T))(ha:PA X (e::es) t)(hn:x≠"__name__":=by decide)(hdb:(x == ("__debug__" : Str))=false:=by decide)
  (he:w5 (e::es) X.env=(false,eval e X.env)::w5 es X.env:=by rfl) (hpl:(Vr pos (w5 es X.env)).any (·.1)=false:=by rfl):PE X (.Call (.Name x p) (e::es) [] pos) (lS r t):=by
 intro pins s σ H Q I h;refine qz (mJ I hg hm hv ?_ hn hdb);exact qb (aq (ha pos pins s σ H _ I h) λus s1 ⟨vs,H1,I1,r1,q1⟩=>hc pins s1 σ H1 vs us Q I1 r1 q1) he hpl
end
section
variable{κ : Type}[DecidableEq κ]
end
abbrev KT(H:Hp):List (List Key × V)->List (List Key × wd × wg)->Prop:=Paired λp q=>p.1=q.1/\H q.2.1=some (.tup (p.1.map kV))/\aW p.2 q.2.2
section
variable{P:wV}{w:wR}{H:Hp}{h:wK}{a:wd}
end
section
variable{X:Cx}{pins:List (wd × Obj)}{σ : St}{H:Hp}{s:wo}{a:wd}{y v:V}{u r:wg}{o:Option V}{A:vm}{E:wg->wo->Prop}
theorem Inv.big(I:Inv X pins σ H s):sysModules<s.heap.objs.size:=by
 have h:wJ<s.heap.objs.size:=(I.mod.glob.keeps I.bk).lt;exact Xg (by decide) h
end
section
variable{X:Cx}{pins:List (wd × Obj)}{σ : St}{H:Hp}{s:wo}{a:wd}{kvs:List (Key × V)}{k:Key}{u:wg}{A:vm}{E:wg->wo->Prop}
end
section
variable{X:Cx}{o i e value:Expr}{pos pos' tpos:Pos}{td ty tv:TE}
end
theorem zsm{P:wV}{w:wR}{H:Hp}(h:wK)(hb:sysModules<h.objs.size):cF P w H (h.push {cls:=.type "dict",data:=.dict #[]}) h.objs.size (.dK []) :=
 ⟨vM _,beq_eq_false_iff_ne.mpr (qi (wZ hb)),[],.nil,Heap.DictOf.new h⟩
def LZ:TE:=λ_ H Q=>∀p,H p=none->Q (.ref p) (upd H p (.dK []))
section
variable{X:Cx}{pos:Pos}
theorem TL:PE X (.Dict [] [] pos) LZ:=λpins s σ H Q I h =>
 wpAny_Dict_empty ⟨.ref s.heap.objs.size,_,I.laid (a:=s.heap.objs.size) (o:=.dK []) (t':=s.toks) (λ_ _ q=>wk _ q) (wx _) (zsm s.heap I.big),rfl,h _ (I.ar.fresh (wx _))⟩
end
abbrev VV:List (V × V)->List (wg × wg)->Prop:=Paired λp q=>aW p.1 q.1/\aW p.2 q.2
section
variable{X:Cx}{pins:List (wd × Obj)}{σ : St}{H:Hp}{s:wo}{a:wd}{y d:V}{u r:wg}{o:Option V}{A:vm}{E:wg->wo->Prop}
end
section
variable{X:Cx}{o e f:Expr}{apos cpos:Pos}{td ty tx:TE}
end
section
variable{X:Cx}{pins:List (wd × Obj)}{σ : St}{H:Hp}{s:wo}{a:wd}{kvs:List (Key × V)}{A:vm}{E:wg->wo->Prop}
end
section
variable{X:Cx}{pins:List (wd × Obj)}{σ : St}{H:Hp}{s:wo}{a:wd}{y:V}{u:wg}{A:vm}{E:wg->wo->Prop}
end
end L2
namespace HT
open PySem PyProof.Rows
def lexLt:List Int->List Int->Bool
 | [],[]=>false
 | [],_::_=>true
 | _::_,[]=>false
 | x::xs,y::ys=>if x=y then lexLt xs ys else decide (x<y)
theorem Za(x y:Int)(xs ys:List Int):lexLt (x::xs) (y::ys)=if x=y then lexLt xs ys else decide (x<y):=rfl
theorem Uj:lexLt [] []=false:=rfl
theorem YL(y:Int)(ys:List Int):lexLt [] (y::ys)=true:=rfl
theorem Ou(x:Int)(xs:List Int):lexLt (x::xs) []=false:=rfl
theorem ztT(A:vm)(s:wo)(a:Int)(t:Tok)(c:Int)(u:Tok):∃e,ud A s (.int a t) (.int c u) e/\(e=true ↔ a=c) :=
 ⟨(a == c),Xh a t c u,by simp⟩
theorem zsS(A:vm)(s:wo)(a:Int)(t:Tok)(c:Int)(u:Tok)(prog:wV)(w:wR)(E:wg->wo->Prop)(Q:wg->wo->Prop)(h:Q (.bool (decide (a<c))) s) :
  wA (model prog w) A (richCompare .Lt (.int a t) (.int c u)) Q E s :=
 (PyProof.Rows.lt_int h:wA (model prog w) A (wQ .Lt (.int a t) (.int c u)) Q E s)
section
open PySem.SeqAt
open PySem.AutoSeq1 (wpAny_loadPart')
open PySem.MeetsSeq PySem.MeetsSeq2 PySem.MeetsSeq3
theorem R7(l b:wd)(items items2:Array wg)(n n2:Nat)(dd dd2:Option wd)(sl sl2:Array (Option wg))(ns ms:List Int)(hi:WT items.toList ns)(hj:WT items2.toList ms) :
  Meets (Builtin.«tuple.__lt__» ⟨[.ref l,.ref b],[]⟩)
   (λ_ R s=>s.heap.get? l=some {cls:=.type "tuple",dict:=dd,data:=.seq items n,slots:=sl}/\s.heap.get? b=some {cls:=.type "tuple",dict:=dd2,data:=.seq items2 n2,slots:=sl2} /\
    R (.ok (.ret (.bool (lexLt ns ms)))) s) :=
 .of_wp λprog w A R s h=>by
  obtain⟨hp,g,d,tk,os⟩:=s;obtain⟨hl,hb,h⟩:=h;have f2:=AutoSeq1.sub_tuple_tuple;have z1:items.size=ns.length:=by rw[<- hi.length];simp
  have z2:items2.size=ms.length:=by rw[<- hj.length];simp
  wp_walk using wpAny_loadPart' hl,wpAny_loadPart' hb,wpAny_forIn_list _ (λaO b s'=>b.1=none/\s'=⟨hp,g,d,tk,os⟩ /\ ∃(vs ws:List wg)(ns' ms':List Int),aO=vs.zip ws /\
   WT vs ns'/\WT ws ms'/\ns'.length+items2.size=ms'.length+items.size/\R (.ok (.ret (.bool (lexLt ns' ms')))) ⟨hp,g,d,tk,os⟩) _
  case turn =>
   rintro ⟨y,x⟩ aO b s' ⟨hb',rfl,vs,ws,ns',ms',hz,hvi,hwi,hlen,hR⟩;cases hvi with
   | nil=>rw[List.zip_nil_left]at hz;cases hz
   | cons a t hvi' =>
    cases hwi with
    | nil=>rw[List.zip_nil_right]at hz;cases hz
    | cons c u hwi' =>
     rw[Qp]at hz
     injection hz with hyx hrest
     injection hyx with hy hx
     subst hy hx;rw[Za]at hR;simp only[wW]at hlen;obtain⟨e,he,hiff⟩:=ztT A.in1 ⟨hp,g,d,tk,os⟩ a t c u;refine wj (he prog w _ _ ?_);cases e with
     | true =>
      rw[if_pos (hiff.mp rfl)]at hR
      wp_walk
      exact⟨rfl,rfl,_,_,_,_,hrest,hvi',hwi',by lia,hR⟩
     | false =>
      rw[if_neg (λq=>absurd (hiff.mpr q) vG)]at hR;have hri:=zsS A.in1 ⟨hp,g,d,tk,os⟩ a t c u prog w
      wp_walk using hri
      exact⟨_,rfl,by simpa using hR⟩
  case fin =>
   rintro ⟨b1,b2⟩ s' ⟨hb',rfl,vs,ws,ns',ms',hz,hvi,hwi,hlen,hR⟩;simp only at hb';subst hb'
   have hv:lexLt ns' ms'=decide (items.size<items2.size):=by
    cases hvi with
    | nil =>
     cases hwi with
     | nil =>
      simp only[WD]at hlen;rw[Uj];exact(decide_eq_false (by lia)).symm
     | cons c u hw =>
      simp only[WD,wW]at hlen;rw[YL];exact(decide_eq_true (by lia)).symm
    | cons a t hv =>
     cases hwi with
     | nil =>
      simp only[WD,wW]at hlen;rw[Ou];exact(decide_eq_false (by lia)).symm
     | cons c u hw =>
      rw[Qp]at hz;cases hz
   rw[hv]at hR
   wp_walk
   exact⟨_,rfl,by simpa [uc] using hR⟩
  case h =>
   exact⟨rfl,rfl,items.toList,items2.toList,ns,ms,rfl,hi,hj,by lia,h⟩
end
section
variable{prog:wV}{w:wR}{A:vm}{E:wg->wo->Prop}{s:wo}
theorem Ni{l b:wd}{items items2:Array wg}{ns ms:List Int}{Q:wg->wo->Prop}(hl:IsTup s.heap l items)(hb:IsTup s.heap b items2)(hi:WT items.toList ns)(hj:WT items2.toList ms)
  (hu:A.units<cLine) (h:Q (.bool (lexLt ns ms)) s):wA (model prog w) A (wQ .Lt (.ref l) (.ref b)) Q E s:=by
 obtain⟨⟨cls,dd,data,sl⟩,ho,hc,n,hd⟩:=id hl;obtain⟨⟨cls2,dd2,data2,sl2⟩,ho2,hc2,n2,hd2⟩:=id hb;simp only at hc hd hc2 hd2;subst hc hd hc2 hd2
 exact richCompare_meets_room (op:=.Lt) ⟨_,ho,rfl⟩ ⟨_,ho2,rfl⟩ PySem.F.slot_tuple_lt PySem.F.entry_tuple_lt (PySem.F.args_tuple_lt_2 _ _) (R7 l b items items2 n n2 dd dd2 sl sl2 ns ms hi hj)
  ⟨ho,ho2,show Value.bool (lexLt ns ms)≠Value.notImplemented/\Q (.bool (lexLt ns ms)) s from⟨(λx=>nomatch x),h⟩⟩ hu
theorem NF{t b:wd}{vs ws:List wg}{Q:wg->wo->Prop}(ht:IsTup s.heap t vs.toArray)(hb:IsTup s.heap b ws.toArray)(hv:vs≠[])
  (h1:ws=[]->Q (.ref t) s) (h2:ws≠[]->Q (.ref s.heap.objs.size) {s with heap:=s.heap.push {cls:=.type "tuple",data:=.seq (vs++ws).toArray}})
  (hsz:vs.length+ws.length<=wC):wA (model prog w) A (vT .Add (.ref t) (.ref b)) Q E s:=by
 obtain⟨⟨cls,dd,data,sl⟩,ho,hc,n,hd⟩:=id ht;obtain⟨⟨cls2,dd2,data2,sl2⟩,ho2,hc2,n2,hd2⟩:=id hb;simp only at hc hd hc2 hd2;subst hc hd hc2 hd2;have e:vs.toArray++ws.toArray=(vs++ws).toArray:=by simp
 by_cases hw:ws=[]
 ·exact concat_meets ⟨_,ho,rfl⟩ ⟨_,ho2,rfl⟩ noFill_tuple_add seq_tuple_add qJ qD (qs _ _)
   (tuple_addW1 t b vs.toArray ws.toArray n n2 dd dd2 sl sl2 (by simpa using hv) (by simp[hw])) ⟨ho,ho2,h1 hw⟩
 ·refine concat_meets ⟨_,ho,rfl⟩ ⟨_,ho2,rfl⟩ noFill_tuple_add seq_tuple_add qJ qD (qs _ _)
   (tuple_addW2 t b vs.toArray ws.toArray n n2 dd dd2 sl sl2 (by simpa using hv) (by simpa using hw) (by rw[wN,wN];exact hsz)) ⟨ho,ho2,?_⟩
  rw[e];exact h2 hw
def aE(n d:Nat):Option Int->Nat
 | none=>d
 | some v=>if v<0 then(v+(n:Int)).toNat else min v.toNat n
theorem NK(n d k:Nat):aE n d (some (k:Int))=min k n:=by
 show(if(k:Int)<0 then((k:Int)+(n:Int)).toNat else min (k:Int).toNat n)=min k n
 rw[if_neg (by lia),V4]
theorem U5(n d:Nat)(hd:d<=n)(o:Option Int):aE n d o<=n:=by
 cases o with
 | none=>exact hd
 | some v =>
  show(if v<0 then(v+(n:Int)).toNat else min v.toNat n)<=n
  by_cases hv:v<0
  ·rw[if_pos hv];lia
  ·rw[if_neg hv];exact XV _ _
theorem LS(v:Int)(n d:Nat):(if v<0 then max (v+(n:Int)) 0 else min v (n:Int))=((aE n d (some v):Nat):Int):=by
 show(if v<0 then max (v+(n:Int)) 0 else min v (n:Int))=(((if v<0 then(v+(n:Int)).toNat else min v.toNat n):Nat):Int)
 by_cases hv:v<0
 ·simp only[if_pos hv];lia
 ·simp only[if_neg hv];lia
theorem Y8(lo hi:Option Int)(n:Nat):qo lo hi 1 (n:Int)=(((aE n 0 lo:Nat):Int),((aE n n hi:Nat):Int)):=by
 have h1:¬ ((1:Int)<0):=by lia
 unfold qo;simp only[h1,if_false];refine Q0 ?_ ?_
 ·cases lo with
  | none=>rfl
  | some v=>exact LS v n 0
 ·cases hi with
  | none=>rfl
  | some v=>exact LS v n n
theorem OF(i j:Nat):Vt (i:Int) (j:Int) 1=j-i:=by
 unfold Vt;have h1:(1:Int) > 0:=by lia
 simp only[h1,if_true,Int.ediv_one]
 split<;>lia
theorem LA{v:wg}{o:Option Int}{Q:Option Int->wo->Prop}(p:IsPart v o)(h:Q o s):wA (model prog w) A (uu v) Q E s:=by
 cases p with
 | none=>exact slicePart_none h
 | int i t=>exact slicePart_int h
theorem ziu{sl:wd}{vl vu:wg}{lo hi:Option Int}{n:Nat}{Q:Int × Int × Nat->wo->Prop}(hs:s.heap.IsSliceOf sl vl vu .none)(pl:IsPart vl lo)(pu:IsPart vu hi)
  (h:Q (((aE n 0 lo:Nat):Int),1,aE n n hi-aE n 0 lo) s):wA (model prog w) A (QJ (.ref sl) (pure (n:Int))) Q E s:=by
 obtain⟨os,hos,hcs,hds⟩:=id hs;unfold QJ uU;refine wj (wj (vI hos hds (x:=vl) rfl (wj (vI hos hds (x:=vu) rfl (wj (vI hos hds (x:=.none) rfl (wz ?_)))))));refine wj (slicePart_none ?_)
 show wA _ _ (if((1:Int) == 0)=true then _ else _) _ _ s
 rw[if_neg (by decide)];refine wj (LA pl (wj (LA pu (wj (wz ?_)))))
 show wA _ _ (match qo lo hi 1 (n:Int)with | (lo,hi)=>pure (lo,(1:Int),Vt lo hi 1)) _ _ s
 rw[Y8 lo hi n]
 show wA _ _ (pure (((aE n 0 lo:Nat):Int),(1:Int),Vt ((aE n 0 lo:Nat):Int) ((aE n n hi:Nat):Int) 1)) _ _ s
 rw[OF];exact wz h
theorem UE(xs:Array wg)(i k:Nat):((vf k).filterMap λ(m:Nat)=>xs[((i:Int)+(m:Int)*1).toNat]?).toArray=((xs.toList.drop i).take k).toArray:=by
 have e:(λ(m:Nat)=>xs[((i:Int)+(m:Int)*1).toNat]?)=λm=>xs[i+m]?:=by
  funext m
  have:((i:Int)+(m:Int)*1).toNat=i+m:=by lia
  rw[this]
 rw[e];have:=pick_run xs i k;rw[List.filterMap_map]at this;have e2:((λx=>xs[x]?) ∘ λx=>i+x)=λm=>xs[i+m]?:=rfl
 rw[e2]at this;rw[this]
theorem Mw{t sl:wd}{items:Array wg}{vl vu:wg}{lo hi:Option Int}{Q:wg->wo->Prop}(ht:IsTup s.heap t items)(hs:s.heap.IsSliceOf sl vl vu .none)(pl:IsPart vl lo)(pu:IsPart vu hi)
  (hw:¬ (aE items.size 0 lo=0/\aE items.size items.size hi=items.size))
  (h:Q (.ref s.heap.objs.size) {s with heap:=s.heap.push {cls:=.type "tuple",data:=.seq ((items.toList.drop (aE items.size 0 lo)).take (aE items.size items.size hi-aE items.size 0 lo)).toArray}})
  (hsz:items.size<=wC):wA (model prog w) A (getItem (.ref t) (.ref sl)) Q E s:=by
 have htake:sizeOk (.seq ((items.toList.drop (aE items.size 0 lo)).take (aE items.size items.size hi-aE items.size 0 lo)).toArray):=by
  show((items.toList.drop (aE items.size 0 lo)).take (aE items.size items.size hi-aE items.size 0 lo)).toArray.size<=wC
  rw[wN,VB,qP,wG]
  lia
 have hj:aE items.size items.size hi<=items.size:=U5 _ _ (wx _) hi;obtain⟨os,hos,hcs,hds⟩:=id hs;have hTs:s.TypeIs (.ref sl) "slice":=⟨os,hos,hcs⟩;unfold getItem
 try with_reducible refine Wa ?_
 first | refine wj (wz ?_) | skip
 refine wj (wpAny_sequenceKey ht.typeIs (by decide) ?_)
 refine wj (wpAny_callSpecial?_slot (name:=VD "__getitem__") ht.typeIs VN
  (VJ VN ht.typeIs entry_tuple_getitem ?_ (args_tuple_getitem _ _)))
 show wA _ _ (uI (.ref t) >>= _) _ _ s
 refine wj (tupleItemsOf_ ht ?_);refine wj (wpAny_typeOf hTs ?_);rw[if_pos (by decide)];refine wj (ziu hs pl pu ?_)
 have hno:¬ ((((aE items.size 0 lo:Nat):Int) == 0&&(1:Int) == 1&&(aE items.size items.size hi-aE items.size 0 lo) == items.size)=true):=by
  intro q;rw[wD,wD]at q;have q1:((aE items.size 0 lo:Nat):Int)=0:=eq_of_beq q.1.1;have q2:aE items.size items.size hi-aE items.size 0 lo=items.size:=eq_of_beq q.2;exact hw ⟨by lia,by lia⟩
 show wA _ _ (if(((aE items.size 0 lo:Nat):Int) == 0&&(1:Int) == 1&&(aE items.size items.size hi-aE items.size 0 lo) == items.size)=true then _ else _) _ _ s
 rw[if_neg hno,UE]
 first
  | exact wj (m:=VE _) (Wz (wz ⟨_,rfl,wz h⟩) htake)
  | exact wj (m:=VE _) (Wz (wj (wz (wz ⟨_,rfl,wz h⟩))) htake)
  | exact wj (wj (m:=VE _) (Wz (wz (wz ⟨_,rfl,wz h⟩)) htake))
  | exact wj (wj (m:=VE _) (Wz (wz ⟨_,rfl,wz h⟩) htake))
end
end HT
namespace L2
open PySem PySem.Spec PyProof.Rows
abbrev TO:=St->Hp->(Option Int->Hp->Prop)->Prop
def PO(X:Cx)(e:Option Expr)(t:TO):Prop :=
 ∀(pins:List (wd × Obj))(s:wo)(σ : St)(H:Hp)(Q:Option Int->Hp->Prop),Inv X pins σ H s->t σ H Q ->
  wA (model X.prog X.w) X.A (evalPart e X.env) (λu s'=>∃o H',Inv X pins σ H' s'/\IsPart u o/\Q o H') X.xe s
def B8:TO:=λ_ H Q=>Q none H
def AJ(t:TE):TO:=λσ H Q=>t σ H λx H1=>∃i,x=.int i/\Q (some i) H1
theorem tZ{ns:List Int} : ∀{us:List wg},aC (ns.map V.int) us->WT us ns:=by
 induction ns with
 | nil=>intro us r;rw[WG]at r;cases r;exact .nil
 | cons n ns ih =>
  intro us r;rw[wU]at r;cases r with
  | cons r1 r2 =>
   obtain⟨t,e⟩:=r1;subst e;exact .cons n t (ih r2)
section
variable{X:Cx}{e:Expr}{te:TE}{lo hi:Option Expr}{tl th:TO}{pos p2:Pos}
theorem bN:PO X none B8:=by
 intro pins s σ H Q I h;rw[evalPart_none];exact wz ⟨none,H,I,.none,h⟩
theorem bj(h:PE X e te):PO X (some e) (AJ te):=by
 intro pins s σ H Q I hw;rw[evalPart_some];refine aq (h pins s σ H _ I hw) λu s1 ⟨x,H1,I1,r1,q1⟩=>?_
 obtain⟨i,rfl,q⟩:=q1;obtain⟨t,rfl⟩:=r1;exact⟨some i,H1,I1,.int i t,q⟩
def fD(X:Cx)(r:V->Option Int->Option Int->Hp->VK->Prop):Prop :=
 ∀(pins:List (wd × Obj))(s:wo)(σ : St)(H:Hp)(x:V)(v vl vu:wg)(lo hi:Option Int)(sl:wd)(Q:VK),Inv X pins σ H s->aW x v->s.heap.IsSliceOf sl vl vu .none->IsPart vl lo->IsPart vu hi->r x lo hi H Q ->
  ∃T id,typeLookup (.type T) "__getitem__"=pure (some (.builtin id))/\s.TypeIs v T/\wA (model X.prog X.w) X.A (getItem v (.ref sl)) (EP X pins σ Q) X.xe s
theorem fD.or{r r':V->Option Int->Option Int->Hp->VK->Prop}(h:fD X r)(h':fD X r'):fD X (λx lo hi H Q=>r x lo hi H Q\/r' x lo hi H Q):=by
 intro pins s σ H x v vl vu lo hi sl Q I rx hs pl pu q;rcases q with q | q
 ·exact h pins s σ H x v vl vu lo hi sl Q I rx hs pl pu q
 ·exact h' pins s σ H x v vl vu lo hi sl Q I rx hs pl pu q
def Cj(r:V->Option Int->Option Int->Hp->VK->Prop)(te:TE)(tl th:TO):TE:=λσ H Q=>te σ H λx H1=>tl σ H1 λl H2=>th σ H2 λu H3=>r x l u H3 Q
theorem br{r:V->Option Int->Option Int->Hp->VK->Prop}(hr:fD X r)(he:PE X e te)(hl:PO X lo tl)(hu:PO X hi th):PE X (.Subscript e (.Slice lo hi none p2) pos) (Cj r te tl th):=by
 intro pins s σ H Q I h;refine Subscript_ (aq (he pins s σ H _ I h) λv s1 ⟨x,H1,I1,r1,q1⟩=>?_);refine wpAny_Slice (aq (hl pins s1 σ H1 _ I1 q1) λvl s2 ⟨l,H2,I2,pl,q2⟩=>aq (hu pins s2 σ H2 _ I2 q2) λvu s3 ⟨u,H3,I3,pu,q3⟩=>?_);rw[evalPart_none];refine wz ?_;have I4:Inv X pins σ H3 {s3 with heap:=s3.heap.push {cls:=.type "slice",data:=.fields #[vl,vu,.none]}}:=I3.kept (t':=s3.toks) λb ob q=>wk _ q
 obtain⟨T,id,hT,ht,hg⟩:=hr pins {s3 with heap:=s3.heap.push {cls:=.type "slice",data:=.fields #[vl,vu,.none]}} σ H3 x v vl vu l u s3.heap.objs.size Q I4 r1 (Xi ..) pl pu q3
 show wA (model X.prog X.w) X.A (subscriptTail e (.Slice lo hi none p2) v (.ref s3.heap.objs.size)) (EP X pins σ Q) X.xe {s3 with heap:=s3.heap.push {cls:=.type "slice",data:=.fields #[vl,vu,.none]}}
 exact tail_any (ops:=[.ref s3.heap.objs.size,v]) ht hT hg (by with_unfolding_all rfl)
def d6(xs:List V)(lo hi:Option Int):List V:=(xs.drop (HT.aE xs.length 0 lo)).take (HT.aE xs.length xs.length hi-HT.aE xs.length 0 lo)
theorem Hj(xs:List V)(lo hi:Option Int):(d6 xs lo hi).length<=xs.length:=by
 unfold d6;rw[VB,qP]
 lia
def IG(K:wa):V->Option Int->Option Int->Hp->VK->Prop:=λx lo hi H Q=>∃a xs,x=.ref a/\aP K H a xs /\
 ¬ (HT.aE xs.length 0 lo=0/\HT.aE xs.length xs.length hi=xs.length) /\ ∀p,H p=none->Q (.ref p) (upd H p (.tup (d6 xs lo hi)))
theorem YM:fD X (IG X.K):=by
 intro pins s σ H x v vl vu lo hi sl Q I rx hs pl pu h;obtain⟨a,xs,rfl,hx,hw,q⟩:=h;cases rx;obtain⟨its,r,ht,hz⟩:=I.tuple hx;have hlen:its.toArray.size=xs.length:=by rw[wN];exact r.length.symm
 refine⟨"tuple",_,VN.lookup,ht.typeIs,?_⟩;refine HT.Mw ht hs pl pu (by rw[hlen];exact hw) ?_ (by rw[hlen];exact hz);rw[hlen];refine⟨.ref s.heap.objs.size,_,I.laid (t':=s.toks) (o:=.tup (d6 xs lo hi)) (λb ob q=>wk _ q) (wx _) ?_,rfl,q _ (I.ar.fresh (wx _))⟩;exact⟨vd (Hj xs lo hi) hz,_,(r.drop (HT.aE xs.length 0 lo)).take (HT.aE xs.length xs.length hi-HT.aE xs.length 0 lo),Qq _ _⟩
def Ci(K:wa):R2:=λx y H Q=>∃a b ns ms,x=.ref a/\y=.ref b/\aP K H a (ns.map V.int)/\aP K H b (ms.map V.int)/\Q (.bl (HT.lexLt ns ms)) H
theorem OL(hu:X.A.units<cLine):ax X (wQ .Lt) (Ci X.K):=by
 intro pins s σ H x y v u Q I rx ry h;obtain⟨a,b,ns,ms,rfl,rfl,ha,hb,q⟩:=h;cases rx;cases ry;obtain⟨its,r1,p1,_⟩:=I.tuple ha;obtain⟨its2,r2,p2,_⟩:=I.tuple hb;have i1:WT its.toArray.toList ns:=tZ r1;have i2:WT its2.toArray.toList ms:=tZ r2;exact HT.Ni p1 p2 i1 i2 hu ⟨.bl (HT.lexLt ns ms),H,I,rfl,q⟩
def Mh(K:wa):R2:=λx y H Q=>∃a b xs ys,x=.ref a/\y=.ref b/\aP K H a xs/\aP K H b ys/\xs≠[]/\xs.length+ys.length<=wC /\
 (ys=[]->Q (.ref a) H)/\(ys≠[]->∀p,H p=none->Q (.ref p) (upd H p (.tup (xs++ys))))
theorem aC.yS{xs:List V}{us:List wg}(r:aC xs us):us=[] ↔ xs=[]:=by
 cases r with
 | nil=>simp
 | cons _ _=>simp
theorem zvZ:ax X (vT .Add) (Mh X.K):=by
 intro pins s σ H x y v u Q I rx ry h;obtain⟨a,b,xs,ys,rfl,rfl,ha,hb,hx,hz,q1,q2⟩:=h;cases rx;cases ry;obtain⟨its,r1,p1,_⟩:=I.tuple ha;obtain⟨its2,r2,p2,_⟩:=I.tuple hb;refine HT.NF p1 p2 (λz=>hx (r1.yS.mp z)) (λz=>⟨.ref a,H,I,rfl,q1 (r2.yS.mp z)⟩) (λz=>?_) (by rw[<- r1.length,<- r2.length];exact hz);refine⟨.ref s.heap.objs.size,_,I.laid (t':=s.toks) (o:=.tup (xs++ys)) (λb ob q=>wk _ q) (wx _) ?_,rfl,q2 (λw=>z (r2.yS.mpr w)) _ (I.ar.fresh (wx _))⟩;exact⟨by rw[vQ];exact hz,_,r1.append r2,Qq _ _⟩
end
def gJ(n:Nat)(i:Int):Option Nat:=if 0<=i then(if i<n then some i.toNat else none)else if -(n:Int)<=i then some (i+n).toNat else none
def eC{α : Type}(xs:List α)(i:Int):Option α:=(gJ xs.length i).bind λj=>xs[j]?
theorem Ls{n:Nat}{i:Int}{j:Nat}(h:gJ n i=some j):seqIndex? i n=some j/\j<n /\ -(n:Int)<=i/\i<n:=by
 unfold gJ at h
 by_cases h0:0<=i
 ·rw[if_pos h0]at h
  by_cases h1:i<n
  ·rw[if_pos h1]at h
   have e:i.toNat=j:=vo h;exact⟨by rw[seqIndex_of h0 h1,e],by lia,by lia,h1⟩
  ·rw[if_neg h1]at h;cases h
 ·rw[if_neg h0]at h
  by_cases h1 : -(n:Int)<=i
  ·rw[if_pos h1]at h
   have e:(i+n).toNat=j:=vo h;exact⟨by rw[seqIndex_neg (by lia) h1,e],by lia,h1,by lia⟩
  ·rw[if_neg h1]at h;cases h
theorem za{α : Type}{xs:List α}{i:Int}{v : α}(h:eC xs i=some v):∃j,seqIndex? i xs.length=some j/\xs[j]? = some v/\j<xs.length /\ -(xs.length:Int)<=i/\i<xs.length:=by
 unfold eC at h;cases e:gJ xs.length i with
 | none=>rw[e]at h;cases h
 | some j =>
  rw[e]at h;obtain⟨h1,h2,h3,h4⟩:=Ls e;exact⟨j,h1,h,h2,h3,h4⟩
theorem cP{α : Type}{xs:List α}{j:Nat}{v : α}(h:xs[j]? = some v):eC xs (j:Int)=some v:=by
 have hj:j<xs.length:=(wX.mp h).1
 have e:gJ xs.length (j:Int)=some j:=by
  unfold gJ;rw[if_pos (by lia),if_pos (by lia)];simp
 unfold eC;rw[e];exact h
def HF(b:Expr):Prop:=∀o i,subscripted b false o i=operate [o,i] (getItem o i)
def gQ(X:Cx)(r:R2):Prop :=
 ∀(value slice:Expr)(pins:List (wd × Obj))(s:wo)(σ : St)(H:Hp)(x y:V)(v u:wg)(Q:VK),Inv X pins σ H s->aW x v->aW y u->r x y H Q ->
  subscripted slice false v u=operate [v,u] (getItem v u)->wA (model X.prog X.w) X.A (subscriptTail value slice v u) (EP X pins σ Q) X.xe s
def BX(X:Cx)(id:String)(r:V->List V->Hp->VK->Prop):Prop :=
 ∀(pins:List (wd × Obj))(s:wo)(σ : St)(H:Hp)(x:V)(xs:List V)(v:wg)(us:List wg)(Q:VK),Inv X pins σ H s->aW x v->aC xs us->r x xs H Q ->
  wA (model X.prog X.w) X.A (call (.builtin id) (v::us)) (EP X pins σ Q) X.xe s
section
variable{X:Cx}{a b:Expr}{ta tb:TE}{pos:Pos}
theorem gQ.or{r r':R2}(h:gQ X r)(h':gQ X r'):gQ X (λx y H Q=>r x y H Q\/r' x y H Q):=by
 intro value slice pins s σ H x y v u Q I rx ry q hs;rcases q with q | q
 ·exact h value slice pins s σ H x y v u Q I rx ry q hs
 ·exact h' value slice pins s σ H x y v u Q I rx ry q hs
theorem gv{r:R2}(hr:gQ X r)(ha:PE X a ta)(hb:PE X b tb)(hs:HF b):PE X (.Subscript a b pos) (dD r ta tb):=by
 intro pins s σ H Q I h;exact Subscript_ (BE ha hb I h λv u s2 x y H2 I2 rx ry q=>hr a b pins s2 σ H2 x y v u Q I2 rx ry q (hs _ _))
def Ku(K:wa):R2:=λx y H Q=>∃p xs i v,x=.ref p/\y=.int i/\aN K H p xs/\eC xs i=some v/\Q v H
def KC(K:wa):R2:=λx y H Q=>∃p xs i v,x=.ref p/\y=.int i/\aP K H p xs/\eC xs i=some v/\Q v H
def FU:R2:=λx y H Q=>∃z i c,x=.str z/\y=.int i/\z.length<=wC/\eC z.cps.toList i=some c/\Q (.str ⟨#[c]⟩) H
theorem Rj:gQ X (Ku X.K):=by
 intro value slice pins s σ H x y v u Q I rx ry h hs;obtain⟨p,xs,i,z,rfl,rfl,hq,he,q⟩:=h;cases rx;obtain⟨t,rfl⟩:=ry;obtain⟨its,r,pl,hz⟩:=I.list hq;obtain⟨j,h1,h2,h3,h4,h5⟩:=za he;obtain⟨w,ew,rw'⟩:=r.get h2;have hl:=r.length;have hn:=km;have fin:EP X pins σ Q w s:=⟨z,H,I,rw',q⟩
 by_cases h0:0<=i
 ·have hj:i.toNat=j:=by
   rw[seqIndex_of h0 h5]at h1;exact vo h1
  exact item_listR pl.isList h0 (by lia) (by rw[hj];simpa using ew) fin hs
 ·have hj:(i+(its.toArray.size:Int)).toNat=j:=by
   rw[seqIndex_neg (by lia) h4]at h1;rw[wN,<- hl];exact vo h1
  exact subscriptTail_builtinR (x:=w) pl.isList.typeIs slot_list_getitem.lookup
   (wpAny_getItem_list_neg (Q:=λr s'=>r=w/\EP X pins σ Q r s') pl.isList (by lia) (by rw[wN]<;>lia) (by lia) (by rw[hj];simpa using ew) ⟨rfl,fin⟩) hs
theorem UX:gQ X (KC X.K):=by
 intro value slice pins s σ H x y v u Q I rx ry h hs;obtain⟨p,xs,i,z,rfl,rfl,hq,he,q⟩:=h;cases rx;obtain⟨t,rfl⟩:=ry;obtain⟨its,r,pl,hz⟩:=I.tuple hq;obtain⟨j,h1,h2,h3,h4,h5⟩:=za he;obtain⟨w,ew,rw'⟩:=r.get h2;have hl:=r.length;have hn:=km;have fin:EP X pins σ Q w s:=⟨z,H,I,rw',q⟩
 exact subscriptTail_builtinR (x:=w) pl.typeIs slot_tuple_getitem.lookup
  (getItem_tuple (j:=j) (Q:=λr s'=>r=w/\EP X pins σ Q r s') pl (by lia) (by lia) (by rw[wN,<- hl];exact h1) (by simpa using ew) ⟨rfl,fin⟩) hs
theorem Ta:gQ X FU:=by
 intro value slice pins s σ H x y v u Q I rx ry h hs;obtain⟨z,i,c,rfl,rfl,hz,he,q⟩:=h;obtain⟨t,rfl⟩:=rx;obtain⟨t',rfl⟩:=ry;obtain⟨j,h1,h2,h3,h4,h5⟩:=za he;have hl:z.cps.toList.length=z.length:=by simp[Str.length]
 rw[hl]at h1 h4 h5;have hn:=km
 exact tail_any (Vw s z t) slot_str_getitem.lookup (getItem_str (c:=c) (by
  have e1:decide (i < -(2^63:Int))=false:=decide_eq_false (by lia);have e2:decide (i ≥ 2^63)=false:=decide_eq_false (by lia);rw[e1,e2,uJ]) (by rw[h1];simpa using h2) ⟨.str ⟨#[c]⟩,H,I.tok _,⟨_,rfl⟩,q⟩) hs
def dk(K:wa):R2:=λx y H Q=>Ku K x y H Q\/KC K x y H Q\/FU x y H Q
theorem dh:gQ X (dk X.K):=Rj.or (UX.or Ta)
theorem zoH(its:List wg)(n j:Nat)(u:wg):vC (·.setIfInBounds j u) {cls:=.type "list",data:=.seq its.toArray n} = {cls:=.type "list",data:=.seq (its.set j u).toArray n}:=by
 simp[vC]
theorem Inv.lst{pins:List (wd × Obj)}{σ : St}{H:Hp}{s:wo}{p:wd}{xs:List V}(I:Inv X pins σ H s)(h:H p=some (.lst xs)) :
  ∃(its:List wg)(n:Nat),aC xs its/\s.heap.get? p=some {cls:=.type "list",data:=.seq its.toArray n}/\xs.length<=wC:=by
 obtain⟨z,its,n,r,e⟩:=I.ar p _ h;exact⟨its,n,r,e,z⟩
theorem Inv.NN{pins:List (wd × Obj)}{σ : St}{H:Hp}{s:wo}{p:wd}{xs ys:List V}{its its':List wg}{n n':Nat}{f:Obj->Obj}(I:Inv X pins σ H s)(h:H p=some (.lst xs))
  (ho:s.heap.get? p=some {cls:=.type "list",data:=.seq its.toArray n}) (hf:f {cls:=.type "list",data:=.seq its.toArray n} = {cls:=.type "list",data:=.seq its'.toArray n'}) (r:aC ys its') (hz:ys.length<=wC) (t:Nat) :
  Inv X pins σ (upd H p (.lst ys)) {s with heap:=s.heap.update p f,toks:=t}:=by
 have e:(s.heap.update p f).get? p=some {cls:=.type "list",data:=.seq its'.toArray n'}:=by
  rw[W2 f ho (by rw[hf]<;>rfl),hf]
 refine I.write (x:=p) (e:=p) (by rw[h];trivial) (.inl rfl) (λb u hb q=>(qK _ _ (qi hb)).trans q) ⟨_,e⟩ ?_;exact⟨hz,its',n',r,e⟩
def Ju:V->V->V->Hp->(Hp->Prop)->Prop:=λo i v H Q=>∃p xs k j,o=.ref p/\i=.int k/\H p=some (.lst xs)/\gJ xs.length k=some j/\Q (upd H p (.lst (xs.set j v)))
theorem Aa:GZ X Ju:=by
 intro pins s σ H o i v ov iv u Q I ro ri rv h;obtain⟨p,xs,k,j,rfl,rfl,hp,hj,q⟩:=h;cases ro;obtain⟨t,rfl⟩:=ri;obtain⟨its,n,r,ho,hz⟩:=I.lst hp;obtain⟨h1,h2,h3,h4⟩:=Ls hj;have hl:=r.length;have hn:=km
 have I':Inv X pins σ (upd H p (.lst (xs.set j v))) {s with heap:=s.heap.update p (vC (·.setIfInBounds j u))} :=
  I.NN hp ho (zoH its n j u) (r.set rv j) (by rw[xn];exact hz) s.toks
 by_cases h0:0<=k
 ·have hk:k.toNat=j:=by
   rw[seqIndex_of h0 h4]at h1;exact vo h1
  exact PySem.W.ki_setAt ho h0 (by lia) (by rw[wN,<- hl];exact h4) (by rw[hk];exact⟨_,I',q⟩)
 ·have hk:(k+(its.toArray.size:Int)).toNat=j:=by
   rw[seqIndex_neg (by lia) h3]at h1;rw[wN,<- hl];exact vo h1
  exact PySem.W.ki_setBack ho (by lia) (by rw[wN,<- hl];exact h3) (by lia) (by rw[hk];exact⟨_,I',q⟩)
theorem Up(lo hi:Option Int)(n:Nat):(qj lo hi none n).1=((HT.aE n 0 lo:Nat):Int)/\(qj lo hi none n).2.1=((HT.aE n n hi:Nat):Int)/\(qj lo hi none n).2.2=1:=by
 refine⟨?_,?_,rfl⟩
 ·cases lo with
  | none=>simp[qj,HT.aE]
  | some i =>
   simp only[qj,HT.aE,XW,show(1:Int) > 0 by decide,if_true]
   by_cases h:i<0
   ·simp only[h,if_true]<;>lia
   ·simp only[h,if_false]<;>lia
 ·cases hi with
  | none=>simp[qj,HT.aE]
  | some i =>
   simp only[qj,HT.aE,XW,show(1:Int) > 0 by decide,if_true]
   by_cases h:i<0
   ·simp only[h,if_true]<;>lia
   ·simp only[h,if_false]<;>lia
theorem ZH(its:List wg)(lo hi:Option Int):slicePick its.toArray lo hi none=((its.drop (HT.aE its.length 0 lo)).take (HT.aE its.length its.length hi-HT.aE its.length 0 lo)).toArray:=by
 obtain⟨h1,h2,h3⟩:=Up lo hi its.toArray.size;unfold slicePick;rw[h1,h2,h3];simp only[sliceRange_one,pick_run,wN]<;>rfl
def HD(K:wa):V->Option Int->Option Int->Hp->VK->Prop:=λx lo hi H Q=>∃a xs,x=.ref a/\aN K H a xs /\ ∀p,H p=none->Q (.ref p) (upd H p (.lst (d6 xs lo hi)))
theorem TK:fD X (HD X.K):=by
 intro pins s σ H x v vl vu lo hi sl Q I rx hs pl pu h;obtain⟨a,xs,rfl,hx,q⟩:=h;cases rx;obtain⟨its,r,ht,hz⟩:=I.list hx;have hlen:=r.length;refine⟨"list",_,slot_list_getitem.lookup,ht.isList.typeIs,?_⟩;refine wpAny_getItem_list_slice ht.isList hs pl pu .none (by simp) ?_ (by rw[wN]<;>lia);rw[ZH,<- hlen];refine⟨.ref s.heap.objs.size,_,I.laid (t':=s.toks) (o:=.lst (d6 xs lo hi)) (λb ob q=>wk _ q) (wx _) ?_,rfl,q _ (I.ar.fresh (wx _))⟩;exact⟨vd (Hj xs lo hi) hz,_,0,(r.drop (HT.aE xs.length 0 lo)).take (HT.aE xs.length xs.length hi-HT.aE xs.length 0 lo),wE _ rfl⟩
def ke:V->Bool
 | .bM=>true
 | .bl _=>true
 | .int _=>true
 | .str _=>true
 | _=>false
def lP:V->V->Bool
 | .bM,.bM=>true
 | .bl a,.bl b=>a == b
 | .bl a,.int b=>(if a then 1 else 0) == b
 | .int a,.bl b=>a == (if b then 1 else 0)
 | .int a,.int b=>a == b
 | .str a,.str b=>a == b
 | _,_=>false
theorem Rr{A:vm}{s:wo}{y x:V}{u v:wg}(ry:aW y u)(rx:aW x v)(fy:ke y=true)(fx:ke x=true):ud A s u v (lP y x):=by
 cases y with
 | bM =>
  cases ry;cases x with
  | bM=>cases rx;exact SeqAt.EqAt.same _
  | bl b=>cases rx;exact SeqAt.EqAt.none_bool b
  | int b=>obtain⟨t,rfl⟩:=rx;exact SeqAt.EqAt.none_int b t
  | str b=>obtain⟨t,rfl⟩:=rx;exact SeqAt.EqAt.none_str b t
  | _=>exact absurd (show false=true from fx) vG
 | bl a =>
  cases ry;cases x with
  | bM=>cases rx;exact SeqAt.EqAt.bool_none a
  | bl b=>cases rx;exact SeqAt.EqAt.bool_bool a b
  | int b=>obtain⟨t,rfl⟩:=rx;exact SeqAt.EqAt.bool_int a b t
  | str b=>obtain⟨t,rfl⟩:=rx;exact SeqAt.EqAt.bool_str a b t
  | _=>exact absurd (show false=true from fx) vG
 | int a =>
  obtain⟨t',rfl⟩:=ry;cases x with
  | bM=>cases rx;exact SeqAt.EqAt.int_none a t'
  | bl b=>cases rx;exact SeqAt.EqAt.int_bool a t' b
  | int b=>obtain⟨t,rfl⟩:=rx;exact Xh a t' b t
  | str b=>obtain⟨t,rfl⟩:=rx;exact Xd a t' b t
  | _=>exact absurd (show false=true from fx) vG
 | str a =>
  obtain⟨t',rfl⟩:=ry;cases x with
  | bM=>cases rx;exact SeqAt.EqAt.str_none a t'
  | bl b=>cases rx;exact SeqAt.EqAt.str_bool a t' b
  | int b=>obtain⟨t,rfl⟩:=rx;exact Xe a t' b t
  | str b=>obtain⟨t,rfl⟩:=rx;exact SeqAt.EqAt.str_str a t' b t
  | _=>exact absurd (show false=true from fx) vG
 | _=>exact absurd (show false=true from fy) vG
def nq(x:V)(u:wg):Bool:=match u with
 | .none=>lP .bM x
 | .bool b=>lP (.bl b) x
 | .int i _=>lP (.int i) x
 | .str z _=>lP (.str z) x
 | _=>false
theorem zyv{x y:V}{u:wg}(r:aW y u)(f:ke y=true):nq x u=lP y x:=by
 cases y with
 | bM=>cases r;rfl
 | bl b=>cases r;rfl
 | int i=>obtain⟨t,rfl⟩:=r;rfl
 | str z=>obtain⟨t,rfl⟩:=r;rfl
 | _=>exact absurd (show false=true from f) vG
theorem AQ{A:vm}{s:wo}{x:V}{v:wg}(rx:aW x v)(fx:ke x=true):∀{xs:List V}{us:List wg},aC xs us->xs.all ke=true->∀u∈us,ud A s u v (nq x u)
 | _,_,.nil,_=>λu hu=>by cases hu
 | y::xs,u::us,.cons r t,f=>λu' hu=>by
  rw[WI,wD]at f;rcases wO.mp hu with rfl | hu
  ·rw[zyv r f.1];exact Rr r rx f.1 fx
  ·exact AQ rx fx t f.2 u' hu
theorem Rl:ao X (.builtin "len") (λxs H Q=>∃p ys,xs=[.ref p]/\(aN X.K H p ys\/aP X.K H p ys)/\Q (.int ys.length) H):=by
 intro pins s σ H xs us Q I r h;obtain⟨p,ys,rfl,hq,q⟩:=h;obtain⟨u,rfl,rx⟩:=gi r;cases rx;have hn:=km;rcases hq with hq | hq
 ·obtain⟨its,r',pl,hz⟩:=I.list hq
  have hlen:=r'.length;exact Calls.call_len_list pl.isList (by simp only[wN]<;>lia) ⟨.int ys.length,H,I.tok _,⟨s.toks+1,by rw[wN,hlen]⟩,q⟩
 ·obtain⟨its,r',pl,hz⟩:=I.tuple hq
  have hlen:=r'.length;exact len_tuple pl (by simp only[wN]<;>lia) ⟨.int ys.length,H,I.tok _,⟨s.toks+1,by rw[wN,hlen]⟩,q⟩
theorem P6:ao X (.builtin "len") (λxs H Q=>∃z,xs=[.str z]/\z.length<=wC/\Q (.int z.length) H):=by
 intro pins s σ H xs us Q I r h;obtain⟨z,rfl,hz,q⟩:=h;obtain⟨u,rfl,t,rfl⟩:=gi r;have hn:=km;exact len_str (by lia) ⟨.int z.length,H,I.tok _,⟨_,rfl⟩,q⟩
theorem zkM:ao X (.type "tuple") (λxs H Q=>∃p ys,xs=[.ref p]/\((aN X.K H p ys /\ ∀l,H l=none->Q (.ref l) (upd H l (.tup ys)))\/(aP X.K H p ys/\Q (.ref p) H))):=by
 intro pins s σ H xs us Q I r h;obtain⟨p,ys,rfl,h⟩:=h;obtain⟨u,rfl,rx⟩:=gi r;cases rx;rcases h with⟨hq,q⟩ | ⟨hq,q⟩
 ·obtain⟨its,r',pl,hz⟩:=I.list hq
  have hlen:=r'.length;refine call_tuple_list pl.isList (λh' kp=>?_) (by simp only[wN]<;>lia);have I1:Inv X pins σ H {s with heap:=h'}:=I.kept (t':=s.toks) kp
  have I2:Inv X pins σ (upd H h'.objs.size (.tup ys)) {s with heap:=h'.push {cls:=.type "tuple",data:=.seq its.toArray}} :=
   I1.laid (t':=s.toks) (λb o e=>wk _ e) (wx _) (show cF X.prog X.w _ _ _ (.tup ys)from⟨hz,its,r',Qq _ _⟩)
  exact⟨.ref h'.objs.size,_,I2,rfl,q _ (I1.ar.fresh (wx _))⟩
 ·obtain⟨its,r',pl,hz⟩:=I.tuple hq
  exact call_tuple_same pl ⟨.ref p,H,I,rfl,q⟩
def kD(K:wa)(T:String)(x:V)(H:Hp):Prop:=match x with
 | .str _=>T="str"
 | .int _=>T="int"
 | .ref p=>(T="list" /\ ∃xs,aN K H p xs)\/(T="tuple" /\ ∃o,K.lookup p=some o/\o.cls=.type "tuple"/\o.dict=none) \/
     (T="dict"/\((∃kvs,H p=some (.dK kvs)) \/ ∃kvs,H p=some (.dT kvs)))\/(T="set" /\ ∃S n,H p=some (.set S n))
 | _=>False
theorem Ly{pins:List (wd × Obj)}{σ : St}{H:Hp}{s:wo}{T:String}{x:V}{v:wg}(I:Inv X pins σ H s)(r:aW x v)(ty:kD X.K T x H) :
  s.TypeIs v T /\ ∀a,v=.ref a->∃ob,s.heap.get? a=some ob/\ob.dict=none:=by
 cases x with
 | str z =>
  obtain⟨t,rfl⟩:=r;cases (show T="str" from ty);exact⟨Vw s z t,λ_ e=>nomatch e⟩
 | int i =>
  obtain⟨t,rfl⟩:=r;cases (show T="int" from ty);exact⟨typeIs_int s i t,λ_ e=>nomatch e⟩
 | ref p =>
  cases r;rcases ty with⟨rfl,xs,hq⟩ | ⟨rfl,o,hk,hc,hd⟩ | ⟨rfl,hk⟩ | ⟨rfl,S,n,hk⟩
  ·obtain⟨its,_,pl,_⟩:=I.list hq
   refine⟨pl.isList.typeIs,λa e=>?_⟩;cases e;obtain⟨o,n,e,c,hd,_⟩:=pl;exact⟨o,e,hd⟩
  ·refine⟨⟨o,I.cq p o hk,hc⟩,λa e=>?_⟩
   cases e;exact⟨o,I.cq _ o hk,hd⟩
  ·have z:∃o,s.heap.get? p=some o/\o.ExactDict:=by
    rcases hk with⟨kvs,hk⟩ | ⟨kvs,hk⟩
    ·obtain⟨_,_,_,_,o,_,_,e,ex,_⟩:=I.ar p _ hk
     exact⟨o,e,ex⟩
    ·obtain⟨_,_,_,_,o,_,_,e,ex,_⟩:=I.ar p _ hk
     exact⟨o,e,ex⟩
   obtain⟨o,e,ex⟩:=z;refine⟨⟨o,e,ex.1⟩,λa e2=>?_⟩;cases e2;exact⟨o,e,ex.2.1⟩
  ·obtain⟨o,_,_,_,e,ex,_⟩:=I.ar p _ hk
   refine⟨⟨o,e,ex.1⟩,λa e2=>?_⟩;cases e2;exact⟨o,e,ex.2.1⟩
 | _=>exact WX ty
def Gj(K:wa)(T:String)(r:V->List V->Hp->VK->Prop)(to:TE):TE:=λσ H Q=>to σ H λx H1=>kD K T x H1/\r x [] H1 Q
def yy(K:wa)(T:String)(r:V->List V->Hp->VK->Prop)(to:TE)(t:TA):TE:=λσ H Q=>to σ H λx H1=>kD K T x H1/\t σ H1 λxs H2=>r x xs H2 Q
variable{o e:Expr}{es:List Expr}{to:TE}{t:TA}{name:Str}{apos cpos:Pos}{T id:String}{r:V->List V->Hp->VK->Prop}
theorem Ue(pa:PlainAttrs T)(slot:Slot T name id)(hty:typeOf (.builtin id)=pure (.type "method_descriptor"))(hm:BX X id r)(ho:PE X o to)
  (hbase:attributeBase o name X.env (eval o X.env)=eval o X.env:=by rfl) (hline:(apos.endLine == cpos.line)=true:=by rfl):PE X (.Call (.Attribute o name apos) [] [] cpos) (Gj X.K T r to):=by
 intro pins s σ H Q I h;refine wpAny_Call_method0_late hbase hline (aq (ho pins s σ H _ I h) λv s1 ⟨x,H1,I1,r1,ty,q1⟩=>?_);obtain⟨h1,h2⟩:=Ly I1 r1 ty;exact⟨T,id,pa,slot,hty,h1,h2,VY rfl (PySem.evalArgs_none (hm pins s1 σ H1 x [] v [] Q I1 r1 .nil q1))⟩
theorem cQ(pa:PlainAttrs T)(slot:Slot T name id)(hty:typeOf (.builtin id)=pure (.type "method_descriptor"))(hm:BX X id r)(ho:PE X o to)(ha:PA X (e::es) t)
  (hbase:attributeBase o name X.env (eval o X.env)=eval o X.env:=by rfl)
  (hfew:((Vr cpos (w5 (e::es) X.env)).all (λx=>!x.1)&&(backToKw cpos (keywordEach [] X.env)).all (λx=>x.1.isSome)
   && decide ((e::es).length+([]:List Keyword).length+(if([]:List Keyword).isEmpty then 0 else 1)<30))=true:=by rfl)
  (hline:(apos.endLine == cpos.line)=true:=by rfl) (hs:w5 (e::es) X.env=(false,eval e X.env)::w5 es X.env:=by rfl) (hplain:(Vr cpos (w5 es X.env)).any (·.1)=false:=by rfl) :
  PE X (.Call (.Attribute o name apos) (e::es) [] cpos) (yy X.K T r to t):=by
 intro pins s σ H Q I h;refine wpAny_Call_method_late hbase hfew hline rfl (aq (ho pins s σ H _ I h) λv s1 ⟨x,H1,I1,r1,ty,q1⟩=>?_);obtain⟨h1,h2⟩:=Ly I1 r1 ty;refine⟨T,id,pa,slot,hty,h1,h2,?_⟩;have hA:=ha cpos pins s1 σ H1 _ I1 q1;rw[hs]at hA ⊢;refine VY (by show(false || (Vr cpos (w5 es X.env)).any (·.1))=false;rw[hplain]<;>rfl) (qc ?_);exact aq hA λus s2 ⟨vs,H2,I2,r2,q2⟩=>hm pins s2 σ H2 x vs v us Q I2 r1 r2 q2
/- xs.append(e),list.index on a module's tuple .. are BX facts of 06m -/
end
def b_(X:Cx)(id:String)(r:V->List V->Hp->VK->Prop):Prop :=
 ∀(pins:List (wd × Obj))(s:wo)(σ : St)(H:Hp)(x:V)(xs:List V)(v:wg)(us:List wg)(Q:VK),Inv X pins σ H s->aW x v->aC xs us->r x xs H Q ->
  wA (model X.prog X.w) X.A (call (.builtin id) (v::us)) (EP X pins σ Q) X.xe s
theorem aC.one:∀{x:V}{us:List wg},aC [x] us->∃u,us=[u]/\aW x u
 | _,_,.cons r .nil=>⟨_,rfl,r⟩
theorem aC.reverse{xs:List V}{us:List wg}(h:aC xs us):aC xs.reverse us.reverse:=by
 induction h with
 | nil=>exact .nil
 | cons r t ih=>rw[QR,QR];exact aC.append ih (.cons r .nil)
theorem aC.rep{xs:List V}{us:List wg}(h:aC xs us):∀k:Nat,aC (w6 k xs).flatten (w6 k us).flatten
 | 0=>.nil
 | k+1=>by
  rw[WB,WB,W7,W7];exact aC.append h (aC.rep h k)
theorem F_(its:List wg):∀(k:Nat)(acc:List wg),
  ue (λx1 x2=>x1++x2) acc.toArray (w6 k its.toArray)=(acc++(w6 k its).flatten).toArray
 | 0,acc=>by simp
 | k+1,acc=>by
  have e:acc.toArray++its.toArray=(acc++its).toArray:=by simp
  have e2:(acc++its)++(w6 k its).flatten=acc++(w6 (k+1) its).flatten:=by
   rw[WB,W7,V5]
  rw[<- e2,<- F_ its k (acc++its),<- e,WB,uf]
section
variable{X:Cx}{pins:List (wd × Obj)}{σ : St}{H:Hp}{s:wo}{l b:wd}{xs ys zs:List V}
theorem Inv.NZ{its its':List wg}{n:Nat}{f:Array wg->Array wg}{t':Nat}(I:Inv X pins σ H s)(hH:H l=some (.lst xs))
  (e:s.heap.get? l=some {cls:=.type "list",data:=.seq its.toArray n}) (hf:f its.toArray=its'.toArray) (hv:aC ys its') (hz:ys.length<=wC) :
  Inv X pins σ (upd H l (.lst ys)) {s with heap:=s.heap.update l (vC f),toks:=t'}:=by
 have q:=PySem.IsL.update e f;rw[hf]at q;refine I.write (x:=l) (e:=l) (by rw[hH];exact trivial) (.inl rfl) (λb' u hb hu=>(qK s.heap (vC f) (qi hb)).trans hu) ⟨_,q⟩ ?_;exact⟨hz,its',_,hv,q⟩
theorem Inv.oG{its:List wg}{t':Nat}(I:Inv X pins σ H s)(hv:aC ys its)(hz:ys.length<=wC) :
  Inv X pins σ (upd H s.heap.objs.size (.lst ys)) {s with heap:=s.heap.push {cls:=.type "list",data:=.seq its.toArray},toks:=t'} :=
 I.laid (λ_ _ q=>wk _ q) (wx _) ⟨hz,its,0,hv,wE _ rfl⟩
theorem Inv.fresh(I:Inv X pins σ H s):H s.heap.objs.size=none:=I.ar.fresh (wx _)
theorem Inv.oF(I:Inv X pins σ H s)(hH:H l=some (.lst xs)):xs.length<=wC /\ ∃(its:List wg)(n:Nat),aC xs its/\xs.length=its.length/\s.heap.get? l=some {cls:=.type "list",data:=.seq its.toArray n}:=by
 obtain⟨z,its,n,r,e⟩:=I.ar l _ hH;exact⟨z,its,n,r,r.length,e⟩
theorem N2{n:Nat}(h:n<=wC):qt n=false:=by
 unfold qt;exact decide_eq_false (by lia)
end
section
variable{X:Cx}
def FV:V->List V->Hp->VK->Prop:=λx vs H Q=>∃l xs y,x=.ref l/\vs=[y]/\H l=some (.lst xs)/\xs.length<wC/\Q .bM (upd H l (.lst (xs++[y])))
theorem zS:b_ X "list.append" FV:=by
 intro pins s σ H x vs v us Q I rx rv h;obtain⟨l,xs,y,rfl,rfl,hH,hz,q⟩:=h;cases rx;obtain⟨u,rfl,ru⟩:=rv.one;obtain⟨z,its,n,r,hl,e⟩:=I.oF hH;refine VX F.slot_list_append ⟨_,e,rfl⟩ F.entry_list_append (F.args_list_append_2 _ _) (PySem.list_append l its.toArray n u (by rw[wN];lia)) ⟨e,?_⟩;refine⟨.bM,_,I.NZ (its':=its++[u]) hH e (by simp) (r.append (.cons ru .nil)) ?_,rfl,q⟩;rw[vQ,V9]
 lia
def Cu:R2:=λx y H Q=>∃l b xs zs,x=.ref l/\y=.ref b/\H l=some (.lst xs)/\H b=some (.lst zs)/\xs.length+zs.length<=wC /\ ∀p,H p=none->Q (.ref p) (upd H p (.lst (xs++zs)))
theorem SW:ax X (vT .Add) Cu:=by
 intro pins s σ H x y v u Q I rx ry h;obtain⟨l,b,xs,zs,rfl,rfl,hH,hB,hz,q⟩:=h;cases rx;cases ry;obtain⟨z,its,n,r,hl,e⟩:=I.oF hH;obtain⟨z2,its2,n2,r2,hl2,e2⟩:=I.oF hB;refine PySem.P.add_list e e2 ?_ (by rw[wN,wN];lia);have ea:its.toArray++its2.toArray=(its++its2).toArray:=by simp
 rw[ea];exact⟨.ref _,_,I.oG (t':=s.toks) (r.append r2) (by rw[vQ];lia),rfl,q _ I.fresh⟩
def j4:R2:=λx y H Q=>∃l k xs,x=.ref l/\y=.int k/\H l=some (.lst xs) /\ -(2^63)<=k/\k<2^63/\xs.length*k.toNat<=wC /\
 ∀p,H p=none->Q (.ref p) (upd H p (.lst (w6 k.toNat xs).flatten))
theorem ON{α : Type}(xs:List α)(k:Nat):(w6 k xs).flatten.length=k*xs.length:=by
 induction k with
 | zero=>simp
 | succ k ih=>rw[WB,W7,vQ,ih,Nat.succ_mul,Nat.add_comm]
theorem yn:ax X (vT .Mult) j4:=by
 intro pins s σ H x y v u Q I rx ry h;obtain⟨l,k,xs,rfl,rfl,hH,h1,h2,hz,q⟩:=h;cases rx;obtain⟨t,rfl⟩:=ry;obtain⟨z,its,n,r,hl,e⟩:=I.oF hH;have hlen:its.toArray.size*k.toNat<=wC:=by rw[wN,<- hl];exact hz
 have hcap:¬ its.toArray.size*k.toNat > (2^63-1) / 8:=by
  have:(wC:Nat)<=(2^63-1) / 8:=by decide
  lia
 have hfit:¬ (!Builtin.List.listFitsIndex k)=true:=by
  rw[fitsIndex_both h1 h2];exact vG
 have hlong:¬ qt (its.toArray.size*k.toNat)=true:=by
  rw[N2 hlen];exact vG
 have hnew:ue (λx1 x2=>x1++x2) #[] (w6 (if its.toArray.isEmpty=true then 0 else k.toNat) its.toArray)=(w6 k.toNat its).flatten.toArray:=by
  have f0:∀m:Nat,ue (λx1 x2=>x1++x2) #[] (w6 m its.toArray)=(w6 m its).flatten.toArray:=λm=>by
   have:=F_ its m [];rw[xo]at this;exact this
  rw[f0];cases its with
  | nil=>simp
  | cons a r'=>rw[if_neg (by simp)]
 refine wpAny_binaryOp_repeat_ref (T:="list") (U:="int") (by decide) ⟨_,e,rfl⟩ (λs'=>typeIs_int s' k t) noFill_list_mul F.fills_int_mul ug repeat_list F.slot_int_index.lookup
  (VX ug (typeIs_int s k t) F.entry_int_rmul (F.args_int_rmul_2 _ _) (int___rmul___int_list k t l its.toArray n)
   ⟨e,rfl,⟨_,e,rfl⟩,VX F.slot_list_mul ⟨_,e,rfl⟩ F.entry_list_mul (F.args_list_mul_2 _ _) (AutoListH.list___mul___list_int_3 l its.toArray n k t hfit hcap hlong) ⟨e,?_⟩⟩)
 rw[hnew];exact⟨.ref _,_,I.oG (t':=s.toks) (r.rep k.toNat) (by rw[ON,qu];exact hz),rfl,q _ I.fresh⟩
end
section
variable{prog:wV}{w:wR}{A:vm}{E:wg->wo->Prop}{s:wo}
end
section
variable{X:Cx}
end
end L2
namespace Att
open PySem PySem.W PySem.Calls PyProof.Rows
theorem O0{P:Params}{h:wK} : ∀(ns:List Int)(vs:List wg),WellAll P h vs (ns.map WData.int)->WT vs ns:=by
 intro ns
 induction ns with
 | nil =>
  intro vs w;rw[WG]at w;cases w;exact .nil
 | cons n ns ih =>
  intro vs w;rw[wU]at w;cases w with
  | cons a b =>
   cases a;exact .cons _ _ (ih _ b)
theorem U4{l:OpenLaw}{n:Nat}(hn:l.most=some n){P:Params}{h:wK}{args:List WData}{vals:List wg}
  (hpre:l.row.toRowW.claim.pre args=true) (hwl:WellAll P h vals args) :
  ∃a vs ns,vals=[Value.ref a]/\args=[WData.list (ns.map WData.int)]/\h.get? a=some {cls:=.type "list",data:=.seq vs.toArray}/\WT vs ns/\ns.length<=n:=by
 have hsh:WShape.hasAll [] args [.list .int]=true:=(pre_splitW hpre).1;have hc:l.pre.holds [] {args:=args}=true:=(pre_splitW hpre).2;obtain⟨d,r,rfl,h1,h2⟩:=hasAllW_cons hsh;obtain rfl:=hasAllW_nil h2;obtain⟨xs,rfl,h3⟩:=hasW_list h1;obtain⟨ns,rfl⟩:=items_int h3
 have hlen:ns.length<=n:=by
  unfold OpenLaw.pre at hc
  have h4:(WTm.not (.lt (.lit (.int (n:Int))) (.len (.arg 0)))).holds [] {args:=[.list (ns.map .int)]}=true:=by
   have h4:=(holds_andW hc).1;rw[hn]at h4;exact h4
  have h5:=condW_of h4 (w_not (w_lt w_lit (w_len_list (w_arg rfl))));rw[wm]at h5;refine Nat.le_of_not_lt λq=>?_
  have q':(n:Int)<((ns.length:Nat):Int):=by lia
  first
   | (rw[decide_eq_true q']at h5;exact absurd h5 (by decide))
   | (simp at h5;lia)
 cases hwl with
 | cons w1 w2 =>
  cases w2;cases w1 with
  | list ho hall=>exact⟨_,_,ns,rfl,rfl,ho,O0 ns _ hall,hlen⟩
theorem SI(l:OpenLaw)(args:List WData):l.row.toRowW.claim.post args (.bool true) args=true :=
 postW_of (r:=l.row.toRowW) (X:=(true == true))
  (show WShape.has [] (.bool true) .bool=true by first | rfl | decide | simp[WShape.has,WShape.arms,WShape.armsAll])
  (show(WTm.eq .res (.lit (.bool true))).value [] {args:=args,res:=some (.bool true),after:=args}=some (.bool (true == true))from w_eq_bool (w_res rfl) w_lit) rfl
theorem Nd{l:OpenLaw}{n:Nat}{q:wV}{loose:List Str}{XP:(Str->Option wg)->wK->Prop}{YP:wR->wK->Prop}{d:DefRec}
  (hn:l.most=some n) (hdf:d.params.defaults=[])
  (call:∀(w:wR)(s₀ s₁ : wo)(mg mb:Str->Option wg)(fa:wd)(o:Obj)(pm cd doc:wg)(a:wd)(vs:List wg)(ns:List Int),
   Ground q loose [] XP w s₀ mg mb s₁.heap->YP w s₁.heap ->
   s₁.heap.get? fa=some o->o.data=.func (docDef d.name d.params d.body d.scope pm cd doc)->s₁.heap.CodeRec cd d.name->mg d.name=some (.ref fa) ->
   s₁.heap.get? a=some {cls:=.type "list",data:=.seq vs.toArray}->WT vs ns->ns.length<=n->s₁.gens = #[] ->
   VQ (model l.prog w) callerA (.call (.ref fa) ⟨[.ref a],[]⟩) (λr s'=>r=.ok (.ret (.bool true))/\OldK s₁.heap s'.heap/\s'.os=s₁.os/\VP s'.gens) s₁) :
  WalkO q loose XP YP l.row.toRowW d [] (λf vs=>uh f vs):=by
 intro w s₀ s₁ mg mb G Y fa o pm cd doc dV kV ho hd hcd hD hmg hg args vals as hpre hlay hrd hwl hlo;obtain rfl:dV=.none:=Dflts.none hD hdf;obtain rfl:kV=.none:=Dflts.noKw hD;obtain⟨a,vs,ns,rfl,rfl,hobj,hints,hlen⟩:=U4 hn hpre hwl;refine enter_call (codeAny_mono (call w s₀ s₁ mg mb fa o pm cd doc a vs ns G Y ho (fd_plain hd) hcd hmg hobj hints hlen hg) λr s' hq=>?_);obtain⟨rfl,h2,h3,h4⟩:=hq;exact⟨.inl ⟨.bool true,.bool true,[],rfl,λ_=>rfl,.bool true,SI l _,λ_=>⟨uK.nil,λ_ hm=>(nomatch hm)⟩⟩,h2,h3,h4⟩
section
variable{prog:wV}{w:wR}{A:vm}{E:wg->wo->Prop}{s:wo}{K:Frag}
def zzV(h:wK)(L d:wd):List (wd × Obj):=(vf h.objs.size).filterMap λa=>if a=L\/a=d then none else(h.get? a).map λo=>(a,o)
end
end Att
namespace L2
open PySem PySem.Spec PyProof.Rows
theorem Lx:∀{vs:List wg}{ns:List Int},WT vs ns->aC (ns.map V.int) vs
 | _,_,.nil=>.nil
 | _,_,.cons n t h=>.cons ⟨t,rfl⟩ (Lx h)
def sA(H:Hp):Prop:=∀b,H b=none \/ ∃o xs,H b=some (.ft o (.lst xs))
theorem Z0{P:wV}{w:wR}{K:wa}{mg mb:Str->Option wg}{CX:dR}{k:Nat}{fa a:wd}{fd:wS}{x:Str}{sp:Sp}{s₁ : wo}{vs:List wg}{ns:List Int}
   (KX:K.In s₁.heap) (hns:s₁.heap.Ns wJ mg) (hb:s₁.heap.Ns builtinsNs mb) (hbb:∀x:Str,x≠"__name__" -> mb x=vR x) (hlim:s₁.heap.NoLimit) (hg:s₁.gens = #[])
   (ha:s₁.heap.get? a=some {cls:=.type "list",data:=.seq vs.toArray}) (hi:WT vs ns) (hl:ns.length<=wC) (hr:cO k callerA)
   (F:∀base:wK,K.In base->base.Ns wJ mg->aK P w K mg base CX k fa fd [x] sp) (hbind:∀(s:wo)(u:wg),BindsTo s fd ⟨[u],[]⟩ [(x,u)])
   (hsp:∀H:Hp,sA H->aN K H a (ns.map V.int)->sp [.ref a] H (λv _=>v=.bl true) λ_ _ _=>False)
   (hCX:∀H e s',CX [] H s₁ (λ_ _ _=>False) e s'->False) :
   VQ (model P w) callerA (.call (.ref fa) ⟨[.ref a],[]⟩) (λr s'=>r=.ok (.ret (.bool true))/\OldK s₁.heap s'.heap/\s'.os=s₁.os/\VP s'.gens) s₁:=by
 have rv:=Lx hi;have lenV:=hi.length
 -- from an abstract heap in which nothing but the script may be tracked
 have core:∀H:Hp,sA H->aN K H a (ns.map V.int)->cc P w H s₁.heap->(∀b,H b≠none->b=a)->(H a≠none->K.lookup a=none) ->
     VQ (model P w) callerA (.call (.ref fa) ⟨[.ref a],[]⟩) (λr s'=>r=.ok (.ret (.bool true))/\OldK s₁.heap s'.heap/\s'.os=s₁.os/\VP s'.gens) s₁:=by
   intro H hO hS ar hA hK;have base_of:∀{b:wd}{o:Obj},s₁.heap.get? b=some o->H b=none->(ji s₁.heap H).get? b=some o:=λe n=>Z8 e n
   have noA:∀{b:wd}{o:Obj}{es:Array DictEntry}{ep:Nat},s₁.heap.get? b=some o->o.data=.dict es ep->H b=none:=λ{b o es ep} e d=>by
     cases q:H b with
     | none=>rfl
     | some u =>
       have e':b=a:=hA b (by rw[q];simp);subst e';rw[ha]at e;cases e;have d':Data.seq vs.toArray _=Data.dict es ep:=d;cases d'
   have nsK:∀{b:wd}{m:Str->Option wg},s₁.heap.Ns b m->(ji s₁.heap H).Ns b m:=λ{b m} ⟨o,es,ep,e,d,r⟩=>⟨o,es,ep,base_of e (noA e d),d,r⟩
   have hKb:K.In (ji s₁.heap H):=λb o e=>base_of (KX b o e) (by
     cases q:H b with
     | none=>rfl
     | some u =>
       have e':b=a:=hA b (by rw[q];simp);subst e';rw[hK (by rw[q];simp)]at e;cases e)
   have hM:Mod K mg (ji s₁.heap H):=⟨hKb,nsK hns,⟨mb,nsK hb,hbb⟩,let ⟨mc,h1,h2⟩:=hlim;⟨mc,nsK h1,h2⟩⟩;have e0:yz P w K mg (ji s₁.heap H) callerA [] s₁ H:=⟨rfl,hM,λb o e=>zuV e,Nat.le_of_eq (Ua _ _),trivial,λb hb=>absurd (show b∈([]:List wd)from hb) (by simp),ar,.of_eq hg⟩;refine codeAny_mono ((F _ hKb (nsK hns)).run callerA [] s₁ H ⟨[.ref a],[]⟩ [.ref a] [.ref a] _ _ hr e0 (hbind s₁ (.ref a)) (.cons rfl .nil) (hsp H hO hS)) λr s' h=>?_
   cases r with
   | error e=>exact(hCX H e s' h).elim
   | ok fl =>
     cases fl with
     | next=>exact WX h
     | brk=>exact WX h
     | cont=>exact WX h
     | ret u =>
       obtain⟨v,H',os,bare,un,hok',r',q⟩:=h;have q':v=.bl true:=q;subst q';obtain rfl:u=Value.bool true:=r';refine⟨rfl,OldK.of_keep λb o e=>?_,os,bare⟩;cases q:H b with
       | none=>exact un.keep b o e q (by intro z;exact absurd (show b∈([]:List wd)from z) (by simp)) (by simp)
       | some u =>
         rcases hO b with z | ⟨ob,xs,z⟩
         . rw[q]at z;cases z
         . have z2:=un.dW b ob _ z
           obtain⟨e1,_⟩:=ar b _ z;obtain⟨e2,_⟩:=hok' b _ z2;rw[e]at e1;cases e1;exact e2
 cases hk:K.lookup a with
 | some o =>
   -- the script is one of the module's own objects
   have e:=KX a o hk;rw[ha]at e;cases e;refine core (λ_=>none) (λ_=>.inl rfl) (.inr ⟨_,vs.toArray,_,hk,rfl,rfl,rfl,by rw[wN,lenV];exact hl,by simpa using rv⟩) (λb u z=>by have z':(none:Option HO)=some u:=z;cases z') (λb z=>absurd rfl z) λz=>absurd rfl z
 | none =>
   refine core (λb=>if b=a then some (.ft {cls:=.type "list",data:=.seq vs.toArray} (.lst (ns.map V.int)))else none) (λb=>?_) (.inl (.inr ⟨{cls:=.type "list",data:=.seq vs.toArray},if_pos rfl⟩)) (λb u z=>?_) (λb z=>?_) λ_=>hk
   . by_cases hb:b=a
     . exact .inr ⟨_,_,if_pos hb⟩
     . exact .inl (if_neg hb)
   . by_cases hb:b=a
     . have z':=(if_pos hb).symm.trans z
       cases z';subst hb;exact⟨ha,by rw[wm];exact hl,vs,_,rv,ha⟩
     . have z':=(if_neg hb).symm.trans z
       cases z'
   . by_cases hb:b=a
     . exact hb
     . exact absurd (if_neg hb) z
abbrev KOf{K:wa}{h:wK}(_:K.In h):wa:=K
theorem NI{l:xp}{n k:Nat}{q:wV}{loose:List Str}{XP:(Str->Option wg)->wK->Prop}{YP:wR->wK->Prop}{d:DefRec}{K:Params->wa}{CX:wR->dR}{sp:wR->Sp}{x:Str}
  (hn:l.most=some n) (hn2:n<=wC) (hdf:d.params.defaults=[]) (hr:cO k callerA)
  (hY:∀(w:wR)(h:wK),YP w h->(K w.params).In h)
  (F:∀(w:wR)(mg:Str->Option wg)(fa:wd)(h:wK),(K w.params).In h->h.Ns wJ mg->mg d.name=some (.ref fa) ->
   ∃fd:wS,(∀(s:wo)(u:wg),BindsTo s fd ⟨[u],[]⟩ [(x,u)]) /\
    ∀base:wK,(K w.params).In base->base.Ns wJ mg->aK l.prog w (K w.params) mg base (CX w) k fa fd [x] (sp w))
  (hsp:∀(w:wR)(H:Hp)(a:wd)(ns:List Int),ns.length<=n->sA H->aN (K w.params) H a (ns.map V.int)->sp w [.ref a] H (λv _=>v=.bl true) λ_ _ _=>False)
  (hCX:∀(w:wR)(H:Hp)(s:wo)(e:wg)(s':wo),CX w [] H s (λ_ _ _=>False) e s'->False) :
  uL q loose XP YP l.row.toRowW d [] (λf vs=>uh f vs):=by
 refine Att.Nd hn hdf λw s₀ s₁ mg mb fa o pm cd doc a vs ns G Y ho hd hcd hmg hobj hints hlen hg=>?_
 have KX:=hY w _ Y;obtain⟨fd,hb,hF⟩:=F w mg fa _ KX G.T.g hmg;exact Z0 KX G.T.g G.T.b G.T.builtins G.T.nolimit hg hobj hints (vd hlen hn2) hr hF hb (λH hO hS=>hsp w H a ns hlen hO hS) λH e s'=>hCX w H s₁ e s'
def kW(s:vq):Arguments:=match s with
 | .FunctionDef _ a _ _ _ _ _ _ _ _=>a
 | _=>{posonlyargs:=[],args:=[],vararg:=none,kwonlyargs:=[],kw_defaults:=[],kwarg:=none,defaults:=[]}
def jM(s:vq):List vq:=match s with
 | .FunctionDef _ _ b _ _ _ _ _ _ _=>b
 | _=>[]
def az(s:vq):Scope:=match s with
 | .FunctionDef _ _ _ _ _ _ sc _ _ _=>sc
 | _=>{kind:=.function,names:=[],isGenerator:=false,isCoroutine:=false}
abbrev bc:dR:=λ_ _ _ _ _ _=>False
abbrev E0:XK:=λ_ _ _=>False
theorem zyI{X:Cx} : jd bc X E0:=λ_ _ _ _ _ _ _ h=>h.elim
structure jO(K:wa)(x qual:Str)(st:vq)(f:wd)(fd:wS):Prop where
 ex:∃(oc:wg)(od:Option wd)(kV doc pm:wg)(an:Option wd)(cdv ct:wg)(osl:Array (Option wg)),
   fd=VC x qual (kW st) (jM st) (az st) .none kV doc pm an cdv ct/\K.lookup f=some ⟨oc,od,.func fd,osl⟩/\Qg K cdv qual=true
 kp:Vy K (.ref f)=true
section
variable{P:wV}{w:wR}{K:wa}{mg:Str->Option wg}{base:wK}
theorem jO.ok{x qual:Str}{st:vq}{f:wd}{fd:wS}{N ps:List Str}{k:Nat}{sp:Sp}(F:jO K x qual st f fd)(S:aT N ps (az st))(len:∀vs H Q E,sp vs H Q E->vs.length=ps.length)
  (hbody:∀(cdv:wg)(A:vm)(outer:List Env)(s:wo)(H:Hp)(vs:List V)(Q:VK)(E:XK),cO k (A.deeper (envOfC qual (az st) s.heap.objs.size f cdv))->sp vs H Q E ->
   ∃t,cV (fM bc P w K mg base N qual (az st) f cdv A outer s H E).rq (jM st) t/\t {nx:=λ_ H'=>Q .bM H',rt:=Q} (start N vs) H):aK P w K mg base bc (k+1) f fd ps sp:=by
 obtain⟨oc,od,kV,doc,pm,an,cdv,ct,osl,rfl,lk,hcd⟩:=F.ex;refine GO lk hcd S len λA outer s H vs Q E hr hsp=>?_
 obtain⟨t,h,q⟩:=hbody cdv A outer s H vs Q E hr hsp;exact⟨t,h.rq,q⟩
theorem jO.binds{x qual:Str}{st:vq}{f:wd}{fd:wS}{ps:List Str}(F:jO K x qual st f fd)
  (h:∀(kV doc pm:wg)(an:Option wd)(cdv ct:wg)(us:List wg),us.length=ps.length->bindArgs (VC x qual (kW st) (jM st) (az st) .none kV doc pm an cdv ct) ⟨us,[]⟩=pure (ps.zip us)):iR K fd ps []:=by
 obtain⟨oc,od,kV,doc,pm,an,cdv,ct,osl,rfl,lk,hcd⟩:=F.ex;exact .all (h kV doc pm an cdv ct)
theorem J6{x qual:Str}{st:vq}{f:wd}{oc:wg}{od an:Option wd}{osl:Array (Option wg)}{kV doc pm cdv ct:wg}(l:K.lookup f=some ⟨oc,od,.func (VC x qual (kW st) (jM st) (az st) .none kV doc pm an cdv ct),osl⟩)
  (c:Qg K cdv qual=true) (k:Vy K (.ref f)=true):jO K x qual st f (VC x qual (kW st) (jM st) (az st) .none kV doc pm an cdv ct):=⟨⟨oc,od,kV,doc,pm,an,cdv,ct,osl,rfl,l,c⟩,k⟩
end
theorem lg{n:Nat}(h:n<=1000):n<wC:=Qr h (by decide)
section
variable{X:Cx}
theorem pv(i:Nat){x:Str}{pos:Pos}(hN:X.N[i]? = some x:=by rfl)(hv:pV X.env.scope x:=by first | exact Or.inl rfl | exact Or.inr (Or.inl rfl) | exact Or.inr (Or.inr rfl))(hd:(x == ("__debug__" : Str))=false:=by decide)
  (hcd:(x == ("__classdict__" : Str))=false:=by decide):PE X (.Name x pos) (fo i):=FJ hN hv hd hcd
end
theorem sE{A B:Prop}(h:B):if false=true then A else B:=by
 rw[if_neg vG];exact h
theorem og{A B:Prop}(h:A):if true=true then A else B:=by
 rw[if_pos rfl];exact h
def af(H H':Hp):Prop:=∀b o,H b=some o->H' b=some o
theorem af.refl(H:Hp):af H H:=λ_ _ h=>h
theorem af.trans{H H1 H2:Hp}(a:af H H1)(b:af H1 H2):af H H2:=λc o h=>b c o (a c o h)
theorem af.free{H H':Hp}(e:af H H'){l:wd}(h:H' l=Option.none):H l=Option.none:=by
 cases q:H l with
 | none=>rfl
 | some o =>
  rw[e l o q]at h;cases h
theorem af.seq{K:wa}{H H':Hp}{a:wd}{xs:List V}(e:af H H')(h:aN K H a xs):aN K H' a xs:=by
 rcases h with(h | ⟨o,h⟩) | h
 ·exact .inl (.inl (e _ _ h))
 ·exact .inl (.inr ⟨o,e _ _ h⟩)
 ·exact .inr h
end L2
namespace GM
def dv(t b:Int):Int:=if b<0 then -((Wb t b:Nat):Int)else((Wb t b:Nat):Int)
theorem IM{t b:Int}(hb:b≠0):0<Wb t b:=Qh t hb
theorem Ox{t b:Int}(hb:b≠0):dv t b≠0:=by
 have:=IM (t:=t) hb;unfold dv
 split<;>lia
theorem jj{a d:Int}(h:d ∣ a)(hd:d≠0):a.fdiv d=a / d:=by
 obtain⟨k,rfl⟩:=h;rw[Int.mul_fdiv_cancel_left _ hd,Q3 _ hd]
theorem ZD{t b:Int}(hb:b≠0):t.fdiv (dv t b)=(WY t b).num:=by
 have hg:=IM (t:=t) hb;have h1:((Wb t b:Nat):Int) ∣ t:=qQ ..;rw[Rat.num_divInt,Int.gcd_comm b t];unfold dv
 by_cases h:b<0
 ·rw[if_pos h,Int.sign_eq_neg_one_of_neg h,jj (Int.neg_dvd.mpr h1) (by lia),Int.ediv_neg]
  obtain⟨k,hk⟩:=h1;have:(-1:Int)*t=((Wb t b:Nat):Int)*(-k):=by rw[Int.neg_one_mul,Int.mul_neg,<- hk]
  rw[this,Q3 _ (by lia)];have e:t / ((Wb t b:Nat):Int)=k:=Int.ediv_eq_of_eq_mul_right (by lia) hk;rw[e]
 ·rw[if_neg h,Int.sign_eq_one_of_pos (by lia),Int.one_mul,jj h1 (by lia)]
def dU(p q:Int):Bool:=decide (1<=q)&&decide (Wb p q=1)
theorem GV(r:Rat):dU r.num r.den=true:=by
 have h:=r.reduced;have hd:=r.den_pos;simp only[dU,wD,decide_eq_true_eq];refine⟨by lia,?_⟩;have:Nat.gcd r.num.natAbs r.den=1:=h
 simpa [Wb] using this
theorem BA{p q:Int}(h:dU p q=true):∃r:Rat,p=r.num/\q=(r.den:Int):=by
 simp only[dU,wD,decide_eq_true_eq]at h;obtain⟨h1,h2⟩:=h;refine⟨⟨p,q.toNat,by lia,?_⟩,rfl,by show q=((q.toNat:Nat):Int);lia⟩;have e:q.toNat=q.natAbs:=by lia
 rw[e];exact h2
theorem zuf{a b:Int}(hb:0<b)(ha:0<=a):Wb b (a % b)=Wb a b:=by
 rw[Int.gcd_comm a b];have e:a=a % b+b*(a / b):=(Int.emod_add_mul_ediv a b).symm
 conv=>rhs;rw[e]
 rw[Int.gcd_add_mul_left_right]
structure Bd(n:Nat)(x:Int):Prop where
 lt:x.natAbs<2^n
theorem Bd.mono{m n:Nat}{x:Int}(h:Bd m x)(e:m<=n):Bd n x:=⟨ve h.lt (Vu (by decide) e)⟩
theorem Bd.mul{m n:Nat}{x y:Int}(h:Bd m x)(k:Bd n y):Bd (m+n) (x*y):=by
 refine⟨?_⟩;rw[Int.natAbs_mul,XM];exact Nat.mul_lt_mul'' h.lt k.lt
theorem Bd.add{m n:Nat}{x y:Int}(h:Bd m x)(k:Bd n y):Bd (max m n+1) (x+y):=by
 have h1:=(h.mono (Nat.le_max_left m n)).lt;have h2:=(k.mono (Nat.le_max_right m n)).lt;refine⟨?_⟩;rw[W5]
 lia
theorem Bd.le{n:Nat}{x y:Int}(h:Bd n x)(e:y.natAbs<=x.natAbs):Bd n y:=⟨Qr e h.lt⟩
theorem Bd.log{n:Nat}{x:Int}(h:Bd n x)(hn:0<n):x.natAbs.log2<n:=by
 by_cases e:x.natAbs=0
 ·rw[e];exact hn
 ·exact(Nat.log2_lt e).mpr h.lt
theorem PV(t b:Int)(hb:b≠0):(WY t b).num.natAbs<=t.natAbs:=by
 rw[<- ZD hb]
 have h1:dv t b ∣ t:=by
  have:((Wb t b:Nat):Int) ∣ t:=qQ ..;unfold dv;split
  ·exact Int.neg_dvd.mpr this
  ·exact this
 rw[jj h1 (Ox hb)];exact QX t _
theorem O9(t b:Int)(hb:b≠0):(WY t b).den<=b.natAbs:=by
 rw[Rat.den_divInt,if_neg hb];exact Nat.div_le_self _ _
structure aM(n:Nat)(x:Rat):Prop where
 t:Bd n x.num
 b:Bd n (x.den:Int)
theorem aM.mono{m n:Nat}{x:Rat}(h:aM m x)(e:m<=n):aM n x:=⟨h.t.mono e,h.b.mono e⟩
theorem aM.divInt{n:Nat}{t b:Int}(hb:b≠0)(h1:Bd n t)(h2:Bd n b):aM n (WY t b) :=
 ⟨h1.le (PV t b hb),h2.le (by have:=O9 t b hb;simpa using this)⟩
theorem Bd.yV{m:Int}(h1 : -100000000000000000000000000000000000000<=m)(h2:m<=100000000000000000000000000000000000000):Bd 128 m:=⟨by
 have e:(2:Nat)^128=340282366920938463463374607431768211456:=by decide
 rw[e]
 lia⟩
theorem Lm(x:Rat):(x.den:Int)≠0:=by have:=x.den_pos;lia
theorem den_pos(x:Rat):(0:Int)<(x.den:Int):=by have:=x.den_pos;lia
theorem U7(x y:Rat):(x.den:Int)*(y.den:Int)≠0:=Int.mul_ne_zero (Lm x) (Lm y)
theorem zyh(x y:Rat):WY (x.num*(y.den:Int)+y.num*(x.den:Int)) ((x.den:Int)*(y.den:Int))=x+y:=by
 rw[<- xq,Rat.divInt_ofNat,Rat.add_def']
theorem OI(x y:Rat):decide (x.num*(y.den:Int)<y.num*(x.den:Int))=decide (x<y):=by
 rw[WP,decide_eq_true_eq,decide_eq_true_eq,Rat.lt_iff]
theorem aM.add{m n:Nat}{x y:Rat}(h:aM m x)(k:aM n y):aM (m+n+1) (x+y):=by
 rw[<- zyh];refine aM.divInt (U7 x y) ?_ ((h.b.mul k.b).mono (by lia));exact((h.t.mul k.b).add (k.t.mul h.b)).mono (by lia)
theorem aM.zero:aM 1 0:=⟨⟨by decide⟩,⟨by decide⟩⟩
theorem aM.one:aM 1 1:=⟨⟨by decide⟩,⟨by decide⟩⟩
def push(a b:Rat):Nat->Rat->Rat
 | 0,x=>x
 | n+1,x=>a*push a b n x+b
theorem Zn{x:Rat}{c:Int}(h:x<=(c:Rat)):x.num<=c*x.den:=by
 have:=(Rat.le_iff x c).mp h
 simpa using this
theorem O3{x:Rat}(h:0<=x):0<=x.num:=uv.mpr h
theorem aM.small{x:Rat}{c d:Nat}(h0:0<=x)(hc:x<=((c:Int):Rat))(hd:x.den<=d)(z:c*d<1024)(hd2:d<1024):aM 10 x:=by
 have h1:=Zn hc;have h2:=O3 h0;have h3:(c:Int)*(x.den:Int)<=(c:Int)*(d:Int):=Int.mul_le_mul_of_nonneg_left (by lia) (by lia);have h4:(c:Int)*(d:Int)<1024:=by rw[<- xq];lia
 refine⟨⟨?_⟩,⟨?_⟩⟩
 ·show _<1024
  lia
 ·show _<1024
  lia
theorem aM.four:aM 3 4:=⟨⟨by decide +kernel⟩,⟨by decide +kernel⟩⟩
def U1(a b:Rat)(n:Nat)(xs:List Rat):List Rat:=(xs.tail.map λy=>push a b n (y+(1-xs.headD 0)))++[0]
def turned(a b:Rat)(ns:List Int)(xs:List Rat):Nat->List Rat
 | 0=>xs
 | k+1=>U1 a b (ns.getD k 0).toNat (turned a b ns xs k)
theorem Gh(x y:Rat):((x+y).num=(x.num*((y.den / x.den.gcd y.den:Nat):Int)+y.num*((x.den / x.den.gcd y.den:Nat):Int)) / (((x.num*((y.den / x.den.gcd y.den:Nat):Int)+y.num*((x.den / x.den.gcd y.den:Nat):Int)).natAbs.gcd (x.den.gcd y.den):Nat):Int))/\((x+y).den=x.den / (x.den.gcd y.den)*(y.den / ((x.num*((y.den / x.den.gcd y.den:Nat):Int)+y.num*((x.den / x.den.gcd y.den:Nat):Int)).natAbs.gcd (x.den.gcd y.den)))):=by
 show(Rat.add x y).num=_/\(Rat.add x y).den=_
 unfold Rat.add
 by_cases hg:x.den.gcd y.den=1
 ·simp[hg]
 ·simp only[hg,dite_false,Rat.maybeNormalize_eq]
  refine⟨by simp,?_⟩;simp;have:(x.num*((y.den / x.den.gcd y.den:Nat):Int)+y.num*((x.den / x.den.gcd y.den:Nat):Int)).natAbs.gcd (x.den.gcd y.den) ∣ y.den:=Nat.dvd_trans (Xw _ _) (Xw _ _);simp at this;rw[Nat.mul_div_assoc _ this]
def eA(x y:Rat):Int:=((Wb (x.den:Int) (y.den:Int):Nat):Int)
def jw(x y:Rat):Int:=x.num*(y.den:Int).fdiv (eA x y)+y.num*(x.den:Int).fdiv (eA x y)
def gW(x y:Rat):Int:=((Wb (jw x y) (eA x y):Nat):Int)
theorem sR(x y:Rat):0<eA x y:=by
 have:0<Wb (x.den:Int) (y.den:Int):=Int.gcd_pos_of_ne_zero_left _ (by have:=x.den_pos;lia);unfold eA;lia
theorem zd(x y:Rat):0<gW x y:=by
 have:0<Wb (jw x y) (eA x y):=Qh _ (by have:=sR x y;lia);unfold gW;lia
theorem CN(x y:Rat):eA x y=((x.den.gcd y.den:Nat):Int):=by simp[eA,Wb]
theorem oa(x y:Rat):eA x y ∣ (x.den:Int):=qQ ..
theorem oS(x y:Rat):eA x y ∣ (y.den:Int):=Xx ..
theorem Pw(x y:Rat):gW x y ∣ jw x y:=qQ ..
theorem AA(x y:Rat):gW x y ∣ eA x y:=Xx ..
theorem L8(x y:Rat):jw x y=x.num*((y.den / x.den.gcd y.den:Nat):Int)+y.num*((x.den / x.den.gcd y.den:Nat):Int):=by
 have h:=sR x y;rw[jw,jj (oS x y) (by lia),jj (oa x y) (by lia),CN,Q4,Q4]
theorem LX(x y:Rat):gW x y=(((x.num*((y.den / x.den.gcd y.den:Nat):Int)+y.num*((x.den / x.den.gcd y.den:Nat):Int)).natAbs.gcd (x.den.gcd y.den):Nat):Int):=by
 rw[gW,L8,CN];simp[Wb]
theorem U8(x y:Rat):(jw x y).fdiv (gW x y)=(x+y).num:=by
 have h:=zd x y;rw[jj (Pw x y) (by lia),(Gh x y).1,LX,L8]
theorem zwi(x y:Rat):(x.den:Int).fdiv (eA x y)*(y.den:Int).fdiv (gW x y)=((x+y).den:Int):=by
 have h:=zd x y;have h2:=sR x y;rw[jj (uM (AA x y) (oS x y)) (by lia),jj (oa x y) (by lia),(Gh x y).2,LX,CN];simp only[xq,Q4]
theorem As{n:Nat}{a d:Int}(h:Bd n a)(hd:d ∣ a)(hp:0<d):Bd n (a.fdiv d):=by
 rw[jj hd (by lia)];exact h.le (QX a d)
theorem Bp{n:Nat}{a d:Int}(h:Bd n a)(hd:d ∣ a)(ha:0<a):Bd n d :=
 h.le (Nat.le_of_dvd (by lia) (Int.natAbs_dvd_natAbs.mpr hd))
theorem Z1(t b:Int):Wb (if t<0 then -t else t) b=Wb t b:=by split<;>simp
theorem getD_mem{α : Type}{xs:List α}{d : α}{i:Nat}(h:i<xs.length):xs.getD i d∈xs:=by
 rw[wf,wb h];exact vn h
def d5(x:Rat):Bool:=(!decide (x<0))&&(decide (x<1)&&decide ((x.den:Int)<=60))
structure jg(x:Rat):Prop where
 nn:0<=x
 lt:x<1
 den:x.den<=60
theorem jg.is{x:Rat}(h:jg x):d5 x=true:=by
 have h1:=h.nn;have h2:=h.lt;have h3:=h.den;have h4:¬ x<0:=qB.mpr h1;have h5:(x.den:Int)<=60:=by lia
 simp[d5,h4,h2,h5]
theorem jg.Zx{x:Rat}(h:jg x):aM 6 x:=by
 have h1:=h.nn;have h2:=h.lt;have h3:=h.den;have n0:0<=x.num:=uv.mpr h1
 have n1:x.num<x.den:=by
   have:=Rat.lt_iff x 1 |>.mp h2
   simpa using this
 exact ⟨⟨by have : (2 : Nat) ^ 6 = 64 := by decide
            omega⟩, ⟨by have : (2 : Nat) ^ 6 = 64 := by decide
                        omega⟩⟩
theorem ph(p:Nat->Prop)[DecidablePred p](t:Nat):∀m:Nat,t<=m->(∀c d,t<=c->c<=d->d<m->p d->p c)->∃u,t<=u/\u<=m /\ ∀c,t<=c->c<m->(p c ↔ c<u)
 | 0,h,_=>⟨0,h,wx 0,λc _ hc=>absurd hc (by lia)⟩
 | m+1,h,mono=>by
  rcases w9 m t with z | z
  ·exact⟨m+1,h,wx _,λc h1 h2=>absurd h2 (by lia)⟩
  ·by_cases q:p m
   ·exact⟨m+1,h,wx _,λc h1 h2=>⟨λ_=>h2,λ_=>mono c m h1 (by lia) (by lia) q⟩⟩
   ·obtain⟨u,u1,u2,hu⟩:=ph p t m z (λc d h1 h2 h3=>mono c d h1 h2 (by lia))
    refine⟨u,u1,by lia,λc h1 h2=>?_⟩;rcases w9 c m with y | y
    ·exact hu c h1 y
    ·have:c=m:=by lia
     subst this;exact⟨λk=>absurd k q,λk=>absurd k (by lia)⟩
end GM
namespace L2
open PySem PySem.Spec PyProof.Rows GM
section
variable{K:wa}{H H' H2:Hp}{a p:wd}{xs ys:List V}{o:HO}
theorem af.upd(h:H p=none):af H (upd H p o):=λb u e=>by
 rw[b9 (gN e h)];exact e
theorem af.j3(s:af H H')(h:aP K H a xs):aP K H' a xs:=by
 rcases h with(h | ⟨o,h⟩) | h
 ·exact .inl (.inl (s _ _ h))
 ·exact .inl (.inr ⟨o,s _ _ h⟩)
 ·exact .inr h
structure aU(H H':Hp):Prop where
 t:∀b xs,H b=some (.tup xs)->H' b=some (.tup xs)
 f:∀b o u,H b=some (.ft o u)->H' b=some (.ft o u)
theorem af.keep(s:af H H'):aU H H':=⟨λb xs h=>s _ _ h,λb o u h=>s _ _ h⟩
theorem aU.refl(H:Hp):aU H H:=(af.refl H).keep
theorem aU.trans(a:aU H H')(b:aU H' H2):aU H H2:=⟨λc xs h=>b.t _ _ (a.t _ _ h),λc o u h=>b.f _ _ _ (a.f _ _ _ h)⟩
theorem aU.j3(k:aU H H')(h:aP K H a xs):aP K H' a xs:=by
 rcases h with(h | ⟨o,h⟩) | h
 ·exact .inl (.inl (k.t _ _ h))
 ·exact .inl (.inr ⟨o,k.f _ _ _ h⟩)
 ·exact .inr h
def jk(K:wa)(H:Hp)(a:wd)(xs:List V):Prop :=
 (∃o,H a=some (.ft o (.lst xs))) \/
  ∃(o:Obj)(its:Array wg)(n:Nat),K.lookup a=some o/\o.cls=.type "list"/\o.dict=none/\o.data=.seq its n/\its.size<=wC/\aC xs its.toList
theorem jk.sq(h:jk K H a xs):aN K H a xs:=by
 rcases h with⟨o,h⟩ | h
 ·exact .inl (.inr ⟨o,h⟩)
 ·exact .inr h
theorem aU.Kv(k:aU H H')(h:jk K H a xs):jk K H' a xs:=by
 rcases h with⟨o,h⟩ | h
 ·exact .inl ⟨o,k.f _ _ _ h⟩
 ·exact .inr h
def Exc(p:wd)(H H':Hp):Prop:=∀b o,b≠p->H b=some o->H' b=some o
theorem Exc.keep(e:Exc p H H')(h:H p=some (.lst xs)):aU H H' :=
 ⟨λb ys hb=>e b _ (Kb hb h (by intro z;cases z)) hb,λb o u hb=>e b _ (Kb hb h (by intro z;cases z)) hb⟩
theorem af.exc(s:af H H'):Exc p H H':=λb o _ h=>s b o h
theorem Exc.trans(a:Exc p H H')(b:Exc p H' H2):Exc p H H2:=λc o n h=>b c o n (a c o n h)
theorem Exc.upd(p:wd)(H:Hp)(o:HO):Exc p H (upd H p o):=λb u n h=>by
 rw[b9 n];exact h
end
mutual
def Is(K:wa)(H:Hp):V->wu->Prop
 | v,.none=>v=.bM
 | v,.bool b=>v=.bl b
 | v,.int i=>v=.int i
 | v,.str x=>v=.str x
 | v,.tuple ds=>∃a xs,v=.ref a/\aP K H a xs/\ay K H xs ds
 | v,.list ds=>∃a xs,v=.ref a/\aN K H a xs/\ay K H xs ds
 | v,.dict _=>∃a kvs,v=.ref a/\H a=some (.dK kvs)
def ay(K:wa)(H:Hp):List V->List wu->Prop
 | xs,[]=>xs=[]
 | xs,d::ds=>∃x r,xs=x::r/\Is K H x d/\ay K H r ds
end
section
variable{K:wa}{H H':Hp}{v:V}{xs:List V}{ds:List wu}{d:wu}
theorem bR{i:Int} : Is K H v (.int i) ↔ v=.int i:=by rw[Is]
theorem jZ{b:Bool} : Is K H v (.bool b) ↔ v=.bl b:=by rw[Is]
theorem dj{x:Str} : Is K H v (.str x) ↔ v=.str x:=by rw[Is]
theorem kg:Is K H v .none ↔ v=.bM:=by rw[Is]
theorem bV:Is K H v (.tuple ds) ↔ ∃a xs,v=.ref a/\aP K H a xs/\ay K H xs ds:=by rw[Is]
theorem bO:Is K H v (.list ds) ↔ ∃a xs,v=.ref a/\aN K H a xs/\ay K H xs ds:=by rw[Is]
theorem nX{kv:List (wu × wu)} : Is K H v (.dict kv) ↔ ∃a kvs,v=.ref a/\H a=some (.dK kvs):=by rw[Is]
theorem gy:ay K H xs [] ↔ xs=[]:=by rw[ay]
theorem dZ:ay K H xs (d::ds) ↔ ∃x r,xs=x::r/\Is K H x d/\ay K H r ds:=by rw[ay]
theorem ay.cons(h:Is K H v d)(t:ay K H xs ds):ay K H (v::xs) (d::ds):=dZ.mpr ⟨v,xs,rfl,h,t⟩
theorem ay.nil:ay K H [] []:=gy.mpr rfl
theorem ay.length:∀{ds:List wu}{xs:List V},ay K H xs ds->xs.length=ds.length
 | [],_,h=>by rw[gy.mp h];rfl
 | d::ds,_,h=>by
  obtain⟨x,r,rfl,_,t⟩:=dZ.mp h;rw[wW,wW,ay.length t]
theorem ay.get:∀{ds:List wu}{xs:List V}{i:Nat}{d:wu},ay K H xs ds->ds[i]? = some d->∃x,xs[i]? = some x/\Is K H x d
 | [],_,_,_,_,e=>by simp at e
 | d::ds,_,0,_,h,e=>by
  obtain⟨x,r,rfl,q,_⟩:=dZ.mp h;simp at e;subst e;exact⟨x,rfl,q⟩
 | d::ds,_,i+1,d',h,e=>by
  obtain⟨x,r,rfl,_,t⟩:=dZ.mp h;obtain⟨y,h1,h2⟩:=ay.get (i:=i) t (by simpa using e);exact⟨y,by simpa using h1,h2⟩
theorem ay.append:∀{ds es:List wu}{xs ys:List V},ay K H xs ds->ay K H ys es->ay K H (xs++ys) (ds++es)
 | [],_,_,_,h,t=>by rw[gy.mp h];exact t
 | d::ds,_,_,_,h,t=>by
  obtain⟨x,r,rfl,q,u⟩:=dZ.mp h;exact .cons q (ay.append u t)
mutual
theorem Is.same(s:af H H'):∀(d:wu)(v:V),Is K H v d->Is K H' v d
 | .none,v,h=>by rw[kg]at h ⊢;exact h
 | .bool _,v,h=>by rw[jZ]at h ⊢;exact h
 | .int _,v,h=>by rw[bR]at h ⊢;exact h
 | .str _,v,h=>by rw[dj]at h ⊢;exact h
 | .tuple ds,v,h=>by
  obtain⟨a,xs,e,q,t⟩:=bV.mp h;exact bV.mpr ⟨a,xs,e,s.j3 q,ay.same s ds xs t⟩
 | .list ds,v,h=>by
  obtain⟨a,xs,e,q,t⟩:=bO.mp h;exact bO.mpr ⟨a,xs,e,s.seq q,ay.same s ds xs t⟩
 | .dict _,v,h=>by
  obtain⟨a,kvs,e,q⟩:=nX.mp h;exact nX.mpr ⟨a,kvs,e,s _ _ q⟩
theorem ay.same(s:af H H'):∀(ds:List wu)(xs:List V),ay K H xs ds->ay K H' xs ds
 | [],xs,h=>by rw[gy]at h ⊢;exact h
 | d::ds,xs,h=>by
  obtain⟨x,r,e,q,t⟩:=dZ.mp h;exact dZ.mpr ⟨x,r,e,Is.same s d x q,ay.same s ds r t⟩
end
end
/- no list and no dict within -/
mutual
def eL:wu->Bool
 | .none=>true
 | .bool _=>true
 | .int _=>true
 | .str _=>true
 | .tuple ds=>cE ds
 | .list _=>false
 | .dict _=>false
def cE:List wu->Bool
 | []=>true
 | d::ds=>eL d&&cE ds
end
section
variable{K:wa}{H H':Hp}
mutual
theorem Is.keep(k:aU H H'):∀(d:wu)(v:V),eL d=true->Is K H v d->Is K H' v d
 | .none,v,_,h=>by rw[kg]at h ⊢;exact h
 | .bool _,v,_,h=>by rw[jZ]at h ⊢;exact h
 | .int _,v,_,h=>by rw[bR]at h ⊢;exact h
 | .str _,v,_,h=>by rw[dj]at h ⊢;exact h
 | .tuple ds,v,i,h=>by
  obtain⟨a,xs,e,q,t⟩:=bV.mp h;exact bV.mpr ⟨a,xs,e,k.j3 q,ay.keep k ds xs (by rw[eL]at i;exact i) t⟩
 | .list ds,v,i,h=>by rw[eL]at i;cases i
 | .dict _,v,i,h=>by rw[eL]at i;cases i
theorem ay.keep(k:aU H H'):∀(ds:List wu)(xs:List V),cE ds=true->ay K H xs ds->ay K H' xs ds
 | [],xs,_,h=>by rw[gy]at h ⊢;exact h
 | d::ds,xs,i,h=>by
  obtain⟨x,r,e,q,t⟩:=dZ.mp h;rw[cE,wD]at i;exact dZ.mpr ⟨x,r,e,Is.keep k d x i.1 q,ay.keep k ds r i.2 t⟩
end
end
def N(r:Rat):wu:=.tuple [.int r.num,.int (r.den:Int)]
theorem yW(r:Rat):eL (N r)=true:=by simp[N,eL,cE]
section
variable{K:wa}{H H':Hp}{v:V}{r:Rat}
theorem CK:Is K H v (N r) ↔ ∃a,v=.ref a/\aP K H a [.int r.num,.int (r.den:Int)]:=by
 unfold N;rw[bV]
 constructor
 ·rintro ⟨a,xs,e,q,t⟩
  obtain⟨x,r1,rfl,q1,t⟩:=dZ.mp t;obtain⟨y,r2,rfl,q2,t⟩:=dZ.mp t;rw[gy.mp t,bR.mp q1,bR.mp q2]at q;exact⟨a,e,q⟩
 ·rintro ⟨a,e,q⟩
  exact⟨a,_,e,q,.cons (bR.mpr rfl) (.cons (bR.mpr rfl) .nil)⟩
end
section
variable{X:Cx}{pins:List (wd × Obj)}{σ : St}{H:Hp}{s:wo}
mutual
theorem Inv.reads(I:Inv X pins σ H s):∀(d:wu)(v:V)(u:wg),d.canLay0=true->Is X.K H v d->aW v u->∃as,Reads s.heap u d as
 | .none,v,u,_,h,r=>by
  cases kg.mp h;cases (show u=Value.none from r);exact⟨_,.none⟩
 | .bool b,v,u,_,h,r=>by
  cases jZ.mp h;cases (show u=Value.bool b from r);exact⟨_,.bool b⟩
 | .int i,v,u,_,h,r=>by
  cases bR.mp h;obtain⟨t,e⟩:=(show ∃t,u=Value.int i t from r);cases e;exact⟨_,.int i t⟩
 | .str x,v,u,_,h,r=>by
  cases dj.mp h;obtain⟨t,e⟩:=(show ∃t,u=Value.str x t from r);cases e;exact⟨_,.str x t⟩
 | .tuple ds,v,u,c,h,r=>by
  obtain⟨a,xs,e,q,t⟩:=bV.mp h;subst e;cases (show u=Value.ref a from r);obtain⟨its,rv,⟨o,e1,e2,n,e3⟩,_⟩:=I.tuple q;obtain⟨as,ra⟩:=Inv.readsAll I ds xs its (by rw[Wd]at c;exact c) t rv;exact⟨_,.tuple e1 e2 e3 (by simpa using ra)⟩
 | .list ds,v,u,c,h,r=>by
  obtain⟨a,xs,e,q,t⟩:=bO.mp h;subst e;cases (show u=Value.ref a from r);obtain⟨its,rv,⟨o,n,e1,e2,_,e3⟩,_⟩:=I.list q;obtain⟨as,ra⟩:=Inv.readsAll I ds xs its (by rw[Wd]at c;exact c) t rv;exact⟨_,.list e1 e2 e3 (by simpa using ra)⟩
 | .dict _,v,u,c,h,r=>by rw[Wd]at c;cases c
theorem Inv.readsAll(I:Inv X pins σ H s):∀(ds:List wu)(xs:List V)(us:List wg),V6 ds=true->ay X.K H xs ds->aC xs us->∃as,ReadsAll s.heap us ds as
 | [],xs,us,_,h,r=>by
  rw[gy.mp h]at r;cases r;exact⟨_,.nil⟩
 | d::ds,xs,us,c,h,r=>by
  obtain⟨x,l,e,q,t⟩:=dZ.mp h;subst e;rw[V6,wD]at c;cases r with
  | cons r1 r2 =>
   obtain⟨as,h1⟩:=Inv.reads I d x _ c.1 q r1;obtain⟨bs,h2⟩:=Inv.readsAll I ds l _ c.2 t r2;exact⟨_,.cons h1 h2⟩
end
end
section
variable{X:Cx}
open PySem.SeqAt (shaped)
def cU(K:wa):R2:=λx y H Q=>∃d e,Is K H x d/\Is K H y e/\shaped d=true/\shaped e=true/\Q (.bl (Wm d e)) H
def cM(K:wa):R2:=λx y H Q=>∃d e,Is K H x d/\Is K H y e/\shaped d=true/\shaped e=true/\Q (.bl (!PyData.eqv d e)) H
theorem dO(hu:X.A.units+64<cLine):ax X (wQ .Eq) (cU X.K):=by
 intro pins s σ H x y v u Q I rx ry h;obtain⟨d,e,hd,he,sd,se,q⟩:=h;obtain⟨as,h1⟩:=I.reads d x v (Vb sd) hd rx;obtain⟨bs,h2⟩:=I.reads e y u (Vb se) he ry;exact eq_dataH h1 h2 sd se hu ⟨.bl _,H,I,rfl,q⟩
theorem dy(hu:X.A.units+64<cLine):ax X (wQ .NotEq) (cM X.K):=by
 intro pins s σ H x y v u Q I rx ry h;obtain⟨d,e,hd,he,sd,se,q⟩:=h;obtain⟨as,h1⟩:=I.reads d x v (Vb sd) hd rx;obtain⟨bs,h2⟩:=I.reads e y u (Vb se) he ry;exact ne_dataH h1 h2 sd se hu ⟨.bl _,H,I,rfl,q⟩
def kindOf:wu->String
 | .none=>"NoneType"
 | .bool _=>"bool"
 | .int _=>"int"
 | .str _=>"str"
 | .tuple _=>"tuple"
 | .list _=>"list"
 | .dict _=>"dict"
def dJ(K:wa):List V->Hp->VK->Prop:=λxs H Q=>∃x T d b,xs=[x,.ty T]/\Is K H x d/\wt K (.type (kindOf d)) (.type T)=some b/\Q (.bl b) H
theorem hZ:ao X (.builtin "isinstance") (dJ X.K):=by
 intro pins s σ H xs us Q I r h;obtain⟨x,T,d,b,rfl,hd,e,q⟩:=h;obtain⟨u,w',rfl,rx,rt⟩:=iQ r;cases (show w'=Value.type T from rt);have fin:∀tk,EP X pins σ Q (.bool b) {s with toks:=tk}:=λtk=>⟨.bl b,H,I.tok _,rfl,q⟩
 cases d with
 | none =>
  cases kg.mp hd;cases (show u=Value.none from rx);exact WQ Xy I.cq True.intro e (λz=>nomatch z) fin
 | bool y =>
  cases jZ.mp hd;cases (show u=Value.bool y from rx);exact WQ Xz I.cq True.intro e (λz=>nomatch z) fin
 | int i =>
  cases bR.mp hd;obtain⟨t,q⟩:=(show ∃t,u=Value.int i t from rx);cases q;exact WQ XX I.cq True.intro e (λz=>nomatch z) fin
 | str y =>
  cases dj.mp hd;obtain⟨t,q⟩:=(show ∃t,u=Value.str y t from rx);cases q;exact WQ XY I.cq True.intro e (λz=>nomatch z) fin
 | tuple ds =>
  obtain⟨a,xs,e1,hq,_⟩:=bV.mp hd;subst e1;cases (show u=Value.ref a from rx);obtain⟨its,_,⟨o,h1,h2,_⟩,_⟩:=I.tuple hq;exact WQ Xj I.cq ⟨o,h1,h2⟩ e (λz=>nomatch z) fin
 | list ds =>
  obtain⟨a,xs,e1,hq,_⟩:=bO.mp hd;subst e1;cases (show u=Value.ref a from rx);obtain⟨its,_,⟨o,n,h1,h2,_⟩,_⟩:=I.list hq;exact WQ XA I.cq ⟨o,h1,h2⟩ e (λz=>nomatch z) fin
 | dict kv =>
  obtain⟨a,kvs,e1,hq⟩:=nX.mp hd;subst e1;cases (show u=Value.ref a from rx);obtain⟨_,_,vs,_,o,es,ep,h1,h2,_⟩:=(show cF X.prog X.w H s.heap a (.dK kvs)from I.ar a _ hq);exact WQ QT I.cq ⟨o,h1,h2.1⟩ e (λz=>nomatch z) fin
def isA(T:String)(d:wu):Bool:=(kindOf d == T) || (kindOf d == "bool"&&T == "int")
theorem OP{K:wa}(d:wu):wt K (.type (kindOf d)) (.type "int")=some (isA "int" d):=by cases d<;>rfl
theorem Uw{K:wa}(d:wu):wt K (.type (kindOf d)) (.type "bool")=some (isA "bool" d):=by cases d<;>rfl
theorem zqX{K:wa}(d:wu):wt K (.type (kindOf d)) (.type "tuple")=some (isA "tuple" d):=by cases d<;>rfl
theorem RC{K:wa}(d:wu):wt K (.type (kindOf d)) (.type "list")=some (isA "list" d):=by cases d<;>rfl
theorem OS{K:wa}(d:wu):wt K (.type (kindOf d)) (.type "str")=some (isA "str" d):=by cases d<;>rfl
theorem NQ{m n:Nat}{i j:Int}(h:Bd m i)(k:Bd n j)(hm:m<=1000000)(hn:n<=1000000):IntMulOk i j:=by
 have f:∀{m:Nat}{i:Int},Bd m i->m<=1000000->xY i<=2^20:=by
  intro m i h hm;have e:(2:Nat)^20=1048576:=by decide
  have l:=(h.mono (Nat.le_succ m)).log (qV m);unfold xY
  split<;>lia
 exact .of_bits (f h hm) (f k hn)
theorem fL:ax X (vT .Mult) (rI IntMulOk λi j=>.int (i*j)):=sL λ_ _ _ _ _ _ _ hc q=>mul_int q hc
def AM(_ j:Int):Prop:=j≠0/\Bd 8999 j
theorem jc:ax X (vT .FloorDiv) (rI AM λi j=>.int (i.fdiv j)):=sL λ_ _ _ _ _ _ _ hc q =>
 floordiv_int hc.1 q (.inl (PyProof.noPylong_of_log2 (Vn (hc.2.log (by decide)))))
theorem Rc:ax X (vT .Add) (λx y H Q=>(gw λi j=>.int (i+j)) x y H Q\/(Cu x y H Q \/ ∃i j,x=.str i/\y=.str j/\i.length+j.length<=wC/\Q (.str (i++j)) H)):=Zo.or (SW.or Zu)
end
theorem bo:vR "len"=some (.builtin "len"):=by decide +kernel
theorem Ml:vR "abs"=some (.builtin "abs"):=by decide +kernel
theorem dG:vR "isinstance"=some (.builtin "isinstance"):=by decide +kernel
theorem rj:vR "int"=some (.type "int"):=by decide +kernel
theorem zvx:vR "bool"=some (.type "bool"):=by decide +kernel
theorem r_:vR "str"=some (.type "str"):=by decide +kernel
theorem dY:vR "tuple"=some (.type "tuple"):=by decide +kernel
theorem Bw:vR "list"=some (.type "list"):=by decide +kernel
def nI(K:wa)(xs:List V)(H:Hp)(Q:VK):Prop:=xs.length<=wC /\ ∀p,H p=none->Q (.ref p) (upd H p (.tup xs))
def t6(K:wa)(xs:List V)(H:Hp)(Q:VK):Prop:=xs.length<=wC /\ ∀p,H p=none->Q (.ref p) (upd H p (.lst xs))
def yF(K:wa)(t:TA):TE:=λσ H Q=>t σ H λxs H1=>nI K xs H1 Q
def j9(K:wa)(t:TA):TE:=λσ H Q=>t σ H λxs H1=>t6 K xs H1 Q
def ku:R2:=λx y H Q=>(gw λi j=>.int (i+j)) x y H Q\/(Cu x y H Q \/ ∃i j,x=.str i/\y=.str j/\i.length+j.length<=wC/\Q (.str (i++j)) H)
def Kk:List V->Hp->VK->Prop:=λxs H Q=>∃i:Int,xs=[.int i]/\Q (.int (if i<0 then -i else i)) H
def a_(K:wa):List V->Hp->VK->Prop:=λxs H Q=>∃p ys,xs=[.ref p]/\(aN K H p ys\/aP K H p ys)/\Q (.int ys.length) H
section
variable{X:Cx}{e:Expr}{es:List Expr}{te:TE}{t:TA}{pos:Pos}
theorem hJ{x1}(h:PA X es t):PE X (.Tuple es x1 pos) (yF X.K t):=zyz h
theorem bL(h:PA X es t):PE X (.List es pos) (j9 X.K t):=YJ h
theorem av:ax X (vT .Add) ku:=Rc
theorem Il:ao X (.builtin "abs") Kk:=SG
theorem bz:ao X (.builtin "len") (a_ X.K):=Rl
theorem eV{x:Str}{i:Int}{pos:Pos}(hg:Gl X x)(hm:∃t,X.mg x=some (.int i t))(hd:(x == ("__debug__" : Str))=false:=by decide):PE X (.Name x pos) (tC (.int i)):=by
 obtain⟨t,hm⟩:=hm;exact b7 hg hm ⟨t,rfl⟩ hd
theorem Sg{x:Str}{i:Str}{pos:Pos}(hg:Gl X x)(hm:∃t,X.mg x=some (.str i t))(hd:(x == ("__debug__" : Str))=false:=by decide):PE X (.Name x pos) (tC (.str i)):=by
 obtain⟨t,hm⟩:=hm;exact b7 hg hm ⟨t,rfl⟩ hd
end
section
variable{K:wa}{σ : St}{H H':Hp}{Q:VK}{QA:List V->Hp->Prop}{QB:Bool->Hp->Prop}{QS:St->Hp->Prop}{QH:Hp->Prop}{D:ck}{ta tb te:TE}{tt tu:TT}{t tr:TA}{s1 s2:TS}{g:TG}{gs:iY}{r:R2}{v w:V}{xs ys:List V}{i:Nat}{m n:Int}
theorem Ht(h : σ[i]? = some (some v))(q:Q v H):fo i σ H Q:=⟨v,h,q⟩
theorem Sl(q:Q v H):tC v σ H Q:=q
theorem SR(h:ta σ H λx H1=>tb σ H1 λy H2=>r x y H2 Q):dD r ta tb σ H Q:=h
theorem TH{u:V->Hp->VK->Prop}(h:ta σ H λx H1=>u x H1 Q):KS u ta σ H Q:=h
theorem zwZ(h:t σ H λxs H1=>nI K xs H1 Q):yF K t σ H Q:=h
theorem Pq(h:t σ H λxs H1=>t6 K xs H1 Q):j9 K t σ H Q:=h
theorem Ke(q:QA [] H):hX σ H QA:=q
theorem Lf(h:te σ H λx H1=>tr σ H1 λxs H2=>QA (x::xs) H2):gk te tr σ H QA:=h
theorem TQ{sp:Sp}{E:XK}(h:t σ H λvs H1=>sp vs H1 Q E):oj sp [] E t σ H Q:=by
 simpa only[oj,WC] using h
theorem J0{u:List V->Hp->VK->Prop}(h:t σ H λvs H1=>u vs H1 Q):lS u t σ H Q:=h
theorem R0(h:te σ H λx H'=>∃k,x=.bl k/\QB k H'):zW te σ H QB:=h
theorem zzy(h:te σ H λx H'=>∃k,x=.bl k/\QB k H'):tB te σ H QB:=h
theorem zw3(h:tt σ H λc H1=>if c=true then tu σ H1 QB else QB false H1):Gf tt tu σ H QB:=h
theorem O_(h:tt σ H λc H1=>if c=true then QB true H1 else tu σ H1 QB):Ho tt tu σ H QB:=h
theorem Ye(h:tt σ H λc H1=>QB (!c) H1):Je tt σ H QB:=h
theorem Su(h:ta σ H λx H1=>∃c,x=.bl c/\if c=true then tb σ H1 Q else Q (.bl false) H1):Ka ta tb σ H Q:=h
theorem OZ(h:ta σ H λx H1=>∃c,x=.bl c/\if c=true then Q (.bl true) H1 else tb σ H1 Q):FC ta tb σ H Q:=h
theorem UW(h:ta σ H λx H1=>∃c,x=.bl c/\Q (.bl (!c)) H1):HM ta σ H Q:=h
theorem zxc(h:tt σ H λc H1=>if c=true then ta σ H1 Q else tb σ H1 Q):LB tt ta tb σ H Q:=h
-- statements
theorem Sr(h:s1 {D with nx:=s2 D} σ H):kG s1 s2 D σ H:=h
theorem Oh(h:D.nx σ H):CD D σ H:=h
theorem Jx(h:te σ H D.rt):zi te D σ H:=h
theorem YA(h:tt σ H λb H1=>if b=true then s1 D σ H1 else s2 D σ H1):zu tt s1 s2 D σ H:=h
theorem bD(h:te σ H λx H1=>g x σ H1 D.nx):jo te g D σ H:=h
theorem Uk(h:te σ H λ_ H1=>D.nx σ H1):Ac te D σ H:=h
theorem By(q:QS (σ.set i (some v)) H):fg i v σ H QS:=q
theorem zvR(q:QS σ H):zx [] σ H QS:=⟨rfl,q⟩
theorem Oi(q:g v σ H λσ' H'=>gs xs σ' H' QS):tE g gs (v::xs) σ H QS:=⟨v,xs,rfl,q⟩
theorem y8{a:wd}{n:Nat}(h:aP K H a xs)(e:xs.length=n)(q:gs xs σ H QS):mR K n gs (.ref a) σ H QS:=⟨a,xs,rfl,h,e,q⟩
theorem YE{tset:r8}(h:ta σ H λo H1=>tb σ H1 λi H2=>tset o i v H2 λH3=>QS σ H3):Ks ta tb tset v σ H QS:=h
theorem HJ{p:wd}{k:Int}{j:Nat}(h:H p=some (.lst xs))(e:gJ xs.length k=some j)(q:∀H',Exc p H H'->H' p=some (.lst (xs.set j v))->QH H'):Ju (.ref p) (.int k) v H QH :=
 ⟨p,xs,k,j,rfl,rfl,h,e,q _ (Exc.upd p H _) cb⟩
-- ints
theorem zxV{f:Int->Int->V}(q:Q (f m n) H):gw f (.int m) (.int n) H Q:=⟨m,n,rfl,rfl,q⟩
theorem Jc{C:Int->Int->Prop}{f:Int->Int->V}(c:C m n)(q:Q (f m n) H):rI C f (.int m) (.int n) H Q:=⟨m,n,rfl,rfl,c,q⟩
theorem N9{f:Int->V}(q:Q (f m) H):rU f (.int m) H Q:=⟨m,rfl,q⟩
theorem GI(q:Q (.int (m+n)) H):ku (.int m) (.int n) H Q:=.inl ⟨m,n,rfl,rfl,q⟩
theorem jv{p b:wd}(h:H p=some (.lst xs))(k:H b=some (.lst ys))(z:xs.length+ys.length<=wC)
  (q:∀c H',H c=none->af H H'->H' c=some (.lst (xs++ys))->Q (.ref c) H'):ku (.ref p) (.ref b) H Q :=
 .inr (.inl ⟨p,b,xs,ys,rfl,rfl,h,k,z,λc hc=>q c _ hc (af.upd hc) cb⟩)
theorem zxF(q:Q (.int (if m<0 then -m else m)) H):Kk [.int m] H Q:=⟨m,rfl,q⟩
theorem KO{p:wd}(h:aP K H p xs)(q:Q (.int xs.length) H):a_ K [.ref p] H Q:=⟨p,xs,rfl,.inr h,q⟩
theorem kb{p:wd}(h:aN K H p xs)(q:Q (.int xs.length) H):a_ K [.ref p] H Q:=⟨p,xs,rfl,.inl h,q⟩
theorem Yo(q:Q (.bl (decide (m=n))) H):cU K (.int m) (.int n) H Q :=
 ⟨.int m,.int n,bR.mpr rfl,bR.mpr rfl,rfl,rfl,by
  have e:Wm (.int m) (.int n)=decide (m=n):=by
   rw[Wm,qT]
  rw[e];exact q⟩
theorem Ph(q:Q (.bl (!decide (m=n))) H):cM K (.int m) (.int n) H Q :=
 ⟨.int m,.int n,bR.mpr rfl,bR.mpr rfl,rfl,rfl,by
  have e:Wm (.int m) (.int n)=decide (m=n):=by
   rw[Wm,qT]
  rw[e];exact q⟩
theorem L5{d e:wu}(h:Is K H v d)(k:Is K H w e)(sd:vV d=true)(se:vV e=true)(q:Q (.bl (Wm d e)) H):cU K v w H Q:=⟨d,e,h,k,sd,se,q⟩
theorem yE{d e:wu}(h:Is K H v d)(k:Is K H w e)(sd:vV d=true)(se:vV e=true)(q:Q (.bl (!PyData.eqv d e)) H):cM K v w H Q:=⟨d,e,h,k,sd,se,q⟩
theorem mq{T:String}{d:wu}(h:Is K H v d)(e:wt K (.type (kindOf d)) (.type T)=some (isA T d))(q:Q (.bl (isA T d)) H):dJ K [v,.ty T] H Q:=⟨v,T,d,_,rfl,h,e,q⟩
def fJ:wu->Bool
 | .tuple _=>true
 | _=>false
def zl:wu->Bool
 | .int _=>true
 | .bool _=>true
 | _=>false
def AK:wu->Bool
 | .bool _=>true
 | _=>false
def hV:wu->Bool
 | .list _=>true
 | _=>false
def kS:wu->Bool
 | .str _=>true
 | _=>false
theorem KG{d:wu} : fJ d=true ↔ ∃ds,d=.tuple ds:=by cases d<;>simp[fJ]
theorem Kn{d:wu}(h:Is K H v d)(q:Q (.bl (fJ d)) H):dJ K [v,.ty "tuple"] H Q:=mq h (zqX d) (by have e:isA "tuple" d=fJ d:=(by cases d<;>rfl);rw[e];exact q)
theorem zso{d:wu}(h:Is K H v d)(q:Q (.bl (zl d)) H):dJ K [v,.ty "int"] H Q:=mq h (OP d) (by have e:isA "int" d=zl d:=(by cases d<;>rfl);rw[e];exact q)
theorem Ud{d:wu}(h:Is K H v d)(q:Q (.bl (AK d)) H):dJ K [v,.ty "bool"] H Q:=mq h (Uw d) (by have e:isA "bool" d=AK d:=(by cases d<;>rfl);rw[e];exact q)
theorem ztX{d:wu}(h:Is K H v d)(q:Q (.bl (hV d)) H):dJ K [v,.ty "list"] H Q:=mq h (RC d) (by have e:isA "list" d=hV d:=(by cases d<;>rfl);rw[e];exact q)
theorem BU{d:wu}(h:Is K H v d)(q:Q (.bl (kS d)) H):dJ K [v,.ty "str"] H Q:=mq h (OS d) (by have e:isA "str" d=kS d:=(by cases d<;>rfl);rw[e];exact q)
-- items
theorem gX{p:wd}{m:Int}(h:aP K H p xs)(e:eC xs m=some v)(q:Q v H):dk K (.ref p) (.int m) H Q:=.inr (.inl ⟨p,xs,m,v,rfl,rfl,h,e,q⟩)
theorem cG{p:wd}{m:Int}(h:aN K H p xs)(e:eC xs m=some v)(q:Q v H):dk K (.ref p) (.int m) H Q:=.inl ⟨p,xs,m,v,rfl,rfl,h,e,q⟩
theorem Ug{α : Type}{xs:List α}{m:Int}(h0:0<=m)(h1:m<xs.length):∃v,eC xs m=some v/\v∈xs:=by
 obtain⟨k,rfl⟩:∃k:Nat,m=(k:Int):=⟨m.toNat,by lia⟩;have l:k<xs.length:=by lia
 exact⟨xs[k],cP (by simp[l]),vn l⟩
theorem ZY{p:wd}{m:Int}(P:V->Prop)(h:aN K H p xs)(h0:0<=m)(h1:m<xs.length)(hP:∀x∈xs,P x)(q:∀x,P x->Q x H):dk K (.ref p) (.int m) H Q:=by
 obtain⟨x,e,hx⟩:=Ug h0 h1;exact cG h e (q x (hP x hx))
theorem O1{r:Rat}(h:Is K H v (N r))(q:Q (.int r.num) H):dk K v (.int 0) H Q:=by
 obtain⟨a,rfl,h'⟩:=CK.mp h;exact gX h' rfl q
theorem ZT{r:Rat}(h:Is K H v (N r))(q:Q (.int (r.den:Int)) H):dk K v (.int 1) H Q:=by
 obtain⟨a,rfl,h'⟩:=CK.mp h;exact gX h' rfl q
theorem dC{ds:List wu}{d:wu}{j:Nat}(h:Is K H v (.tuple ds))(e:ds[j]? = some d)(q:∀x,Is K H x d->Q x H):dk K v (.int (j:Int)) H Q:=by
 obtain⟨a,xs,rfl,h,t⟩:=bV.mp h;obtain⟨x,e1,hx⟩:=t.get e;exact gX h (cP e1) (q x hx)
theorem kh{ds:List wu}(h:Is K H v (.tuple ds))(q:Q (.int ds.length) H):a_ K [v] H Q:=by
 obtain⟨a,xs,rfl,h,t⟩:=bV.mp h;exact KO h (by rw[t.length];exact q)
theorem Cm{α : Type}{l:List α}(h:l.length<=1000):l.length<=wC:=qr (lg h)
theorem d8(z:xs.length<=1000)(q:∀p H',H p=none->af H H'->H' p=some (.tup xs)->Q (.ref p) H'):nI K xs H Q:=⟨Cm z,λp hp=>q p _ hp (af.upd hp) cb⟩
theorem cW(z:xs.length<=1000)(q:∀p H',H p=none->af H H'->H' p=some (.lst xs)->Q (.ref p) H'):t6 K xs H Q:=⟨Cm z,λp hp=>q p _ hp (af.upd hp) cb⟩
theorem jA{ds:List wu}(z:xs.length<=1000)(h:ay K H xs ds)(q:∀v H',af H H'->Is K H' v (.tuple ds)->Q v H'):nI K xs H Q :=
 d8 z λp H' _ s e=>q _ H' s (bV.mpr ⟨p,xs,rfl,.of e,ay.same s ds xs h⟩)
theorem Y_{r:Rat}(e1:m=r.num)(e2:n=(r.den:Int))(q:∀v H',af H H'->Is K H' v (N r)->Q v H'):nI K [.int m,.int n] H Q:=by
 subst e1 e2;exact d8 (by show 2<=1000;decide) λp H' _ s e=>q _ H' s (CK.mpr ⟨p,rfl,.of e⟩)
-- tests
theorem zuw{p:Prop}[Decidable p]{A B:Prop}(h1:p->A)(h2:¬ p->B):if decide p=true then A else B:=by
 by_cases h:p
 ·rw[decide_eq_true h,if_pos rfl];exact h1 h
 ·rw[decide_eq_false h,if_neg vG];exact h2 h
theorem ztD{p:Prop}[Decidable p]{A B:Prop}(h1:¬ p->A)(h2:p->B):if(!decide p)=true then A else B:=by
 by_cases h:p
 ·rw[decide_eq_true h];exact sE (h2 h)
 ·rw[decide_eq_false h];exact og (h1 h)
theorem zu8{b:Bool}{A B:Prop}(h1:b=true->A)(h2:b=false->B):if b=true then A else B:=by
 cases b
 ·exact sE (h2 rfl)
 ·exact og (h1 rfl)
theorem ztb{b:Bool}{A B:Prop}(h1:b=false->A)(h2:b=true->B):if(!b)=true then A else B:=by
 cases b
 ·exact og (h1 rfl)
 ·exact sE (h2 rfl)
end
section
variable{c:TT}{tb:TS}{D:ck}{σ : St}{H:Hp}
def Z7(σ : St)(i:Nat):Int:=match σ[i]? with
 | some (some (.int y))=>y
 | _=>0
def Jz(Pv:St->Hp->Prop)(μ : St->Nat)(tb:TS)(D:ck)(σ':St)(H1:Hp):Prop :=
 ∃M:St->Hp->Prop,(∀σ2 H2,M σ2 H2->∃m',m' < μ σ'/\(m' = μ σ2/\Pv σ2 H2))/\tb {D with nx:=M,ct:=M,bk:=D.nx} σ' H1
theorem OG(Pv:St->Hp->Prop)(μ : St->Nat)(h0:Pv σ H)
  (hs:∀σ' H',Pv σ' H'->c σ' H' λb H1=>if b=true then Jz Pv μ tb D σ' H1 else D.nx σ' H1):IZ c tb D σ H:=by
 refine⟨λm σ H=>m = μ σ /\ Pv σ H,⟨_,rfl,h0⟩,?_⟩;rintro m σ H ⟨rfl,p⟩;exact hs σ H p
theorem Uh{Pv:St->Hp->Prop}{μ : St->Nat}{σ':St}{H1:Hp}(h:tb {D with nx:=λσ2 H2=>μ σ2 < μ σ'/\Pv σ2 H2,ct:=λσ2 H2=>μ σ2 < μ σ'/\Pv σ2 H2,bk:=D.nx} σ' H1):Jz Pv μ tb D σ' H1 :=
 ⟨_,λσ2 H2 q=>⟨_,q.1,rfl,q.2⟩,h⟩
def Io(g:TG)(tb:TS)(D:ck)(σ : St)(vs:List V)(H1:Hp):Prop:=∃j:Int,vs=[.int j] /\ -(2^62)<=j/\j<2^62 /\
 ∃W:Nat->Nat->St->Hp->Prop,(∃m,W 0 m σ H1) /\ ∀i m σ H,W i m σ H ->
  ((iU 0 j.toNat).stop i H/\D.nx σ H)\/((iU 0 j.toNat).go i H /\ ∃M:St->Hp->Prop,(∀σ' H',M σ' H'->∃m',m'<m/\W (i+1) m' σ' H') /\ ∀x H',(iU 0 j.toNat).gj i H x H'->g x σ H' λσ2 H2=>tb {D with nx:=M,ct:=M,bk:=D.nx} σ2 H2)
theorem zuM{ta:TA}{g:TG}(h:ta σ H λvs H1=>Io g tb D σ vs H1):tG (KL ta) g tb D σ H:=h
theorem Yv{g:TG}{n:Int}(h0 : -1000000000<=n)(h1:n<1000000000)(Pv:Nat->St->Hp->Prop)(p:Pv 0 σ H)
  (hs:∀(i:Nat) σ H,i<n.toNat->Pv i σ H->g (.int (i:Int)) σ H λσ2 H2=>tb {D with nx:=Pv (i+1),ct:=Pv (i+1),bk:=D.nx} σ2 H2)
  (hd:∀σ H,Pv n.toNat σ H->D.nx σ H):Io g tb D σ [.int n] H:=by
 refine⟨n,rfl,by lia,by lia,zrz (lo:=0) Pv p (λi σ H hi q=>?_) hd⟩;have e:(0:Int)+(i:Int)=(i:Int):=by lia
 rw[e];exact hs i σ H hi q
end
def GP(K:wa)(g:TG)(tb:TS)(D:ck)(σ : St)(x:V)(H1:Hp):Prop:=∃a,x=.ref a/\(∃xs,aN K H1 a xs) /\
 ∃W:Nat->Nat->St->Hp->Prop,(∃m,W 0 m σ H1) /\ ∀i m σ H,W i m σ H ->
  ((iK K a).stop i H/\D.nx σ H)\/((iK K a).go i H /\ ∃M:St->Hp->Prop,(∀σ' H',M σ' H'->∃m',m'<m/\W (i+1) m' σ' H') /\ ∀x H',(iK K a).gj i H x H'->g x σ H' λσ2 H2=>tb {D with nx:=M,ct:=M,bk:=D.nx} σ2 H2)
section
variable{K:wa}{te:TE}{g:TG}{tb:TS}{D:ck}{σ : St}{H:Hp}{a:wd}{xs:List V}
theorem zwb(h:te σ H λx H1=>GP K g tb D σ x H1):tG (Cn K te) g tb D σ H:=h
theorem V_(hx:aN K H a xs)(Pv:Nat->St->Hp->Prop)(h0:Pv 0 σ H)(hl:∀i σ H,i<=xs.length->Pv i σ H->aN K H a xs)
  (hs:∀i x σ H,xs[i]? = some x->Pv i σ H->g x σ H λσ2 H2=>tb {D with nx:=Pv (i+1),ct:=Pv (i+1),bk:=D.nx} σ2 H2) (hd:∀σ H,Pv xs.length σ H->D.nx σ H):GP K g tb D σ (.ref a) H :=
 ⟨a,rfl,⟨xs,hx⟩,Ym Pv h0 hl hs hd⟩
end
theorem LD{σ : St}{H:Hp}{Q:VK}(q:∀p H',H p=none->af H H'->H' p=some (.dK [])->Q (.ref p) H'):LZ σ H Q:=λp hp=>q p _ hp (af.upd hp) cb
theorem zxv{K:wa}{H:Hp}{a:wd}{xs:List V}(hO:sA H)(h:aN K H a xs):jk K H a xs:=by
 rcases h with(h | ⟨o,h⟩) | h
 ·rcases hO a with z | ⟨ob,ys,z⟩
  ·rw[h]at z;cases z
  ·rw[h]at z;cases z
 ·exact .inl ⟨o,h⟩
 ·exact .inr h
theorem zxu{K:wa}{H:Hp}{Q:VK}{a:wd}{ns:List Int}{m:Int}(h:jk K H a (ns.map V.int))(h0:0<=m)(h1:m<((ns.map V.int).length:Int))(q:∀z,Q (.int z) H):dk K (.ref a) (.int m) H Q:=by
 refine ZY (λv=>∃z,v=.int z) h.sq h0 h1 (λx hx=>?_) (λx hx=>?_)
 ·obtain⟨z,_,rfl⟩:=vg.mp hx
  exact⟨z,rfl⟩
 ·obtain⟨z,rfl⟩:=hx
  exact q z
section
variable{K:wa}{H H':Hp}{v:V}{d:wu}{a:wd}{xs:List V}{o:HO}
theorem af.back{H2:Hp}(b:af H' H2)(s:af H H'):af H H2:=s.trans b
theorem Is.by(s:af H H')(h:Is K H v d):Is K H' v d:=Is.same s d v h
theorem Is.NY(h:Is K H v d)(s:af H H'):Is K H' v d:=Is.same s d v h
theorem Is.Zy{r:Rat}(s:aU H H')(h:Is K H v (N r)):Is K H' v (N r):=Is.keep s _ v (yW r) h
theorem Is.Bs(s:aU H H')(i:eL d=true)(h:Is K H v d):Is K H' v d:=Is.keep s _ v i h
end
def bP(X:Cx)(N':List Str)(scope:Scope)(cl:List (Str × wd))(C:wd)(s₀ : wo)(H₀ : Hp)(fp:List wd)(pins:List (wd × Obj)):Cx where
 prog:=X.prog
 w:=X.w
 K:=X.K
 mg:=X.mg
 base:=X.base
 A:=X.A
 N:=N'
 s₀:=s₀
 H₀:=H₀
 env:=compEnvC scope cl C X.env
 outer:=X.stack
 stack:=X.stack
 ex:=fp
 fn:=λ_=>false
 calm:=X.calm
 pn:=X.pn++pins
 xe:=λ_ _=>False
structure J_(X:Cx)(scope:Scope)(cl:List (Str × wd)):Prop where
 gn:closureFor scope X.env=pure cl
 sub:∀x c,cl.lookup x=some c->X.env.cells.lookup x=some c
 has:∀x,((relabel scope X.env).names.lookup x=some .cell\/(relabel scope X.env).names.lookup x=some .free)->∃c,cl.lookup x=some c
def cJ(src:List (Option Nat))(σ : St):St:=src.map λo=>match o with
 | none=>none
 | some j=>(σ[j]?).join
def Hw(X:Cx)(N':List Str)(src:List (Option Nat)):Prop :=
 N'.length=src.length /\ ∀(i j:Nat)(x:Str),N'[i]? = some x->src[i]? = some (some j)->X.N[j]? = some x/\X.env.scope.names.lookup x=some .cell
section
variable{X:Cx}{pins:List (wd × Obj)}{σ : St}{H:Hp}{s:wo}{N':List Str}{scope:Scope}{cl:List (Str × wd)}{src:List (Option Nat)}{fp:List wd}
theorem Inv.block{h₁ : wK}{tk:Nat}(I:Inv X pins σ H s)(hk:scope.kind=.function)(cok:J_ X scope cl)(sok:Hw X N' src)(hf:∀b∈fp,cD X pins H b)(hlt:∀b∈fp,b<s.heap.objs.size)
  (hns:h₁.Ns s.heap.objs.size λ_=>none) (old:∀b o,s.heap.get? b=some o->h₁.get? b=some o)
  (hvis:∀(i:Nat) x,N'[i]? = some x->src[i]? ≠ some none->(relabel scope X.env).names.lookup x=some .cell\/(relabel scope X.env).names.lookup x=some .free) :
  Inv (bP X N' scope cl s.heap.objs.size s H fp pins) [] (cJ src σ) H {s with heap:=h₁,toks:=tk}:=by
 have hfr:H s.heap.objs.size=none:=I.ar.fresh (wx _)
 have ia:∀x c,cl.lookup x=some c->c<s.heap.objs.size:=λx c e=>by
  obtain⟨v,q⟩:=I.cell x c (cok.sub x c e);exact q.lt
 have fplt:∀b∈fp,b ∉ bt X.stack:=λb hb z=>by
  obtain⟨_,f1,f2,_⟩:=hf b hb;exact(wO.mp (I.iN b z)).elim f1 f2
 refine⟨⟨I.ok.mod,?_,I.ok.glob,I.ok.blt,wx _,λx y c h1 h2=>?_,λx hx=>?_,λx c hx=>?_,I.ok.hd,I.ok.frames,.inl rfl,λb hb=>⟨?_,λx c e=>?_⟩,I.bs,vd I.ok.gG I.sz,λb o e=>?_,fplt,I.stack,I.mh⟩,
  rfl,I.bare,Un.kept old,⟨_,hns,λi x v h1 h2 h3=>?_⟩,λx c e=>?_,hfr,λx c e=>?_,λp hp=>?_,I.ar.kept old,?_⟩
 ·show(relabel scope X.env).kind=.function
  exact hk
 ·exact I.ok.inj x y c (cok.sub x c h1) (cok.sub y c h2)
 ·exact cok.has x hx
 ·exact absurd (show false=true from hx) vG
 ·exact wZ (hlt b hb)
 ·exact(hf b hb).2.2.2.2.1 x c (cok.sub x c e)
 ·intro hb
  obtain⟨_,_,_,f3,_⟩:=hf b hb;rcases f3 with z | z
  ·exact I.ok.ju b o e z
  ·exact absurd (ve (wH e) (vd I.ok.gG z)) (WW _)
 ·-- a name of the frame around
  have hsrc:∃j,src[i]? = some (some j) /\ σ[j]? = some (some v):=by
   unfold cJ at h2;rw[wB]at h2;cases q:src[i]? with
   | none=>rw[q]at h2;cases h2
   | some o =>
    rw[q]at h2;cases o with
    | none=>cases h2
    | some j =>
     refine⟨j,rfl,?_⟩;have h2':(σ[j]?).join=some v:=vo h2;cases q2 : σ[j]? with
     | none=>rw[q2]at h2';cases h2'
     | some z=>rw[q2]at h2';exact congrArg some h2'
  obtain⟨j,hj,hv⟩:=hsrc;obtain⟨hN,hc⟩:=sok.2 i j x h1 hj;obtain⟨m,_,hl⟩:=I.loc;obtain⟨u,ru,lk⟩:=hl j x v hN hv (.inr (.inl hc));refine⟨u,ru,.inr ⟨hvis i x h1 (by rw[hj];intro z;cases z),?_⟩⟩;rcases lk with⟨k,_⟩ | ⟨_,c,ec,hcell⟩
  ·have k':X.env.scope.names.lookup x=some .local:=k
   rw[hc]at k';cases k'
  ·obtain⟨c',ec'⟩:=cok.has x (hvis i x h1 (by rw[hj];intro z;cases z))
   have:=cok.sub x c' ec';rw[ec]at this;cases this;obtain⟨o,ho,hd⟩:=hcell;exact⟨c,ec',o,old c o ho,hd⟩
 ·obtain⟨v,o,ho,hd⟩:=I.cell x c (cok.sub x c e)
  exact⟨v,o,old c o ho,hd⟩
 ·exact I.eF x c (cok.sub x c e)
 ·have hp':p∈(X.pn++pins)++[]:=hp
  rw[WC]at hp';obtain⟨e,n,ne,nf,d⟩:=I.pin p hp';refine⟨old _ _ e,n,wZ (wH e),λz=>?_,d⟩;exact(wO.mp (I.iN p.1 z)).elim ne nf
 ·show(cJ src σ).length=N'.length
  unfold cJ;rw[wm,sok.1]
end
def kH:TT:=λ_ H Q=>Q true H
def j8(X:Cx)(ifs:List Expr)(t:TT):Prop :=
 ∀(pins:List (wd × Obj))(s:wo)(σ : St)(H:Hp)(Q:Bool->Hp->Prop),Inv X pins σ H s->t σ H Q ->
  wA (model X.prog X.w) X.A (forIn ifs true λc r=>if r=true then do let ok <- isTrue c X.env (eval c X.env);pure (ForInStep.yield ok)else pure (ForInStep.yield r)) (TP X pins σ Q) X.xe s
theorem cI{X:Cx} : j8 X [] kH:=λ_ _ _ H _ I h=>wpAny_tests_nil ⟨H,I,h⟩
theorem Yq{X:Cx}{c:Expr}{t:TT}(hc:PT X c t):j8 X [c] t:=λpins s σ H Q I h=>wpAny_tests_one (hc pins s σ H Q I h)
section
variable{prog:wV}{w:wR}{A:vm}{R:Result->wo->Prop}{s:wo}
theorem Zh{elt target iter:Expr}{ifs:List Expr}{scope:Scope}{pos:Pos}{it acc:wg}{env:Env}(I:Nat->wo->Prop)
   (turn:∀n s,I n s->wA (model prog w) A (pyNext it) (λr s₁=>match r with
     | none=>R (.ok .next) s₁
     | some v=>wA (model prog w) A (VW target it v) (λ_ s₁'=>wA (model prog w) A (assign target env v) (λ_ s₂ =>
         wA (model prog w) A (forIn ifs true λc r=>if r=true then do let ok <- isTrue c env (eval c env);pure (ForInStep.yield ok)else pure (ForInStep.yield r)) (λok s₃ =>
           if ok=true then wA (model prog w) A (eval elt env) (λx s₄ =>
             wA (model prog w) A (call (.builtin "list.append") [acc,x]) (λ_ s₅=>∃m,m<n/\I m s₅) (λ_ _=>False) s₄) (λ_ _=>False) s₃
           else ∃m,m<n/\I m s₃) (λ_ _=>False) s₂) (λ_ _=>False) s₁') (λ_ _=>False) s₁) (λ_ _=>False) s)
   (n:Nat) (h:I n s):VQ (model prog w) A (.compLoop (.ListComp elt [⟨target,iter,ifs,0⟩] scope pos) 0 it acc env) R s:=by
 refine codeAny_loop rfl I (λn s hI=>?_) n h
 show wA _ A ((compTurn (.ListComp elt [⟨target,iter,ifs,0⟩] scope pos) 0 it acc env).onRaise (λx=>do Vx x env;theTreesLotGoes x)) _ _ s
 refine wpAny_noted ?_;rw[compTurn_list];refine wj (wpAny_standAt (wj (vU (turn n s hI) (λr s₁ h₁=>?_) λ_ _ h'=>h'.elim)));cases r with
 | none=>exact wz h₁
 | some v =>
   refine wj (vU h₁ (λ_ s₁' h₁'=>?_) λ_ _ h'=>h'.elim);refine wj (vU h₁' (λ_ s₂ h₂=>wj (vU h₂ (λok s₃ h₃=>?_) λ_ _ h'=>h'.elim)) λ_ _ h'=>h'.elim);cases ok with
   | false=>exact wz ⟨rfl,h₃⟩
   | true=>exact wj (wj (vU h₃ (λx s₄ h₄=>wj (vU h₄ (λ_ s₅ h₅=>wz (wz ⟨rfl,h₅⟩)) λ_ _ h'=>h'.elim)) λ_ _ h'=>h'.elim))
end
def iV(g:TG)(tt:TT)(te:TE)(J:It)(D:wd)(σ0:St)(H0:Hp)(Q:Hp->Prop):Prop :=
 ∃W:Nat->Nat->St->Hp->Prop,(∃m,W 0 m σ0 H0) /\ ∀i m σ' H',W i m σ' H' ->
  (J.stop i H'/\Q H')\/(J.go i H' /\ ∃M:St->Hp->Prop,(∀σ2 H2,M σ2 H2->∃m',m'<m/\W (i+1) m' σ2 H2) /\
   ∀x H2,J.gj i H' x H2->g x σ' H2 λσ3 H3=>tt σ3 H3 λok H4=>if ok=true then te σ3 H4 λy H5=>∃ys,H5 D=some (.lst ys)/\ys.length<wC/\M σ3 (upd H5 D (.lst (ys++[y])))else M σ3 H4)
def jG(src:List (Option Nat))(wi:TI)(g:TG)(tt:TT)(te:TE):TE:=λσ H Q=>wi σ H λJ H1=>∀D,H1 D=none->iV g tt te J D (cJ src σ) (upd H1 D (.lst [])) (λH'=>Q (.ref D) H')
structure zH(Y:Cx)(tg:Expr)(J:It)(fp:List wd)(it:wd)(tn:Nat->wK->Prop):Prop where
 item:∀(i:Nat)(pins:List (wd × Obj))(s:wo)(σ : St)(H:Hp)(E:wg->wo->Prop),Inv Y pins σ H s->(∀b∈fp,cD Y pins H b)->tn i s.heap->J.go i H ->
   wA (model Y.prog Y.w) Y.A (pyNext (.ref it)) (λr s1=>∃u,r=some u/\wA (model Y.prog Y.w) Y.A (VW tg (.ref it) u) (λ_ s2=>∃x H',Inv Y pins σ H' s2/\aW x u/\J.gj i H x H'/\tn (i+1) s2.heap /\ ∀b∈fp,H' b=none) E s1) E s
 done:∀(i:Nat)(pins:List (wd × Obj))(s:wo)(σ : St)(H:Hp)(E:wg->wo->Prop),Inv Y pins σ H s->(∀b∈fp,cD Y pins H b)->tn i s.heap->J.stop i H ->
   wA (model Y.prog Y.w) Y.A (pyNext (.ref it)) (λr s1=>r=none/\Inv Y pins σ H s1) E s
theorem ip.A5{P:wV}{w:wR}{K:wa}{tg:Expr}{J:It}{fp:List wd}{it:wd}{tn:Nat->wK->Prop}(T:ip P w K tg J fp it tn){Y:Cx}(h1:Y.prog=P)(h2:Y.w=w)(h3:Y.K=K)(hc:Y.calm=true):zH Y tg J fp it tn:=by
 subst h1 h2 h3;exact⟨T.item Y rfl rfl rfl hc,T.done Y rfl rfl rfl hc⟩
section
variable{X:Cx}{pins:List (wd × Obj)}{σ : St}{H:Hp}{s:wo}{N':List Str}{scope:Scope}{cl:List (Str × wd)}{src:List (Option Nat)}{elt tgt iter:Expr}{ifs:List Expr}{pos:Pos}{wi:TI}{g:TG}{tt:TT}{te:TE}
structure bU(X:Cx)(N':List Str)(scope:Scope)(cl:List (Str × wd))(src:List (Option Nat)):Prop where
 kind:scope.kind=.function
 cell:∀y∈scope.names,y.2≠.cell
 names:∀y∈scope.names,y.2=.local->scope.names.lookup y.1=some .local
 gn:J_ X scope cl
 Fv:Hw X N' src
 FE:∀(i:Nat) x,N'[i]? = some x->src[i]? ≠ some none->(relabel scope X.env).names.lookup x=some .cell\/(relabel scope X.env).names.lookup x=some .free
theorem zq3{it:wd}{fp:List wd}{tn:Nat->wK->Prop}{J:It}{RQ:wd->Hp->Prop}{E:wg->wo->Prop}{RR:wg->wd->Result->wo->Prop}
   (TC:∀C s₀ H₀,zH (bP X N' scope cl C s₀ H₀ fp pins) tgt J fp it tn) (ok:bU X N' scope cl src)
   (hg:∀C s₀ H₀ fp pins,PG (bP X N' scope cl C s₀ H₀ fp pins) tgt g) (ht:∀C s₀ H₀ fp pins,j8 (bP X N' scope cl C s₀ H₀ fp pins) ifs tt) (he:∀C s₀ H₀ fp pins,PE (bP X N' scope cl C s₀ H₀ fp pins) elt te)
   (I:Inv X pins σ H s) (T:ip X.prog X.w X.K tgt J fp it tn) (st:tn 0 s.heap) (hf:∀b∈fp,cD X pins H b)
   (rd:∀D,H D=none->iV g tt te J D (cJ src σ) (upd H D (.lst [])) (λH'=>RQ D H'))
   (hRR:∀D C H' s' m,Inv X pins σ H' s'->s'.heap.Ns C m->cD X pins H' C->RQ D H'->RR (.ref D) C (.ok .next) s') :
   wA (model X.prog X.w) X.A (newList []) (λacc s₃=>wA (model X.prog X.w) X.A (newFunctionEnv scope X.env.globals cl [] X.env.qual none .none (some X.env)) (λcenv s₄ =>
     VQ (model X.prog X.w) X.A (.compStart (.ListComp elt [⟨tgt,iter,ifs,0⟩] scope pos) 0 (.ref it) acc {cenv with scope:=relabel scope X.env}) (RR acc cenv.locals) s₄) E s₃) E s:=by
 -- the list
 refine Wz ?_ (by show 0<=wC;exact vM _);have hD:H s.heap.objs.size=none:=I.ar.fresh (wx _)
 have I3:Inv X pins σ (upd H s.heap.objs.size (.lst [])) {s with heap:=s.heap.push {cls:=.type "list",data:=.seq ([]:List wg).toArray}} :=
   I.oG (ys:=[]) (its:=[]) (t':=s.toks) .nil (vM _)
 have old3:∀b o,s.heap.get? b=some o->(s.heap.push {cls:=.type "list",data:=.seq ([]:List wg).toArray}).get? b=some o:=λb o e=>wk _ e
 have lt0:∀b∈fp,b<s.heap.objs.size:=λb hb=>by
   obtain⟨o,e,_⟩:=T.obj 0 _ st b hb;exact wH e
 have hf3:∀b∈fp,cD X pins (upd H s.heap.objs.size (.lst [])) b:=λb hb=>⟨by rw[b9 (wZ (lt0 b hb))];exact(hf b hb).1,(hf b hb).2⟩
 have lt3:∀b∈fp,b<(s.heap.push {cls:=.type "list",data:=.seq ([]:List wg).toArray}).objs.size:=λb hb=>by
   rw[vS];exact Vn (lt0 b hb)
 have st3:tn 0 (s.heap.push {cls:=.type "list",data:=.seq ([]:List wg).toArray}):=T.keep _ _ _ st λb _ o e=>old3 b o e
 obtain⟨W,⟨m0,w0⟩,turn⟩:=rd _ hD;generalize hs3:({s with heap:=s.heap.push {cls:=.type "list",data:=.seq ([]:List wg).toArray}} : wo)=s3 at I3 ⊢;have hh3:s3.heap=s.heap.push {cls:=.type "list",data:=.seq ([]:List wg).toArray}:=by rw[<- hs3]
 rw[<- hh3]at lt3 st3;clear old3 hs3 hh3;generalize hD':s.heap.objs.size=D at *
 -- the block's dict
 refine wpAny_newFunctionEnv ok.cell (by intro y hy;cases hy) (λh₁ hns₁ hsb₁=>?_) ok.kind;have old:∀b o,s3.heap.get? b=some o->h₁.get? b=some o:=λb o e=>hsb₁.extBut b o (wZ (wH e)) (wk _ e)
 have hC:cD X pins (upd H D (.lst [])) s3.heap.objs.size:=I3.iO (wx _) (I3.ar.fresh (wx _))
 have IB:∀tk,Inv (bP X N' scope cl s3.heap.objs.size s3 (upd H D (.lst [])) fp pins) [] (cJ src σ) (upd H D (.lst [])) {s3 with heap:=h₁,toks:=tk}:=λtk =>
   I3.block ok.kind ok.gn ok.Fv hf3 lt3 hns₁ old ok.FE
 have stB:tn 0 h₁:=T.keep _ _ _ st3 λb _ o e=>old b o e
 -- what is true of the iterator's records within
 have stat:∀{H':Hp} ,(∀b∈fp,H' b=none)->∀b∈fp,cD (bP X N' scope cl s3.heap.objs.size s3 (upd H D (.lst [])) fp pins) [] H' b:=λhn b hb=>by
   obtain⟨_,f1,f2,f3,f4,f5⟩:=hf3 b hb;refine⟨hn b hb,wZ (lt3 b hb),λz=>(wO.mp (I3.iN b z)).elim f1 f2,.inl hb,λx c e=>f4 x c (ok.gn.sub x c e),λp hp=>?_⟩;have hp':p∈(X.pn++pins)++[]:=hp;rw[WC]at hp';exact f5 p hp'
 -- from within back to the frame around
 have back:∀{σ':St}{H':Hp}{s':wo},Inv (bP X N' scope cl s3.heap.objs.size s3 (upd H D (.lst [])) fp pins) [] σ' H' s'->Inv X pins σ H' s'/\(∃m,s'.heap.Ns s3.heap.objs.size m)/\cD X pins H' s3.heap.objs.size:=λ{σ' H' s'} J=>by
   obtain⟨m,hn,_⟩:=J.loc;refine⟨I3.yU (ch:=fp) J.os J.base J.ar J.bare (λb hb=>?_),⟨m,hn⟩,⟨J.free,hC.2⟩⟩;obtain⟨_,f1,_,f3,f4,f5⟩:=hf3 b hb;exact⟨f3,f1,f4,f5⟩
 have loop:∀tk,VQ (model X.prog X.w) X.A (.compLoop (.ListComp elt [⟨tgt,iter,ifs,0⟩] scope pos) 0 (.ref it) (.ref D) (compEnvC scope cl s3.heap.objs.size X.env)) (RR (.ref D) s3.heap.objs.size) {s3 with heap:=h₁,toks:=tk}:=by
   intro tk
   refine Zh (λn s'=>∃i σ' H',Inv (bP X N' scope cl s3.heap.objs.size s3 (upd H D (.lst [])) fp pins) [] σ' H' s'/\tn i s'.heap/\(∀b∈fp,H' b=none)/\W i n σ' H') ?_ m0
     ⟨0,_,_,IB tk,stB,λb hb=>(hf3 b hb).1,w0⟩
   rintro n s4 ⟨i,σ4,H4,I4,st4,fr4,w4⟩;rcases turn i n σ4 H4 w4 with⟨stop,q⟩ | ⟨go,M,hM,step⟩
   . refine aq ((TC _ _ _).done i [] s4 σ4 H4 (λ_ _=>False) I4 (stat fr4) st4 stop) λr s5 ⟨hr,I5⟩=>?_
     subst hr;obtain⟨J,⟨m,hn⟩,hCf⟩:=back I5;exact hRR D _ H4 s5 m J hn hCf q
   . refine aq ((TC _ _ _).item i [] s4 σ4 H4 (λ_ _=>False) I4 (stat fr4) st4 go) λr s5 ⟨u,hr,h5⟩=>?_
     subst hr;refine aq h5 λ_ s6 ⟨x,H6,I6,r6,y6,st6,fr6⟩=>?_
     have I6':=I6.pinned (stat fr6) (T.obj _ _ st6)
     have again:∀{σ7:St}{H7:Hp}{s7:wo},Inv (bP X N' scope cl s3.heap.objs.size s3 (upd H D (.lst [])) fp pins) ([]++lI fp s6.heap) σ7 H7 s7->M σ7 H7 ->
         ∃m,m<n /\ ∃i σ' H',Inv (bP X N' scope cl s3.heap.objs.size s3 (upd H D (.lst [])) fp pins) [] σ' H' s7/\tn i s7.heap/\(∀b∈fp,H' b=none)/\W i m σ' H':=λ{σ7 H7 s7} I7 n7=>by
       obtain⟨m',hm,w7⟩:=hM σ7 H7 n7;refine⟨m',hm,i+1,σ7,H7,I7.kA,T.keep _ _ _ st6 λb hb o e=>(I7.pin (b,o) (vv _ (vv _ (kI hb e)))).1,λb hb=>?_,w7⟩;obtain⟨o,e,d⟩:=T.obj _ _ st6 b hb;exact(I7.pin (b,o) (vv _ (vv _ (kI hb e)))).2.1
     refine aq (hg _ _ _ _ _ _ s6 σ4 H6 x u _ I6' r6 (step x H6 y6)) λ_ s7 ⟨σ7,H7,I7,q7⟩=>?_
     refine aq (ht _ _ _ _ _ _ s7 σ7 H7 _ I7 q7) λk s8 ⟨H8,I8,q8⟩=>?_
     cases k with
     | false=>exact again I8 q8
     | true =>
       rw[if_pos rfl]at q8 ⊢;refine aq (he _ _ _ _ _ _ s8 σ7 H8 _ I8 q8) λy s9 ⟨yv,H9,I9,r9,ys,hys,hz,q9⟩=>?_
       exact aq (zS _ s9 σ7 H9 (.ref D) [yv] (.ref D) [y] (λ_ H'=>M σ7 H') I9 rfl (.cons r9 .nil) ⟨D,ys,yv,rfl,rfl,hys,hz,q9⟩) λ_ s10 ⟨_,H10,I10,_,q10⟩=>again I10 q10
 exact codeAny_compStart_list (loop _) (T.self _ _ _ _ _ stB (loop _))
theorem cT(hc:X.calm=true)(ok:bU X N' scope cl src)(hi:PI X tgt iter wi)
  (hg:∀C s₀ H₀ fp pins,PG (bP X N' scope cl C s₀ H₀ fp pins) tgt g) (ht:∀C s₀ H₀ fp pins,j8 (bP X N' scope cl C s₀ H₀ fp pins) ifs tt) (he:∀C s₀ H₀ fp pins,PE (bP X N' scope cl C s₀ H₀ fp pins) elt te)
  (hs:∀x,V7 iter X.env x=pure x:=by intro _;rfl):PE X (.ListComp elt [⟨tgt,iter,ifs,0⟩] scope pos) (jG src wi g tt te):=by
 intro pins s σ H Q I h;rw[eval_ListComp];refine qA (use:=none) rfl hs ok.gn.gn ok.kind ok.names (aq (hi pins s σ H _ I h) λv s1 h1=>aq h1 λitv s2 h2=>?_);obtain⟨it,fp,tn,J,H2,e,I2,T,st2,f2,rd⟩:=h2;subst e;refine zq3 (RQ:=λD H'=>Q (.ref D) H') (RR:=λacc C=>compPost (model X.prog X.w) X.A X.xe none (EP X pins σ Q) acc C) (λ_ _ _=>T.A5 rfl rfl rfl hc) ok hg ht he I2 T st2 f2 rd ?_;intro D C H' s' m J hn hC q;obtain⟨c0,c1,_,c3,c4,c5⟩:=hC;exact⟨m,hn,λh' sb=>⟨.ref D,H',J.turned (t':=s'.toks) (λb o hb e=>(sb.2 b hb).trans e) c0 c1 c3 c4 c5,rfl,q⟩⟩
end
abbrev IJ(h B:wK)(e:wd)(cls:wg):Prop :=
 ∃oe vs,h.get? e=some oe/\oe.cls=cls/\oe.data=.fields vs/\vs[1]? = some .none/\vs[2]? = some .none/\oe.dict=none/\B.get? e=none
abbrev AU(h B:wK)(e:wd)(cls fl:wg):Prop :=
 ∃oe vs T oT ts,h.get? e=some oe/\oe.cls=cls/\oe.data=.fields vs/\vs[1]? = some (.ref T)/\vs[2]? = some .none/\oe.dict=none/\B.get? e=none/\B.get? T=none/\T≠e/\h.get? T=some oT/\oT.data=.fields ts/\ts[3]? = some fl
structure bJ(B:wK)(l:List Env)(e:wd)(cls fl:wg)(h:wK):Prop where
 st:B.StaysIn h
 fr:h.FunFrames B l
 tr:AU h B e cls fl
theorem YH{f:Array wg->Array wg}(o:Obj):(Vl f o).dict=o.dict:=by
 obtain⟨c,d,dt,sl⟩:=o;cases dt<;>rfl
theorem fV{h:wK}{T:wd}{f:Obj->Obj}{b:wd}(n:b≠T):(h.update T f).get? b=h.get? b:=qK _ _ (qi n)
theorem iD{h:wK}{T b:wd}{oT o:Obj}{ts:Array wg}(hT:h.get? T=some oT)(dT:oT.data=.fields ts)(hb:h.get? b=some o)(hn:∀vs,o.data≠.fields vs):b≠T:=by
 rintro rfl;rw[hT]at hb;cases hb;exact hn _ dT
theorem nv{B:wK}{T b:wd}{o:Obj}(n:B.get? T=none)(q:B.get? b=some o):b≠T:=by
 rintro rfl;rw[n]at q;cases q
section
variable{M:Model}{A:vm}{E:wg->wo->Prop}{s:wo}{B:wK}{l outer:List Env}{env:Env}{L e:wd}{cls fl:wg}{Q:Unit->wo->Prop}
theorem bJ.land(F:bJ B l e cls fl s.heap)(k:∀h',bJ B l e cls .none h'->s.heap.UpToSlots h'->Q () {s with heap:=h'}):wA M A (setFlight (.ref e) none) Q E s:=by
 obtain⟨st,fr,oe,vs,T,oT,ts,he,hc,hd,h1,h2,hdi,be,bT,ne,hT,dT,h3⟩:=F;have sz:3<ts.size:=(vZ.mp h3).1;unfold setFlight;refine wj (vI he hd h1 ?_);rw[if_pos (by simp)];have at3:∀b,b≠T->(s.heap.update T (Vl (·.setIfInBounds 3 Value.none))).get? b=s.heap.get? b:=λb n=>fV n
 have tr:AU (s.heap.update T (Vl (·.setIfInBounds 3 Value.none))) B e cls .none :=
  ⟨oe,vs,T,Vl (·.setIfInBounds 3 Value.none) oT,ts.setIfInBounds 3 Value.none,(at3 e ne.symm).trans he,hc,hd,h1,h2,hdi,be,bT,ne,
   W2 _ hT (Vj (W3 dT _)),W3 dT _,by simp[sz]⟩
 refine Vz hT dT sz (k _ ⟨λb o q=>(at3 b (nv bT q)).trans (st b o q),fr.of_keeps λb o hb hn=>⟨o,(at3 b (iD hT dT hb hn)).trans hb,rfl⟩,tr⟩ λb o hb hn=>⟨o.slots,(at3 b (iD hT dT hb hn)).trans hb⟩)
theorem AD{oe:Obj}{vs:Array wg}{head:wg}{had:Bool}(hfr:A.frames=some (env::outer))(hf:env.frame=some L)(st:B.StaysIn s.heap)(fr:s.heap.FunFrames B (env::outer))(he:s.heap.get? e=some oe)
  (hd:oe.data=.fields vs) (sz:1<vs.size) (h2:vs[2]? = some .none) (hdi:oe.dict=none) (be:B.get? e=none) (k:∀h',bJ B (env::outer) e oe.cls (rawInt L) h'->s.heap.UpToSlots h'->Q () {s with heap:=h'}) :
  wA M A (do let a <- frameOf env;let pl <- entryPlaceOf L had;let b <- xZ head a .none (rawInt L) .none pl;setField (.ref e) 1 b) Q E s:=by
 have nfr:e ∉ (env::outer).filterMap (·.frame):=λz=>by
  obtain⟨_,o,ho,hnf⟩:=fr.mem z;rw[he]at ho;cases ho;exact hnf vs hd
 refine wj (wpAny_frameOf_fun hfr fr hf λg sg=>wj (wpAny_entryPlaceOf λpl hpl=>?_));unfold xZ newFields;refine wj (Wz ?_ (hpl.sizeOk5 _ _ _ _ _));have eg:g.get? e=some oe:=(sg.2.1 e nfr).trans he
 have stg:B.StaysIn g:=λb o q=>by
  rw[sg.2.1 b λz=>?_]
  ·exact st b o q
  ·rw[(fr.mem z).1]at q;cases q
 generalize hob:({cls:=.type "traceback",data:=.fields ([head,.ref L,.none,rawInt L,.none]++(if pl.isEmpty then w6 6 Value.none else pl)).toArray} : Obj)=tb;have dtb:tb.data=.fields ([head,.ref L,.none,rawInt L,.none]++(if pl.isEmpty then w6 6 Value.none else pl)).toArray:=by rw[<- hob]
 have ftb:tb.isFreed=false:=Vj dtb;have e2:=wk (h:=g) tb eg;have neT:g.objs.size≠e:=vO (wH eg)
 have at3:∀b o,b≠e->g.get? b=some o->((g.push tb).update e (Vl (·.setIfInBounds 1 (.ref g.objs.size)))).get? b=some o:=λb o n q=>by
  rw[fV n];exact wk _ q
 refine Vz e2 hd sz (k _ ?_ ?_)
 ·have d3:=W3 hd (·.setIfInBounds 1 (Value.ref g.objs.size))
  refine⟨λb o q=>at3 b o (nv be q) (stg b o q),fr.of_keeps λb o hb hn=>?_,_,_,g.objs.size,tb,_,W2 _ e2 (Vj d3),XB _ _,d3,by simp[sz],?_,?_,be,stg.fresh,neT,?_,dtb,?_⟩
  ·obtain⟨sl,q⟩:=sg.2.2 b o hb
   exact⟨_,at3 b _ (iD he hd hb hn) q,rfl⟩
  ·rw[Array.getElem?_setIfInBounds_ne (by decide)];exact h2
  ·exact(YH oe).trans hdi
  ·rw[fV neT];exact wE _ ftb
  ·first | (simp;done) | (rcases hpl with rfl | ⟨_,_,_,_,_,_,_,rfl⟩<;>simp)
 ·exact λb o hb hn=>by
   obtain⟨sl,q⟩:=sg.2.2 b o hb;exact⟨sl,at3 b _ (iD he hd hb hn) q⟩
theorem W_(hfr:A.frames=some (env::outer))(hf:env.frame=some L)(st:B.StaysIn s.heap)(fr:s.heap.FunFrames B (env::outer))(t:IJ s.heap B e cls)
  (k:∀h',bJ B (env::outer) e cls (rawInt L) h'->s.heap.UpToSlots h'->Q () {s with heap:=h'}):wA M A (Vx (.ref e) env) Q E s:=by
 obtain⟨oe,vs,he,hc,hd,h1,h2,hdi,be⟩:=t;subst hc;unfold Vx;simp only[hf];refine wj (vI he hd h1 ?_);rw[if_neg (by decide)];exact AD hfr hf st fr he hd (vZ.mp h1).1 h2 hdi be k
theorem bJ.note(F:bJ B (env::outer) e cls .none s.heap)(hfr:A.frames=some (env::outer))(hf:env.frame=some L)
  (k:∀h',bJ B (env::outer) e cls (rawInt L) h'->s.heap.UpToSlots h'->Q () {s with heap:=h'}):wA M A (Vx (.ref e) env) Q E s:=by
 obtain⟨st,fr,oe,vs,T,oT,ts,he,hc,hd,h1,h2,hdi,be,bT,ne,hT,dT,h3⟩:=F;subst hc;unfold Vx;simp only[hf];refine wj (vI he hd h1 ?_);rw[if_pos (by simp)];refine wj (vI hT dT h3 ?_);rw[if_neg (by simp[rawInt])];refine wj (Vz hT dT (vZ.mp h3).1 ?_);refine AD hfr hf (λb o q=>?_) (fr.of_keeps λb o hb hn=>⟨o,?_,rfl⟩) ?_ hd (vZ.mp h1).1 h2 hdi be λh' F' sm=>k h' F' λb o hb hn=>sm b o ?_ hn
 ·show(VZ _ _ _).get? b=_
  rw[fV (nv bT q)];exact st b o q
 ·show(VZ _ _ _).get? b=_
  rw[fV (iD hT dT hb hn)];exact hb
 ·show(VZ _ _ _).get? e=_
  rw[fV ne.symm];exact he
 ·show(VZ _ _ _).get? b=_
  rw[fV (iD hT dT hb hn)];exact hb
theorem zpm(hfr:A.frames=some (env::outer))(hf:env.frame=some L)(st:B.StaysIn s.heap)(fr:s.heap.FunFrames B (env::outer))(t:IJ s.heap B e cls)
  (k:∀h',bJ B outer e cls .none h'->s.heap.UpToSlots h'->Q () {s with heap:=h'}):wA M A (leaving env (.ref e)) Q E s:=by
 unfold leaving;refine wj (W_ hfr hf st fr t λh1 F1 s1=>bJ.land F1 λh2 F2 s2=>k h2 ⟨F2.st,F2.fr.2.2,F2.tr⟩ (s1.trans s2))
theorem bJ.leave(F:bJ B (env::outer) e cls .none s.heap)(hfr:A.frames=some (env::outer))(hf:env.frame=some L)
  (k:∀h',bJ B outer e cls .none h'->s.heap.UpToSlots h'->Q () {s with heap:=h'}):wA M A (leaving env (.ref e)) Q E s:=by
 unfold leaving;refine wj (F.note hfr hf λh1 F1 s1=>bJ.land F1 λh2 F2 s2=>k h2 ⟨F2.st,F2.fr.2.2,F2.tr⟩ (s1.trans s2))
end
theorem cF.there{P:wV}{w:wR}{H:Hp}{h:wK}{a:wd}{o:HO}(x:cF P w H h a o):∃u,h.get? a=some u:=by
 cases o with
 | lst xs=>obtain⟨_,_,_,_,e⟩:=x;exact⟨_,e⟩
 | tup xs=>obtain⟨_,_,_,_,e,_⟩:=x;exact⟨_,e⟩
 | dK kvs=>obtain⟨_,_,_,_,o,_,_,e,_⟩:=x;exact⟨_,e⟩
 | dT kvs=>obtain⟨_,_,_,_,o,_,_,e,_⟩:=x;exact⟨_,e⟩
 | set S n=>obtain⟨o,_,_,_,e,_⟩:=x;exact⟨_,e⟩
 | ins C dx fs=>obtain⟨_,_,_,e,_⟩:=x;exact⟨_,e⟩
 | own y=>exact x
 | xd fs=>obtain⟨_,⟨_,_,_,e,_⟩,_⟩:=x;exact⟨_,e⟩
 | sh lo hi=>obtain⟨_,_,_,e⟩:=x;exact⟨_,e⟩
 | ft ob u=>obtain⟨e,_⟩:=x;exact⟨_,e⟩
 | jJ ps=>exact⟨_,x⟩
 | met f y=>exact⟨_,x⟩
 | ext φ=>obtain⟨_,e,_⟩:=x;exact e
structure gP(B:wK)(fs:List wd)(H H':Hp)(h:wK):Prop where
 ff:∀a o,H' a=some o->∃u,B.get? a=some u
 old:∀b o,h.get? b=some o->H b=none->b ∉ fs->B.get? b=some o
 gO:∀b o,h.get? b=some o->b ∉ fs->∃u,B.get? b=some u
def bX(P:wV)(w:wR):dR:=λouter H s E e s'=>∃(ex:wd)(C:wg)(H':Hp)(B:wK),e=.ref ex/\s'.os=s.os/\VP s'.gens/\Un (bt outer) [] H H' s.heap s'.heap/\cc P w H' s'.heap /\
 bJ B outer ex C .none s'.heap/\gP B (bt outer) H H' s.heap/\E C none H'
section
variable{B h h1 h':wK}{fs:List wd}{H H':Hp}{P:wV}{w:wR}
theorem gP.un(ov:gP B fs H H' h)(un:Un fs [] H H' h h1)(hfs:∀b∈fs,H b=none /\ ∃o,h.get? b=some o /\ ∀vs,o.data≠.fields vs)(st:B.StaysIn h')(sm:h1.UpToSlots h'):Un fs [] H H' h h':=by
 have slot:∀b o,h.get? b=some o->b∈fs->∃sl,h'.get? b=some {o with slots:=sl}:=λb o e hb=>by
  obtain⟨n,o',ho',nr⟩:=hfs b hb;rw[e]at ho';cases ho';obtain⟨sl,e1⟩:=un.any e n (by simp);obtain⟨sl2,e2⟩:=sm b _ e1 nr;exact⟨sl2,e2⟩
 refine⟨λb o e n nf _=>st b o (ov.old b o e n nf),λb o e _ hb _=>slot b o e hb,un.free,λb o e _=>?_,un.eG,un.dW,un.eH⟩
 by_cases hb:b∈fs
 ·obtain⟨sl,e1⟩:=slot b o e hb
  exact⟨_,e1⟩
 ·obtain⟨u,e1⟩:=ov.gO b o e hb
  exact⟨u,st b u e1⟩
theorem gP.ar(ov:gP B fs H H' h)(ar:cc P w H' h1)(st1:B.StaysIn h1)(st:B.StaysIn h'):cc P w H' h':=λa o e=>by
 refine(ar a o e).gp (λb u hb r=>?_) (λ_ z=>z) λ_ _ z=>z
 have:∃v,B.get? b=some v:=by
  rcases hb with rfl | hb
  ·exact ov.ff _ _ e
  ·exact ov.ff _ _ hb
 obtain⟨v,ev⟩:=this;have e2:=st1 b v ev;rw[r]at e2;cases e2;exact st b u ev
end
section
variable{X:Cx}{pins:List (wd × Obj)}{σ : St}{H H':Hp}{s s':wo}{B:wK}{ex:wd}{C:wg}{E:XK}{E':wg->wo->Prop}
theorem G1(I:Inv X pins σ H s)(hx:X.ex=[])(os:s'.os=s.os)(bare:VP s'.gens)(un:Un (bt X.stack) [] H H' s.heap s'.heap)(ar:cc X.prog X.w H' s'.heap)(stB:B.StaysIn s'.heap)(ov:gP B (bt X.stack) H H' s.heap)
  (q:E C none H') (nj:∀(Q:Unit->wo->Prop),(∀h',bJ B X.outer ex C .none h'->s'.heap.UpToSlots h'->Q () {s' with heap:=h'})->wA (model X.prog X.w) X.A (leaving X.env (.ref ex)) Q E' s') :
  wA (model X.prog X.w) X.A (leaving X.env (.ref ex)) (λ_ s''=>bX X.prog X.w X.outer X.H₀ X.s₀ E (.ref ex) s'') E' s':=by
 have base:Un X.fs [] X.H₀ H X.s₀.heap s.heap:=by have:=I.base;rwa[hx]at this
 have nL:∀b o,X.s₀.heap.get? b=some o->b ∉ X.fs->b ∉ bt X.stack:=λb o e n z=>by
  rcases wO.mp (I.iN b z)with r | r
  ·exact wZ (ve (wH e) I.ok.above) r
  ·exact n r
 have old:∀b o,X.s₀.heap.get? b=some o->X.H₀ b=none->b ∉ X.fs->B.get? b=some o:=λb o e n nf =>
  ov.old b o (base.keep b o e n nf (by simp)) (base.free b o e n (by simp)) (nL b o e nf)
 have gO:∀b o,X.s₀.heap.get? b=some o->b ∉ X.fs->∃u,B.get? b=some u:=λb o e nf=>by
  obtain⟨o',e1⟩:=base.there b o e (by simp);exact ov.gO b o' e1 (nL b o e nf)
 refine nj _ λh' F sm=>⟨ex,C,H',B,rfl,os.trans I.os,bare,⟨λb o e n nf _=>F.st b o (old b o e n nf),λb o e n hb _=>?_,λb o e n _=>?_,λb o e _=>?_,λb xs e=>un.eG b xs (base.eG b xs e),
  λb o u e=>un.dW b o u (base.dW b o u e),λb ps e=>?_⟩,λa o e=>?_,F,⟨ov.ff,old,gO⟩,q⟩
 ·obtain⟨sl,e1⟩:=base.slot b o e n hb (by simp)
  obtain⟨sl',e2⟩:=un.any e1 (base.free b o e n (by simp)) (by simp);obtain⟨_,o',ho',nr⟩:=I.ok.dw.mem hb;rw[e]at ho';cases ho';obtain⟨sl2,e3⟩:=sm b _ e2 nr;exact⟨sl2,e3⟩
 ·obtain⟨o',e1⟩:=base.there b o e (by simp)
  exact un.free b o' e1 (base.free b o e n (by simp)) (by simp)
 ·by_cases hb:b∈X.fs
  ·obtain⟨_,o',ho',nr⟩:=I.ok.dw.mem hb
   rw[e]at ho';cases ho';have n:X.H₀ b=none:=I.ok.gD b hb;obtain⟨sl,e1⟩:=base.slot b o e n hb (by simp);obtain⟨sl',e2⟩:=un.any e1 (base.free b o e n (by simp)) (by simp);obtain⟨sl2,e3⟩:=sm b _ e2 nr;exact⟨_,e3⟩
  ·obtain⟨u,e1⟩:=gO b o e hb
   exact⟨u,F.st b u e1⟩
 ·obtain⟨m1,e1⟩:=base.eH b ps e
  obtain⟨m2,e2⟩:=un.eH b _ e1;exact⟨m1++m2,by rw[e2,Qo]⟩
 ·refine(ar a o e).gp (λb u hb r=>?_) (λ_ z=>z) λ_ _ z=>z
  have:∃v,B.get? b=some v:=by
   rcases hb with rfl | hb
   ·exact ov.ff _ _ e
   ·exact ov.ff _ _ hb
  obtain⟨v,ev⟩:=this;have e2:=stB b v ev;rw[r]at e2;cases e2;exact F.st b u ev
theorem OY{e:wg}(I:Inv X pins σ H s)(hx:X.ex=[])(hs:X.stack=X.env::X.outer)(hf:X.env.frame=some X.env.locals)(h:bX X.prog X.w X.stack H s E e s') :
  wA (model X.prog X.w) X.A (leaving X.env e) (λ_ s''=>bX X.prog X.w X.outer X.H₀ X.s₀ E e s'') E' s':=by
 obtain⟨ex,C,H',B,rfl,os,bare,un,ar,F,ov,q⟩:=h;rw[hs]at F;exact G1 I hx os bare un ar F.st ov q λQ k=>F.leave (I.ok.frames.trans (congrArg some hs)) hf k
theorem Tr{h':wK}{vs:List wg}(I:Inv X pins σ H s)(hx:X.ex=[])(hs:X.stack=X.env::X.outer)(hf:X.env.frame=some X.env.locals)(m:uw s.heap h' ex C vs)(q:E C none H) :
  wA (model X.prog X.w) X.A (leaving X.env (.ref ex)) (λ_ s''=>bX X.prog X.w X.outer X.H₀ X.s₀ E (.ref ex) s'') E' {s with heap:=h'}:=by
 obtain⟨B,hB⟩:∃B,B=Vh s.heap (bt X.stack):=⟨_,rfl⟩;have hin:∀env∈X.stack,∀b,env.frame=some b->b∈bt X.stack:=λenv he b hb=>VS.mpr ⟨env,he,hb⟩
 have frB:s.heap.FunFrames B X.stack:=by rw[hB];exact PySem.W.funFrames_hide I.stack hin
 have getB:∀{b o},s.heap.get? b=some o->b ∉ bt X.stack->B.get? b=some o:=λe n=>by rw[hB];exact Qe _ e n
 have ofB:∀{b o},B.get? b=some o->s.heap.get? b=some o:=λr=>by rw[hB]at r;exact VR _ r
 have nfr:∀a o,H a=some o->a ∉ bt X.stack:=λa o e z=>by
  have:=I.mh a z;rw[e]at this;cases this
 obtain⟨t,he,_,_⟩:=m.there
 refine G1 (B:=B) (s':={s with heap:=h'}) I hx rfl I.bare (Un.kept m.keeps) (I.ar.kept m.keeps) (λb o r=>m.keeps b o (ofB r))
  ⟨λa o e=>?_,λb o e _ nf=>getB e nf,λb o e nf=>⟨o,getB e nf⟩⟩ q λQ k=>?_
 ·obtain⟨u,e1⟩:=(I.ar a o e).there
  exact⟨u,getB e1 (nfr a o e)⟩
 ·rw[hs]at frB
  refine zpm (s:={s with heap:=h'}) (I.ok.frames.trans (congrArg some hs)) hf (λb o r=>m.keeps b o (ofB r)) (frB.of_keeps λb o hb _=>⟨o,m.keeps b o hb,rfl⟩) ⟨_,_,he,rfl,rfl,rfl,rfl,rfl,?_⟩ k;cases z:B.get? ex with
  | none=>rfl
  | some o =>
   have:=ofB z;rw[m.new]at this;cases this
end
theorem fF{P:wV}{w:wR}{K:wa}{mg:Str->Option wg}{base:wK}{N:List Str}{qual:Str}{scope:Scope}{f:wd}{cd:wg}{A:vm}{outer:List Env}{s:wo}{H:Hp}{E:XK} :
  jd (bX P w) (fM (bX P w) P w K mg base N qual scope f cd A outer s H E) E:=λpins σ H1 s1 e s' I h=>OY I rfl rfl rfl h
def Hq(X:Cx)(C:wg)(E:XK):Prop:=∀(pins:List (wd × Obj))(σ : St)(H:Hp)(s:wo)(h':wK)(ex:wd)(vs:List wg),Inv X pins σ H s->uw s.heap h' ex C vs->E C none H->X.xe (.ref ex) {s with heap:=h'}
theorem fB{P:wV}{w:wR}{K:wa}{mg:Str->Option wg}{base:wK}{N:List Str}{qual:Str}{scope:Scope}{f:wd}{cd C:wg}{A:vm}{outer:List Env}{s:wo}{H:Hp}{E:XK} :
  Hq (fM (bX P w) P w K mg base N qual scope f cd A outer s H E) C E:=λpins σ H1 s1 h' ex vs I m q=>Tr I rfl rfl rfl m q
def iX:List wg:=[.type "ValueError",.type "Exception",.type "BaseException",.type "object"]
theorem Rn{K:wa}{h:wK}{C:wd}{bmB:List wg}{newId:String}(X:K.In h)(q:WJ K C bmB newId=true) :
  ∃bm N nm qn bs hd sn sub ab col dd k0 k1 k2 k3 k5 mN,h.get? C=some (excClassObj nm qn C N bs bm hd sn sub ab col dd k0 k1 k2 k3 k5 newId)/\h.Ns N mN/\mN "__init__"=none/\OwnTail h bmB bm:=by
 unfold WJ at q
 split at q
 case h_2=>cases q
 rename_i dd cd sl ho
 split at q
 case h_2=>cases q
 rename_i C' bm k0 k1 k2 k3 n k5 hm hs;simp only[wD,beq_iff_eq,Vo]at q;obtain⟨⟨⟨⟨⟨rfl,rfl⟩,hdel⟩,ht⟩,ar⟩,hni⟩:=q;obtain⟨nm,bs,mro,ns,qn,hd,sn,sub,ab,col,del⟩:=cd;dsimp only at hm hdel ar hni;subst hm hdel
 have e:sl = #[k0,k1,k2,k3,some (.builtin n),k5]:=by
  cases sl;simp only at hs;rw[hs]
 subst e;exact⟨bm,ns,nm,qn,bs,hd,sn,sub,ab,col,dd,k0,k1,k2,k3,k5,_,X _ _ ho,.of_isNs (PySem.W.isNs_of_in X ar),PySem.W.nsMap_none_of_in X ar hni,PySem.W.tail_of_in X ht⟩
section
variable{X:Cx}{x:Str}{C:wd}{E:XK}{e:Expr}{es:List Expr}{t:TA}{np cpos pos:Pos}
def LJ(C:wg)(E:XK)(t:TA):TS:=λ_ σ H=>t σ H λvs H1=>vs.length<=wC/\E C none H1
theorem fm(q:WJ X.K C iX "ValueError.__new__"=true)(hc:X.calm=true)(hg:Gl X x)(hm:X.mg x=some (.ref C))(Z:Hq X (.ref C) E)(ha:PA X (e::es) t)(hdb:(x == ("__debug__" : Str))=false:=by decide)
  (he:w5 (e::es) X.env=(false,eval e X.env)::w5 es X.env:=by rfl) (hpl:(Vr cpos (w5 es X.env)).any (·.1)=false:=by rfl) :
  PS X (.Raise (some (.Call (.Name x np) (e::es) [] cpos)) none pos) (LJ (.ref C) E t):=by
 intro pins s σ H D I h;obtain⟨bm,N,nm,qn,bs,hd,sn,sub,ab,col,dd,k0,k1,k2,k3,k5,mN,hC,hN,hni,T⟩:=Rn I.ok.mod.mV q
 refine wpAny_Raise_call_subU (C:=C) (nm:=nm) (q:=qn) (N:=N) (bs:=bs) (bm:=bm) (hdct:=hd) (sn:=sn) (sub:=sub) (ab:=ab) (col:=col) (dd:=dd) (k0:=k0) (k1:=k1) (k2:=k2) (k3:=k3) (k5:=k5)
  xQ (by decide) xQ (mN:=mN) (T.hasType (by decide)) (I.ok.hd hc) (by rw[he];show(false || (Vr cpos (w5 es X.env)).any (·.1))=false;rw[hpl];rfl) hni (rL I hg hm ⟨rfl,?_⟩ hdb)
 have ha':=ha cpos pins s σ H _ I h;rw[he]at ha' ⊢;refine qc (vU ha' (λus s2 ⟨vs,H2,I2,r,z,q2⟩=>⟨rfl,by rw[<- r.length];exact z,I2.bk _ _ hC,hN.keeps I2.bk,T.keeps I2.bk,λh' ex m=>Z pins σ H2 s2 h' ex us I2 m q2⟩) λ_ _ y=>y)
end
abbrev Cx.at(X:Cx)(pn:List (wd × Obj))(E:wg->wo->Prop):Cx:={X with pn:=pn,xe:=E}
abbrev Cx.kB(X:Cx)(pn:List (wd × Obj))(ex:wd)(oe:Obj):Cx:={X with pn:=pn++[(ex,oe)],xe:=λ_ _=>False,A:=X.A.mark (some (.ref ex)),calm:=false}
section
variable{X:Cx}{pins pins':List (wd × Obj)}{σ : St}{H:Hp}{s:wo}{ex:wd}{oe:Obj}
theorem Inv.Fs(I:Inv X pins σ H s)(E:wg->wo->Prop):Inv (X.at (X.pn++pins) E) [] σ H s :=
 ⟨⟨I.ok.mod,I.ok.kind,I.ok.glob,I.ok.blt,I.ok.above,I.ok.inj,I.ok.has,I.ok.jF,I.ok.hd,I.ok.frames,I.ok.kx,I.ok.mD,I.ok.bs,I.ok.gG,I.ok.ju,I.ok.jW,I.ok.dw,I.ok.gD⟩,I.os,I.bare,I.base,I.loc,I.cell,I.free,I.eF,
  λp hp=>I.pin p (by rw[WC]at hp;exact hp),I.ar,I.len⟩
theorem Inv.jX{E:wg->wo->Prop}(I:Inv (X.at (X.pn++pins) E) pins' σ H s):Inv X pins σ H s :=
 ⟨⟨I.ok.mod,I.ok.kind,I.ok.glob,I.ok.blt,I.ok.above,I.ok.inj,I.ok.has,I.ok.jF,I.ok.hd,I.ok.frames,I.ok.kx,I.ok.mD,I.ok.bs,I.ok.gG,I.ok.ju,I.ok.jW,I.ok.dw,I.ok.gD⟩,I.os,I.bare,I.base,I.loc,I.cell,I.free,I.eF,
  λp hp=>I.pin p (Wl _ hp),I.ar,I.len⟩
theorem Inv.NV(I:Inv X pins σ H s)(he:s.heap.get? ex=some oe)(hn:H ex=none)(nl:ex≠X.env.locals)(nf:ex ∉ X.fs)(nc:∀v,oe.data≠.cell v):Inv (X.kB (X.pn++pins) ex oe) [] σ H s :=
 ⟨⟨I.ok.mod,I.ok.kind,I.ok.glob,I.ok.blt,I.ok.above,I.ok.inj,I.ok.has,I.ok.jF,λz=>Bool.noConfusion z,I.ok.frames,I.ok.kx,I.ok.mD,I.ok.bs,I.ok.gG,I.ok.ju,I.ok.jW,I.ok.dw,I.ok.gD⟩,I.os,I.bare,I.base,I.loc,I.cell,I.free,I.eF,
  λp hp=>by
   rw[WC]at hp;rcases Wf.mp hp with z | z
   ·exact I.pin p z
   ·cases vx.mp z
    exact⟨he,hn,nl,nf,nc⟩,I.ar,I.len⟩
theorem Inv.oE(ok:X.Ok)(I:Inv (X.kB (X.pn++pins) ex oe) pins' σ H s):Inv X pins σ H s :=
 ⟨ok,I.os,I.bare,I.base,I.loc,I.cell,I.free,I.eF,λp hp=>I.pin p (Wl _ (Wl _ hp)),I.ar,I.len⟩
theorem Inv.gone{M:Model}{A:vm}{E:wg->wo->Prop}{Q:Unit->wo->Prop}{i:Nat}{n:Str}{hp:Pos}(I:Inv X pins σ H s)(hN:X.N.Nodup)(hi:X.N[i]? = some n)(hl:X.env.scope.names.lookup n=some .local)
  (k:∀s',Inv X pins (σ.set i none) H s'->Q () s'):wA M A (do bindName X.env n .none;unbindBehindTheSuite X.env n hp) Q E s:=by
 obtain⟨m,hn,hl'⟩:=id I.loc;have hcls:(X.env.scope.kind == .class || (X.env.scope.kind == .module&&X.env.locals != X.env.globals))=false:=by rw[I.ok.kind];rfl
 have lt:∀b o,X.s₀.heap.get? b=some o->b≠X.env.locals:=λb o e=>wZ (ve (wH e) I.ok.above)
 refine wpAny_nameGoes_keeps hl hn hcls λh' v hn' hs=>k _ ⟨I.ok,I.os,I.bare,⟨λb o e z hb hx=>?_,λb o e z hb hx=>?_,I.base.free,λb o e hx=>?_,I.base.eG,I.base.dW,I.base.eH⟩,⟨_,hn',λj y v' e1 e2 e3=>?_⟩,λy c e=>?_,I.free,I.eF,λp hp=>?_,λb ob e=>?_,?_⟩
 ·exact(hs.2 b (lt b o e)).trans (I.base.keep b o e z hb hx)
 ·obtain⟨sl,e1⟩:=I.base.slot b o e z hb hx
  exact⟨sl,(hs.2 b (lt b o e)).trans e1⟩
 ·obtain⟨o',e1⟩:=I.base.there b o e hx
  exact⟨o',(hs.2 b (lt b o e)).trans e1⟩
 ·have hj:j≠i:=λz=>by
   subst z;rw[List.getElem?_set]at e2
   split at e2
   ·split at e2<;>cases e2
   ·exact absurd rfl ‹_›
  rw[qU (qi hj)]at e2;obtain⟨u',r',q⟩:=hl' j y v' e1 e2 e3;refine⟨u',r',?_⟩;rcases q with⟨k,e⟩ | ⟨k,c,e,z⟩
  ·refine .inl ⟨k,?_⟩
   have ne:y≠n:=λe=>hj (Bi hN e1 (e ▸ hi))
   simp[ne,e]
  ·exact .inr ⟨k,c,e,z.sameBut hs (I.ia y c e)⟩
 ·obtain⟨w',z⟩:=I.cell y c e
  exact⟨w',z.sameBut hs (I.ia y c e)⟩
 ·obtain⟨e,z,ne,nf,d⟩:=I.pin p hp
  exact⟨(hs.2 p.1 ne).trans e,z,ne,nf,d⟩
 ·refine(I.ar b ob e).gp (λc w' hc q=>(hs.2 c ?_).trans q) (λ_ q=>q) λ_ _ q=>q
  rintro rfl;have f:=I.free;rcases hc with hc | hc
  ·rw[hc,e]at f;cases f
  ·rw[hc]at f;cases f
 ·rw[xn];exact I.len
end
def Iu(CX:dR)(X:Cx)(W:St->XK):Prop:=∀(pins:List (wd × Obj))(σ : St)(H:Hp)(s:wo)(e:wg)(s':wo),Inv X pins σ H s->CX X.stack H s (W σ) e s'->X.xe e s'
section
variable{X:Cx}{CX:dR}{k:Nat}{f:wd}{fd:wS}{ps:List Str}{sp:Sp}{W:St->XK}{x:Str}{p pos:Pos}{e:Expr}{es:List Expr}{t:TA}
end
structure mF(C:wg)(oe:Obj):Prop where
 cls:oe.cls=C
 fld:∃vs,oe.data=.fields vs/\vs[2]? = some .none
 dict:oe.dict=none
section
variable{X:Cx}{x n:Str}{G:wg}{i:Nat}{b₀ : vq}{body suite:List vq}{np hpos pos:Pos}{tb:(St->XK)->TS}{th:wd->wg->TS}
end
structure Hd(X:Cx)(ex:wd)(C:wg)(oe:Obj):Prop where
 hd:X.A.handled=some (.ref ex)
 pn:(ex,oe)∈X.pn
 ob:mF C oe
section
variable{P:wV}{w:wR}{K:wa}{mg:Str->Option wg}{base:wK}
end
section
variable{X:Cx}{k:Nat}{f:wd}{fd:wS}{ps:List Str}{sp:wd->wg->Sp}{x:Str}{p pos:Pos}{e:Expr}{es:List Expr}{t:TA}{ex:wd}{C:wg}{oe:Obj}
end
def gg(cells:List (Str × wd)):List (Str × W0)->List (Str × wd)->List (Str × wd)
 | [],acc=>acc
 | (n,k)::r,acc=>gg cells r (if(k == NameKind.free)=true then(n,(cells.lookup n).getD 0)::acc else acc)
theorem zit{scope:Scope}{env:Env}(h:∀y∈scope.names,y.2=.free->∃c,env.cells.lookup y.1=some c):closureFor scope env=pure (gg env.cells scope.names []):=by
 unfold closureFor;generalize scope.names=names at h
 suffices g:∀(names:List (Str × W0))(acc:List (Str × wd)),(∀y∈names,y.2=.free->∃c,env.cells.lookup y.1=some c) ->
     (forIn names acc λ(x:Str × W0)(r:List (Str × wd))=>if(x.2 == NameKind.free)=true then do let c <- cellOf env x.1;pure (ForInStep.yield ((x.1,c)::r))else pure (ForInStep.yield r):Sem (List (Str × wd)))=pure (gg env.cells names acc) by
   have:=g names [] h
   show(_ >>= pure)=_
   rw[bind_pure];exact this
 intro names
 induction names with
 | nil=>intro acc _;rfl
 | cons y r ih =>
   intro acc hy;obtain⟨n,k⟩:=y;rw[xr]
   by_cases e:(k == NameKind.free)=true
   . obtain⟨c,hc⟩:=hy (n,k) vc (beq_iff_eq.mp e)
     have hcell:cellOf env n=pure c:=by
       unfold cellOf;rw[hc]
     simp only[e,if_true,hcell,pure_bind];rw[ih _ λz hz=>hy z (wI _ hz)]
     show _=pure (gg env.cells r _)
     simp only[e,if_true,hc,XZ]
   . simp only[e,pure_bind]
     rw[if_neg (by simp),pure_bind];dsimp only;rw[ih _ λz hz=>hy z (wI _ hz)]
     show _=pure (gg env.cells r _)
     rw[if_neg e]
theorem Jp{cells:List (Str × wd)} : ∀(names:List (Str × W0))(acc:List (Str × wd))(x:Str)(c:wd),(∀y∈names,y.2=.free->∃c,cells.lookup y.1=some c)->(∀x c,acc.lookup x=some c->cells.lookup x=some c) ->
  (gg cells names acc).lookup x=some c->cells.lookup x=some c
 | [],acc,x,c,_,ha,h=>ha x c h
 | (n,k)::r,acc,x,c,hy,ha,h=>by
  unfold gg at h;refine Jp r _ x c (λz hz=>hy z (wI _ hz)) (λx' c' h'=>?_) h
  split at h'
  ·rename_i e
   obtain⟨c0,hc0⟩:=hy (n,k) vc (beq_iff_eq.mp e);rw[qd]at h'
   split at h'
   ·rename_i e2
    rw[beq_iff_eq.mp e2,hc0];rw[hc0]at h';exact h'
   ·exact ha x' c' h'
  ·exact ha x' c' h'
theorem Kc{cells:List (Str × wd)} : ∀(names:List (Str × W0))(acc:List (Str × wd))(x:Str),(∃c,acc.lookup x=some c)->∃c,(gg cells names acc).lookup x=some c
 | [],acc,x,h=>h
 | (n,k)::r,acc,x,h=>by
  unfold gg;refine Kc r _ x ?_
  split
  ·rw[qd]
   split
   ·exact⟨_,rfl⟩
   ·exact h
  ·exact h
theorem Ma{cells:List (Str × wd)} : ∀(names:List (Str × W0))(acc:List (Str × wd))(x:Str),(x,NameKind.free)∈names->∃c,(gg cells names acc).lookup x=some c
 | [],acc,x,h=>nomatch h
 | (n,k)::r,acc,x,h=>by
  unfold gg;rcases wO.mp h with e | e
  ·cases e
   rw[if_pos (by decide)];refine Kc r _ _ ?_;rw[qd];simp
  ·exact Ma r _ x e
theorem Lv(g:Str->W0->W0):∀(names:List (Str × W0))(x:Str),(names.map λy=>(y.1,g y.1 y.2)).lookup x=(names.lookup x).map (g x)
 | [],x=>rfl
 | (n,k)::r,x=>by
  rw[wU,qd,qd];dsimp only
  by_cases e:(x == n)=true
  ·have e':=beq_iff_eq.mp e
   subst e';simp
  ·rw[Bool.not_eq_true]at e
   simp only[e];exact Lv g r x
def oP(env:Env)(x:Str)(k:W0):W0:=if(k == .free&&env.scope.kind == .function&&env.kindOf x == some .cell)=true then .cell else k
theorem Lo{scope:Scope}{env:Env}(x:Str):(relabel scope env).names.lookup x=(scope.names.lookup x).map (oP env x):=by
 rw[<- Lv]
 show(scope.names.map _).lookup x=_
 congr 2
 funext ⟨n,k⟩
 dsimp only[oP]
 split<;>rfl
def cw(inner outer:List (Str × W0))(N N':List Str)(src:List (Option Nat)):Bool :=
 (inner.all λy=>(y.2 != .cell)&&(y.2 != .local || inner.lookup y.1 == some .local)&&(y.2 != .free || outer.lookup y.1 == some .cell)) &&
 (N'.length == src.length)&&((N'.zip src).all λp=>match p.2 with
  | none=>true
  | some j=>N[j]? == some p.1&&outer.lookup p.1 == some .cell&&inner.lookup p.1 == some .free)
theorem bU.by{X:Cx}{N':List Str}{scope:Scope}{src:List (Option Nat)}(hk:scope.kind=.function)(hc:cw scope.names X.env.scope.names X.N N' src=true)(hf:∀x,X.env.scope.names.lookup x=some .cell->∃c,X.env.cells.lookup x=some c:=by exact λx h=>AB h) :
  bU X N' scope (gg X.env.cells scope.names []) src:=by
 unfold cw at hc;simp only[wD,wv,beq_iff_eq,qp,bne_iff_ne,ne_eq]at hc;obtain⟨⟨h1,h2⟩,h3⟩:=hc;have fr:∀y∈scope.names,y.2=.free->∃c,X.env.cells.lookup y.1=some c:=λy hy e=>hf _ (((h1 y hy).2).elim (λz=>absurd e z) id)
 have at3:∀(i:Nat)(x:Str)(j:Nat),N'[i]? = some x->src[i]? = some (some j)->X.N[j]? = some x/\X.env.scope.names.lookup x=some .cell/\scope.names.lookup x=some .free:=λi x j e1 e2=>by
  have m:(x,some j)∈N'.zip src:=by
   rw[xF];exact⟨i,by rw[List.getElem?_zip_eq_some];exact⟨e1,e2⟩⟩
  have:=h3 _ m;simp only[wD,beq_iff_eq]at this;exact⟨this.1.1,this.1.2,this.2⟩
 refine⟨hk,λy hy=>((h1 y hy).1).1,λy hy e=>(((h1 y hy).1).2).elim (λz=>absurd e z) id,⟨zit fr,λx c e=>Jp _ _ x c fr (λ_ _ z=>by simp at z) e,λx e=>?_⟩,⟨h2,λi j x e1 e2=>⟨(at3 i x j e1 e2).1,(at3 i x j e1 e2).2.1⟩⟩,λi x e1 e2=>?_⟩
 ·rw[Lo]at e
  cases q:scope.names.lookup x with
  | none=>rw[q]at e;simp at e
  | some k =>
   have hm:=Va q
   have hk:k=.free:=by
    rw[q]at e;simp only[ui,qG,oP]at e;have nc:k≠.cell:=((h1 _ hm).1).1;rcases e with e | e
    ·split at e
     ·rename_i z;simp only[wD,beq_iff_eq]at z;exact z.1.1
     ·exact absurd e nc
    ·split at e
     ·cases e
     ·exact e
   subst hk;exact Ma _ _ x hm
 ·obtain⟨o,ho⟩:∃o,src[i]? = some o:=by
   have:i<src.length:=by rw[<- h2];exact(wX.mp e1).1
   exact⟨src[i],by simp[this]⟩
  cases o with
  | none=>exact absurd ho e2
  | some j =>
   have:=(at3 i x j e1 ho).2.2;rw[Lo,this];simp only[ui,qG,oP]
   split
   ·exact .inl rfl
   ·exact .inr rfl
section
variable{prog:wV}{w:wR}{A:vm}{E:wg->wo->Prop}{s:wo}
end
section
variable{X:Cx}{ex:wd}{C:wg}{oe:Obj}{pins:List (wd × Obj)}{σ : St}{H:Hp}{s:wo}{pos:Pos}
variable{tg l:Expr}{tl:TE}
variable{N':List Str}{scope:Scope}{cl:List (Str × wd)}{src:List (Option Nat)}{elt tgt iter:Expr}{ifs:List Expr}{wi:TI}{g:TG}{tt:TT}{te:TE}
end
structure du(K:wa)(C:wd):Prop where
 ga:xG K (.ref C) "__getattribute__"=some (some (.builtin "BaseException.__getattribute__"))
 gh:xG K (.ref C) "__getattr__"=some none
 cl:(xV K C).isSome=true
 at_:xG K (.ref C) "__class__"=some (some (.builtin "object.__class__"))
 gt:PySem.W.specialIn K (.builtin "object.__class__") "__get__"=some (some (.builtin "getset_descriptor.__get__"))
 tk:PySem.W.takesIn K (.builtin "object.__class__")=some true
 mr:uN K C (.type "object")=some true
 be:uN K C (.type "BaseException")=some true
theorem R8{K:wa}{C:wd}(c:du K C):uj K C none "__class__"=some (.bind (.builtin "getset_descriptor.__get__") (.builtin "object.__class__")):=by
 obtain⟨cd,hc⟩:=VA.mp c.cl;unfold uj;rw[hc,VF,c.at_,VF];simp[c.gt,c.tk]
theorem PD{M:Model}{A:vm}{E:wg->wo->Prop}{s:wo}{x C:wd}{nm:wg}{Q:Unit->wo->Prop}(L0:QK M s.heap (typeOf (.ref x)) (.ref C))(L1:QK M s.heap (isSubtype (.ref C) (.type "BaseException")) true)
  (hq:Q () s):wA M A (checkBuiltinCall "BaseException.__getattribute__" ⟨[.ref x,nm],[]⟩) Q E s:=by
 have hk:builtinKind "BaseException.__getattribute__"=some .slot:=by decide +kernel
 have hp:splitId "BaseException.__getattribute__"=some ("BaseException","__getattribute__"):=by decide +kernel
 have ha:=F.args_bexc_ga (.ref x) nm;have LI:QK M s.heap (isInstance (.ref x) (.type "BaseException")) true:=L0.andThen L1;simp only[checkBuiltinCall,hk,hp];refine wj (LI.at ?_)
 repeat(first | exact hq | assumption | wp_step)
theorem zrP{prog:wV}{w:wR}{A:vm}{E:wg->wo->Prop}{s:wo}{K:wa}{x C:wd}{ox:Obj}{Q:Option wg->wo->Prop}(c:du K C)(X:K.In s.heap)(I:xH s.heap x ox C none)
  (k:Q (some (.ref C)) {s with toks:=s.toks+1}):wA (model prog w) A (getAttr? (.ref x) "__class__") Q E s:=by
 obtain⟨hh,g,d,t,os⟩:=s;have L0:=I.type (M:=model prog w);have L1:=xR (M:=model prog w) X c.ga;have L2:=xR (M:=model prog w) X c.gh;have L3:=PySem.W.looks_mroIn (M:=model prog w) X c.be;have LF:=PySem.W.looks_find (M:=model prog w) X I (R8 c);unfold getAttr? getAttrBy? getAttrBy;refine wj (wpAny_mkText (wj (wpAny_attempt (Wa (wj (L0.at (wj (L1.at ?_))))))))
 show wA _ _ (getAttrByItsOwn _ _ _ _ _ _) _ _ _
 unfold getAttrByItsOwn
 show wA _ _ (typeLookup (.ref C) "__getattr__" >>= _) _ _ _
 refine wj (L2.at ?_);refine wj (wpAny_attempt (Wa ?_))
 show wA _ _ (boundAndCalled _ _ _) _ _ _
 unfold boundAndCalled;rw[Qs.ga.bind];refine wj (wz ?_)
 show wA _ _ (call (.builtin "BaseException.__getattribute__") [.ref x,.str "__class__" t]) _ _ _
 refine wpAny_call (codeAny_call_builtin Qs.ga.plain F.entry_bexc_ga (PD L0 L3 ?_));unfold Builtin.«object.__getattribute__»;refine wj (wz ?_);refine wj (wz ?_);refine wj (L0.at (wj (LF.at ?_)))
 show wA _ _ (holding [_] (call (.builtin "getset_descriptor.__get__") [.builtin "object.__class__",.ref x,.ref C]) >>= ret) _ _ _
 refine wj (Wa (wpAny_call (PySem.W.class_get (ox:=ox) (od:=none) X I c.mr ?_)));exact wz (wz (wz k))
theorem A8{K:wa}{x C:wd}{ox:Obj}(c:du K C):PySem.W.KitX K (.ref x) (.ref C) (λh=>xH h x ox C none) where
 ty:=λ_ _ _ I=>I.type
 it:=λ_ _ X _=>by
  obtain⟨cd,hc⟩:=VA.mp c.cl;unfold xV at hc
  split at hc
  ·rename_i ho
   intro A' Q' E' s' k q;unfold isType loadHead;exact wj (wpAny_loadPart (k _ _ (X _ _ ho)) (wz q))
  ·cases hc
 ne:=λh tp dd its n sl X htp=>by
  obtain⟨cd,hc⟩:=VA.mp c.cl;refine Bool.eq_false_iff.mpr λq=>?_
  have e:C=tp:=Value.ref.inj (beq_iff_eq.mp q);subst e;unfold xV at hc
  split at hc
  ·rename_i ho
   have z:=(X _ _ ho).symm.trans htp;cases z
  ·cases hc
 ca:=λ{_ _ _ _ _ s} X I k=>zrP c X I k
def lZ(K:wa)(g:TG)(tt:TT)(te:TE)(src:List (Option Nat))(σ : St)(x:V)(H1:Hp)(Q:VK):Prop :=
 ∃a,x=.ref a/\(∃xs,aN K H1 a xs) /\ ∀D,H1 D=none->iV g tt te (iK K a) D (cJ src σ) (upd H1 D (.lst [])) (λH'=>Q (.ref D) H')
def lR(K:wa)(g:TG)(tt:TT)(te:TE)(src:List (Option Nat))(σ : St)(x:V)(H1:Hp)(Q:VK):Prop :=
 ∃a,x=.ref a/\(∃xs,aP K H1 a xs) /\ ∀D,H1 D=none->iV g tt te (rW K a) D (cJ src σ) (upd H1 D (.lst [])) (λH'=>Q (.ref D) H')
section
variable{K:wa}{g:TG}{tt:TT}{te ta:TE}{tA:TA}{src:List (Option Nat)}{σ : St}{H:Hp}{Q:VK}{a:wd}{xs:List V}{n:Int}
theorem R3(h:ta σ H λx H1=>lZ K g tt te src σ x H1 Q):jG src (Cn K ta) g tt te σ H Q:=h
theorem RO(h:ta σ H λx H1=>lR K g tt te src σ x H1 Q):jG src (GD K ta) g tt te σ H Q:=h
def nY(Pv:wd->Nat->List V->St->Hp->Prop)(D:wd)(i:Nat)(σ3:St)(y:V)(H5:Hp):Prop :=
 ∃ys,H5 D=some (.lst ys)/\ys.length<wC /\ ∃ys',Pv D (i+1) ys' σ3 (upd H5 D (.lst (ys++[y])))
def fR(Pv:wd->Nat->List V->St->Hp->Prop)(g:TG)(tt:TT)(te:TE)(D:wd)(i:Nat)(x:V)(σ':St)(H':Hp):Prop :=
 g x σ' H' λσ3 H3=>tt σ3 H3 λok H4=>if ok=true then te σ3 H4 λy H5=>nY Pv D i σ3 y H5 else ∃ys',Pv D (i+1) ys' σ3 H4
theorem m6{Pv:wd->Nat->List V->St->Hp->Prop}{D:wd}{i:Nat}{σ3:St}{y:V}{H5:Hp}{ys:List V}(h:H5 D=some (.lst ys))(z:ys.length<=1000)(q:∀H6,Exc D H5 H6->H6 D=some (.lst (ys++[y]))->Pv D (i+1) (ys++[y]) σ3 H6):nY Pv D i σ3 y H5 :=
 ⟨ys,h,lg z,_,q _ (Exc.upd D H5 _) cb⟩
theorem AG{J:It}{N:Nat}{D:wd}{σ0:St}{H0:Hp}{R:Hp->Prop}(Pv:wd->Nat->List V->St->Hp->Prop)(item:Nat->V->Prop)(h0:Pv D 0 [] σ0 H0)
  (stop:∀i ys σ' H',Pv D i ys σ' H'->N<=i->J.stop i H') (go:∀i ys σ' H',Pv D i ys σ' H'->i<N->J.go i H') (gj:∀i ys σ' H' x H2,Pv D i ys σ' H'->J.gj i H' x H2->H2=H'/\item i x)
  (hs:∀i x ys σ' H',i<N->item i x->Pv D i ys σ' H'->fR Pv g tt te D i x σ' H') (hd:∀ys σ' H',Pv D N ys σ' H'->R H'):iV g tt te J D σ0 H0 R:=by
 refine⟨λi m σ' H'=>i+m=N /\ ∃ys,Pv D i ys σ' H',⟨N,by lia,[],h0⟩,?_⟩;rintro i m σ' H' ⟨him,ys,hp⟩
 by_cases hm:m=0
 ·subst hm
  have e:i=N:=by lia
  subst e;exact .inl ⟨stop _ _ _ _ hp (wx _),hd _ _ _ hp⟩
 ·refine .inr ⟨go _ _ _ _ hp (by lia),λσ2 H2=>∃ys,Pv D (i+1) ys σ2 H2,λσ2 H2 h=>⟨m-1,by lia,by lia,h⟩,λx H2 hy2=>?_⟩
  obtain⟨e,hit⟩:=gj _ _ _ _ _ _ hp hy2;subst e;exact hs i x ys σ' H2 (by lia) hit hp
theorem pU(hx:aN K H a xs)(Pv:wd->Nat->List V->St->Hp->Prop)(h0:∀D H',H D=none->af H H'->H' D=some (.lst [])->Pv D 0 [] (cJ src σ) H')(hl:∀D i ys σ' H',Pv D i ys σ' H'->aN K H' a xs)
  (hs:∀D i x ys σ' H',xs[i]? = some x->Pv D i ys σ' H'->fR Pv g tt te D i x σ' H') (hd:∀D ys σ' H',Pv D xs.length ys σ' H'->Q (.ref D) H'):lZ K g tt te src σ (.ref a) H Q:=by
 refine⟨a,rfl,⟨xs,hx⟩,λD hD=>AG (N:=xs.length) Pv (λi x=>xs[i]? = some x) (h0 D _ hD (af.upd hD) cb) (λi ys σ' H' hp hi=>⟨xs,hl _ _ _ _ _ hp,hi⟩) (λi ys σ' H' hp hi=>?_) (λi ys σ' H' x H2 hp hy=>?_)
  (λi x ys σ' H' _ hit hp=>hs D i x ys σ' H' hit hp) (hd D)⟩
 ·exact⟨xs,xs[i],hl _ _ _ _ _ hp,by simp[hi]⟩
 ·obtain⟨e,hy⟩:=hy
  exact⟨e,hy xs (hl _ _ _ _ _ hp)⟩
theorem zpd(hx:aP K H a xs)(Pv:wd->Nat->List V->St->Hp->Prop)(h0:∀D H',H D=none->af H H'->H' D=some (.lst [])->Pv D 0 [] (cJ src σ) H')(hl:∀D i ys σ' H',Pv D i ys σ' H'->aP K H' a xs)
  (hs:∀D i x ys σ' H',xs[i]? = some x->Pv D i ys σ' H'->fR Pv g tt te D i x σ' H') (hd:∀D ys σ' H',Pv D xs.length ys σ' H'->Q (.ref D) H'):lR K g tt te src σ (.ref a) H Q:=by
 refine⟨a,rfl,⟨xs,hx⟩,λD hD=>AG (N:=xs.length) Pv (λi x=>xs[i]? = some x) (h0 D _ hD (af.upd hD) cb) (λi ys σ' H' hp hi=>⟨xs,hl _ _ _ _ _ hp,hi⟩) (λi ys σ' H' hp hi=>?_) (λi ys σ' H' x H2 hp hy=>?_)
  (λi x ys σ' H' _ hit hp=>hs D i x ys σ' H' hit hp) (hd D)⟩
 ·exact⟨xs,xs[i],hl _ _ _ _ _ hp,by simp[hi]⟩
 ·obtain⟨e,hy⟩:=hy
  exact⟨e,hy xs (hl _ _ _ _ _ hp)⟩
end
structure rM(u' u:TS):Prop where
 e:u'=u
theorem P_{t u:TS}{D:ck}{σ : St}{H:Hp}(h:∀u',rM u' u->t {D with nx:=u' D} σ H):kG t u D σ H:=h u ⟨rfl⟩
theorem rM.go{u' u:TS}{D:ck}{σ : St}{H:Hp}(e:rM u' u)(h:u D σ H):u' D σ H:=by rw[e.e];exact h
theorem OD:vR "ValueError"=some (.type "ValueError"):=by decide +kernel
theorem z8{P:wV}{w:wR}{X:Cx} : jd (bX P w) X E0:=λ_ _ _ _ _ _ _ h=>by
 obtain⟨_,_,_,_,_,_,_,_,_,_,_,q⟩:=h;exact q.elim
theorem jO.gR{P:wV}{w:wR}{K:wa}{mg:Str->Option wg}{base:wK}{x qual:Str}{st:vq}{f:wd}{fd:wS}{N ps:List Str}{k:Nat}{sp:Sp}(F:jO K x qual st f fd)(S:aT N ps (az st))(len:∀vs H Q E,sp vs H Q E->vs.length=ps.length)
  (hbody:∀(cdv:wg)(A:vm)(outer:List Env)(s:wo)(H:Hp)(vs:List V)(Q:VK)(E:XK),cO k (A.deeper (envOfC qual (az st) s.heap.objs.size f cdv))->sp vs H Q E ->
   ∃t,cV (fM (bX P w) P w K mg base N qual (az st) f cdv A outer s H E) (jM st) t/\t {nx:=λ_ H'=>Q .bM H',rt:=Q} (start N vs) H):aK P w K mg base (bX P w) (k+1) f fd ps sp:=by
 obtain⟨oc,od,kV,doc,pm,an,cdv,ct,osl,rfl,lk,hcd⟩:=F.ex;exact GO lk hcd S len λA outer s H vs Q E hr hsp=>hbody cdv A outer s H vs Q E hr hsp
theorem RU{X:Cx}{i j v:Int}{k1 k2:Nat}{p1 p2 pos:Pos}(hc:Jr i j)(hv:i^j.toNat=v):PE X (.BinOp (.Constant (.int i) k1 p1) .Pow (.Constant (.int j) k2 p2) pos) (tC (.int v)):=by
 subst hv;exact λpins s σ H Q I h=>(aw RT ak ak:PE X _ _) pins s σ H Q I ⟨i,j,rfl,rfl,hc,h⟩
theorem OX{α : Type}[DecidableEq α]{x : α}{A B:Prop}(h:B):if(!decide (x=x))=true then A else B:=by simpa using h
theorem RJ{α : Type}[DecidableEq α]{x : α}{A B:Prop}(h:A):if decide (x=x)=true then A else B:=by simpa using h
section
variable{K:wa}{σ : St}{H H':Hp}{Q:VK}{QB:Bool->Hp->Prop}{D:ck}{t:TA}{v w:V}{xs ys:List V}{m n:Int}{r:Rat}{p:wd}
theorem Yz{A B:Prop}(h:B):if(!true)=true then A else B:=by simpa using h
theorem R4{A B:Prop}(h:A):if(!false)=true then A else B:=by simpa using h
theorem BB(a b:Int):Wm (.int a) (.int b)=decide (a=b):=by rw[Wm,qT]
end
def R(a b:Rat):wu:=.tuple [N a,N b]
structure gM(a b:Rat):Prop where
 a0:0<a
 a4:a<=4
 ad:a.den<=8
 b0:0<=b
 b1:b<=1
 bd:b.den<=12
 ab:1<=a+b
theorem gM.ba{a b:Rat}(h:gM a b):aM 10 a:=aM.small (c:=4) (d:=8) (Rat.le_of_lt h.a0) h.a4 h.ad (by decide) (by decide)
theorem gM.bb{a b:Rat}(h:gM a b):aM 10 b:=aM.small (c:=1) (d:=12) h.b0 h.b1 h.bd (by decide) (by decide)
section
variable{K:wa}{H:Hp}{Q:VK}{v:V}{a b:Rat}{σ : St}{gs:iY}{QS:St->Hp->Prop}
theorem Yk(h:Is K H v (R a b))(q:∀x,Is K H x (N a)->Q x H):dk K v (.int 0) H Q:=dC (j:=0) h rfl q
theorem Zk(h:Is K H v (R a b))(q:∀x,Is K H x (N b)->Q x H):dk K v (.int 1) H Q:=dC (j:=1) h rfl q
end
section
variable{K:wa}{H H' H2:Hp}{Q:VK}{v w:V}{a b c d:Rat}{D:wd}
theorem Yc(h:Is K H v (R a b))(q:Q (.bl true) H):dJ K [v,.ty "tuple"] H Q:=Kn h q
theorem zuy(h:Is K H v (R a b))(q:Q (.int 2) H):a_ K [v] H Q:=kh h q
theorem af.grow(s:af H H')(n:H D=none)(e:Exc D H' H2):af H H2:=λb o h=>e b o (gN h n) (s b o h)
end
theorem Ki{σ : St}{H:Hp}{Q:Bool->Hp->Prop}(q:Q true H):kH σ H Q:=q
theorem pH{Pv:wd->Nat->List V->St->Hp->Prop}{g:TG}{tt:TT}{te:TE}{D:wd}{i:Nat}{x:V}{σ':St}{H':Hp}(h:g x σ' H' λσ3 H3=>tt σ3 H3 λok H4=>if ok=true then te σ3 H4 λy H5=>nY Pv D i σ3 y H5 else ∃ys',Pv D (i+1) ys' σ3 H4) :
  fR Pv g tt te D i x σ' H':=h
section
variable{K:wa}{σ : St}{H:Hp}{Q:VK}{E:XK}{D:ck}{t:TA}{C G:wg}{i:Nat}{tb:(St->XK)->TS}{th:wd->wg->TS}{sp:Sp}{W:St->XK}{ex C':wd}{b:Bool}
theorem ztd(h:t σ H λvs H1=>vs.length<=wC/\E C none H1):LJ C E t D σ H:=h
end
theorem d4(s:String):vJ (VD s)=true:=by
 rw[V0,vJ];simp only[List.all_toArray,vW,wv,Function.comp,decide_eq_true_eq];intro c _;have:=c.valid;simp only[Char.toNat];rcases this with h | h
 ·have:c.val.toNat<0xd800:=h
  lia
 ·exact h.2
theorem Az{K:wa}{H:Hp}{c:wd}{p q:Int}(r:Rat)(h:aP K H c [.int p,.int q])(e1:r.num=p)(e2:(r.den:Int)=q):Is K H (.ref c) (N r):=by
 subst e1 e2;exact bV.mpr ⟨c,_,rfl,h,dZ.mpr ⟨_,_,rfl,bR.mpr rfl,dZ.mpr ⟨_,_,rfl,bR.mpr rfl,gy.mpr rfl⟩⟩⟩
theorem aj{c:Const}{k:Nat}{p:Pos}{es:List Expr}{env:Env} : w5 ((.Constant c k p)::es) env=(false,eval (.Constant c k p) env)::w5 es env:=rfl
theorem cZ{xs:List Expr}{k:Nat}{p:Pos}{es:List Expr}{env:Env} : w5 ((.Tuple xs k p)::es) env=(false,eval (.Tuple xs k p) env)::w5 es env:=rfl
theorem lV{xs:List Expr}{p:Pos}{es:List Expr}{env:Env} : w5 ((.List xs p)::es) env=(false,eval (.List xs p) env)::w5 es env:=rfl
theorem Tj{o:UnaryOp}{x:Expr}{p:Pos}{es:List Expr}{env:Env} : w5 ((.UnaryOp o x p)::es) env=(false,eval (.UnaryOp o x p) env)::w5 es env:=rfl
theorem cS{o:Operator}{x y:Expr}{p:Pos}{es:List Expr}{env:Env} : w5 ((.BinOp x o y p)::es) env=(false,eval (.BinOp x o y p) env)::w5 es env:=rfl
theorem fY{x:Str}{p:Pos}{es:List Expr}{env:Env} : w5 ((.Name x p)::es) env=(false,eval (.Name x p) env)::w5 es env:=rfl
theorem zr{x y:Expr}{p:Pos}{es:List Expr}{env:Env} : w5 ((.Subscript x y p)::es) env=(false,eval (.Subscript x y p) env)::w5 es env:=rfl
theorem Rt:vR "sorted"=some (.builtin "sorted"):=by decide +kernel
section
variable{K:wa}{H H' H2:Hp}{Q:VK}{R:Prop}{v w y:V}{p l:wd}{xs ys zs:List V}{ns:List Int}{m:Int}{σ : St}
end
def FN(K:wa):V->List V->Hp->VK->Prop:=λx vs H Q=>∃(l:wd)(bs:List Bool)(j:Nat),x=.ref l/\vs=[.bl true]/\aN K H l (bs.map V.bl)/\bs.length<=1000/\bs[j]? = some true/\(∀m,m<j->bs[m]? = some false)/\Q (.int (j:Int)) H
theorem Bo:∀{bs:List Bool}{us:List wg},aC (bs.map V.bl) us->us=bs.map Value.bool
 | [],_,r=>by cases r;rfl
 | b::bs,_,r=>by
  rw[wU]at r;cases r with
  | cons r1 r2=>rw[Bo r2,wU,show _=Value.bool b from r1]
theorem Ro{X:Cx} : b_ X "list.index" (FN X.K):=by
 intro pins s σ H x vs v us Q I rx rv h;obtain⟨l,bs,j,rfl,rfl,hq,hn,hj,hm,q⟩:=h;cases rx;obtain⟨u,rfl,ru⟩:=rv.one;cases (show u=Value.bool true from ru);obtain⟨its,r,pl,hz⟩:=I.list hq;have hits:=Bo r;subst hits;obtain⟨⟨cls,dd,data,sl⟩,ho,hc,n,hd⟩:=id pl.isList;simp only at hc hd;subst hc hd
 have hjl:j<bs.length:=by
  rcases w9 j bs.length with z | z
  ·exact z
  ·rw[Wh z]at hj;cases hj
 have fs:(bs.map V.bl).all ke=true:=by
  rw[wv];intro y hy;obtain⟨b,_,rfl⟩:=vg.mp hy
  rfl
 refine VX xh ⟨_,ho,rfl⟩ PySem.F.entry_list_index (PySem.F.args_list_index_2 _ _)
  (SeqAt.list_indexAt l (bs.map Value.bool).toArray n dd sl (.bool true) (nq (.bl true)) j (by simpa using hjl) (by lia) ?_ ?_) ⟨ho,λy hy=>AQ (x:=.bl true) rfl rfl r fs y (by simpa using hy),⟨.int (j:Int),H,I.tok _,⟨_,rfl⟩,q⟩⟩
 ·have e:bs[j]=true:=by rw[wb hjl]at hj;exact vo hj
  simp only[xS,vt,e]
  rfl
 ·intro i hi hlt
  have hi':i<bs.length:=by lia
  have e:bs[i]=false:=by
   have:=hm i hlt;rw[wb hi']at this;exact vo this
  simp only[xS,vt,e]
  rfl
section
variable{K:wa}{H H' H2:Hp}{Q:VK}{R:Prop}{v w y:V}{p l:wd}{xs ys zs:List V}{ns:List Int}{m:Int}{σ : St}{to:TE}{t:TA}{T:String}{r:V->List V->Hp->VK->Prop}
theorem YB(h:to σ H λx H1=>kD K T x H1/\t σ H1 λxs H2=>r x xs H2 Q):yy K T r to t σ H Q:=h
theorem zc(h:aN K H p xs)(q:R):kD K "list" (.ref p) H/\R:=⟨.inl ⟨rfl,xs,h⟩,q⟩
theorem oQ{bs:List Bool}(j:Nat)(h:aN K H p (bs.map V.bl))(hn:bs.length<=1000)(hj:bs[j]? = some true)(hm:∀m,m<j->bs[m]? = some false)(q:Q (.int (j:Int)) H):FN K (.ref p) [.bl true] H Q:=⟨p,bs,j,rfl,rfl,h,hn,hj,hm,q⟩
theorem T_(h:H l=some (.lst xs))(z:xs.length<=1000)(q:∀H',Exc l H H'->H' l=some (.lst (xs++[y]))->Q .bM H'):FV (.ref l) [y] H Q:=⟨l,xs,y,rfl,rfl,h,lg z,q _ (Exc.upd l H _) cb⟩
end
def dS(K:wa):List V->Hp->VK->Prop:=λxs H Q=>∃p ys,xs=[.ref p]/\((aN K H p ys /\ ∀l,H l=none->Q (.ref l) (upd H l (.tup ys)))\/(aP K H p ys/\Q (.ref p) H))
theorem ic{X:Cx} : ao X (.type "tuple") (dS X.K):=zkM
def jn(K:wa):V->Option Int->Option Int->Hp->VK->Prop:=λx lo hi H Q=>HD K x lo hi H Q\/IG K x lo hi H Q
theorem bB{X:Cx} : fD X (jn X.K):=TK.or YM
section
variable{K:wa}{H H' H2:Hp}{Q:VK}{QO:Option Int->Hp->Prop}{R:Prop}{v w y:V}{p l:wd}{xs ys zs:List V}{ds es:List wu}{m:Int}{σ : St}{te:TE}{tl th:TO}{r:V->Option Int->Option Int->Hp->VK->Prop}{lo hi:Option Int}
theorem rH(h:aN K H p ys)(q:∀l H',H l=none->af H H'->H' l=some (.tup ys)->Q (.ref l) H'):dS K [.ref p] H Q:=⟨p,ys,rfl,.inl ⟨h,λl hl=>q l _ hl (af.upd hl) cb⟩⟩
theorem nN(h:Is K H v (.list ds))(q:∀w H',af H H'->Is K H' w (.tuple ds)->Q w H'):dS K [v] H Q:=by
 obtain⟨a,xs,rfl,hs,t⟩:=bO.mp h;exact rH hs λl H' _ s e=>q _ H' s (bV.mpr ⟨l,xs,rfl,.of e,ay.same s ds xs t⟩)
theorem BD(h:Is K H v (.tuple ds))(q:Q v H):dS K [v] H Q:=by
 obtain⟨a,xs,rfl,hs,t⟩:=bV.mp h;exact⟨a,xs,rfl,.inr ⟨hs,q⟩⟩
theorem R_(h:te σ H λx H1=>tl σ H1 λl H2=>th σ H2 λu H3=>r x l u H3 Q):Cj r te tl th σ H Q:=h
theorem Ur(q:QO none H):B8 σ H QO:=q
theorem zvL(h:te σ H λx H1=>∃i,x=.int i/\QO (some i) H1):AJ te σ H QO:=h
theorem Y6{RI:Int->Prop}(q:RI m):∃i,V.int m=V.int i/\RI i:=⟨m,rfl,q⟩
def cutD{α : Type}(xs:List α)(lo hi:Option Int):List α:=(xs.drop (HT.aE xs.length 0 lo)).take (HT.aE xs.length xs.length hi-HT.aE xs.length 0 lo)
theorem ay.take:∀{ds:List wu}{xs:List V}(n:Nat),ay K H xs ds->ay K H (xs.take n) (ds.take n)
 | _,_,0,h=>by simp[ay.nil]
 | [],_,n+1,h=>by rw[gy.mp h];simp[ay.nil]
 | d::ds,_,n+1,h=>by
  obtain⟨x,r,rfl,q,t⟩:=dZ.mp h;rw[x5,x5];exact .cons q (ay.take n t)
theorem ay.drop:∀{ds:List wu}{xs:List V}(n:Nat),ay K H xs ds->ay K H (xs.drop n) (ds.drop n)
 | _,_,0,h=>by simpa using h
 | [],_,n+1,h=>by rw[gy.mp h];simp[ay.nil]
 | d::ds,_,n+1,h=>by
  obtain⟨x,r,rfl,q,t⟩:=dZ.mp h;rw[Qf,Qf];exact ay.drop n t
theorem ay.cut(h:ay K H xs ds):ay K H (d6 xs lo hi) (cutD ds lo hi):=by
 unfold d6 cutD;rw[h.length];exact(h.drop _).take _
theorem iu(h:aN K H p xs)(q:∀l H',H l=none->af H H'->H' l=some (.lst (d6 xs lo hi))->Q (.ref l) H'):jn K (.ref p) lo hi H Q:=.inl ⟨p,xs,rfl,h,λl hl=>q l _ hl (af.upd hl) cb⟩
theorem GU(h:Is K H v (.list ds))(q:∀l H' ys,H l=none->af H H'->H' l=some (.lst ys)->ay K H' ys (cutD ds lo hi)->Q (.ref l) H'):jn K v lo hi H Q:=by
 obtain⟨a,xs,rfl,hs,t⟩:=bO.mp h;exact iu hs λl H' hl s e=>q l H' _ hl s e (ay.same s _ _ t.cut)
theorem I_(h:Is K H v (.tuple ds))(hw:¬ (HT.aE ds.length 0 lo=0/\HT.aE ds.length ds.length hi=ds.length))(q:∀w H',af H H'->Is K H' w (.tuple (cutD ds lo hi))->Q w H'):jn K v lo hi H Q:=by
 obtain⟨a,xs,rfl,hs,t⟩:=bV.mp h;refine .inr ⟨a,xs,rfl,hs,by rw[t.length];exact hw,λl hl=>q _ _ (af.upd hl) (bV.mpr ⟨l,_,rfl,.of cb,ay.same (af.upd hl) _ _ t.cut⟩)⟩
theorem FY{α : Type}(xs:List α):cutD xs none (some (-1))=xs.dropLast:=by
 unfold cutD
 show(xs.drop 0).take (((-1:Int)+(xs.length:Int)).toNat-0)=_
 rw[uz,List.dropLast_eq_take]
 congr 1
 lia
theorem AY{α : Type}(xs:List α):cutD xs (some 1) none=xs.tail:=by
 unfold cutD
 show(xs.drop (min 1 xs.length)).take (xs.length-min 1 xs.length)=_
 cases xs with
 | nil=>rfl
 | cons x xs =>
  have e:min 1 (x::xs).length=1:=by rw[wW];lia
  rw[e,Qf,uz,wW,Qt,Q5,Qi]
end
def TN(xs:List Rat):wu:=.tuple (xs.map N)
def LN(xs:List Rat):wu:=.list (xs.map N)
theorem JC:∀xs:List Rat,cE (xs.map N)=true
 | []=>by simp[cE]
 | x::xs=>by rw[wU,cE,yW,JC xs];rfl
theorem zxT(xs:List Rat):eL (TN xs)=true:=by rw[TN,eL];exact JC xs
section
variable{K:wa}{H H' H2:Hp}{Q:VK}{v w y:V}{p l:wd}{vs:List V}{xs ys:List Rat}{m:Int}{σ : St}
theorem Ko{i:Nat}(t:ay K H vs (xs.map N))(h:i<xs.length):∃x,vs[i]? = some x/\Is K H x (N (xs.getD i 0)):=by
 refine t.get ?_;rw[wB,wf,wb h]
 rfl
theorem Pr{i:Nat}{x:V}(t:ay K H vs (xs.map N))(h:vs[i]? = some x):i<xs.length/\Is K H x (N (xs.getD i 0)):=by
 have hl:=t.length;rw[wm]at hl
 have hi:i<xs.length:=by
  rcases w9 i vs.length with z | z
  ·lia
  ·rw[Wh z]at h;cases h
 obtain⟨x',e,hx⟩:=Ko t hi;rw[h]at e;cases e;exact⟨hi,hx⟩
theorem zvl(h:Is K H v (TN xs))(h0:0<=m)(h1:m<xs.length)(q:∀x,Is K H x (N (xs.getD m.toNat 0))->Q x H):dk K v (.int m) H Q:=by
 obtain⟨a,vs,rfl,hs,t⟩:=bV.mp h;obtain⟨n,rfl⟩:∃n:Nat,m=(n:Int):=⟨m.toNat,by lia⟩;obtain⟨x,e,hx⟩:=Ko (i:=n) t (by lia);exact gX hs (cP e) (q x hx)
theorem KU(h:Is K H v (TN xs))(q:Q (.int xs.length) H):a_ K [v] H Q:=kh h (by rw[wm];exact q)
theorem HN:∀{xs:List Rat}{vs:List V},vs.length=xs.length->(∀i x,vs[i]? = some x->Is K H x (N (xs.getD i 0)))->ay K H vs (xs.map N)
 | [],vs,hl,_=>by
  have:vs=[]:=V3 hl;subst this;exact .nil
 | x::xs,[],hl,_=>by cases hl
 | x::xs,u::vs,hl,h=>by
  rw[wU];exact .cons (h 0 u rfl) (HN (by simpa using hl) λi y e=>h (i+1) y e)
end
section
variable{K:wa}{g:TG}{tt:TT}{te:TE}{src:List (Option Nat)}{σ : St}{H:Hp}{Q:VK}{a:wd}{vs:List V}{n:Int}{tl:St}{o0:Option V}
def e_(H:Hp)(tl:St)(Rel:Nat->V->Hp->Prop)(D:wd)(i:Nat)(ys:List V)(σ':St)(H':Hp):Prop :=
 (∃o,σ'=o::tl)/\H D=none/\af H H'/\H' D=some (.lst ys)/\ys.length=i /\ ∀j y,ys[j]? = some y->Rel j y H'
theorem e_.same{Rel:Nat->V->Hp->Prop}{D:wd}{i:Nat}{ys:List V}{σ':St}{H':Hp}(h:e_ H tl Rel D i ys σ' H'):af H H':=h.2.2.1
theorem dE{Rel:Nat->V->Hp->Prop}{D:wd}{i:Nat}{ys:List V}{σ' σ3:St}{H1 H5:Hp}{y:V}(inv:e_ H tl Rel D i ys σ' H1)(hi:i<=1000)(hk:∀i v H1 H2,aU H1 H2->Rel i v H1->Rel i v H2)(hσ : ∃o,σ3=o::tl)(s:af H1 H5)(r:Rel i y H5):nY (e_ H tl Rel) D i σ3 y H5:=by
 obtain⟨_,hn,s1,hD,hl,hr⟩:=inv;have hD5:=s _ _ hD;refine m6 hD5 (by lia) λH6 E6 e6=>⟨hσ,hn,(s1.trans s).grow hn E6,e6,by simp[hl],λj z hz=>?_⟩
 have k6:aU H5 H6:=E6.keep hD5;rcases w9 j ys.length with hj | hj
 ·rw[Wr hj]at hz
  exact hk _ _ _ _ (s.keep.trans k6) (hr j z hz)
 ·have hj':j=ys.length:=by
   rcases w9 ys.length j with q | q
   ·rw[Wh (by simp;lia)]at hz;cases hz
   ·lia
  subst hj';rw[Wk (wx _),qW]at hz;cases hz;rw[hl];exact hk _ _ _ _ k6 r
theorem fu(hx:aN K H a vs)(hsrc:cJ src σ = o0::tl)(Rel:Nat->V->Hp->Prop)(hs:∀D i x ys o H1,vs[i]? = some x->e_ H tl Rel D i ys (o::tl) H1->fR (e_ H tl Rel) g tt te D i x (o::tl) H1)
  (hd:∀D ys H',H D=none->af H H'->H' D=some (.lst ys)->ys.length=vs.length->(∀j y,ys[j]? = some y->Rel j y H')->Q (.ref D) H'):lZ K g tt te src σ (.ref a) H Q:=by
 refine pU hx (e_ H tl Rel) (λD H' n s e=>⟨⟨o0,hsrc⟩,n,s,e,rfl,λj y z=>by simp at z⟩) (λD i ys σ' H' h=>h.same.seq hx) ?_ λD ys σ' H' ⟨_,n,s,e,hl,r⟩=>hd D ys H' n s e hl r
 rintro D i x ys σ' H' hx' h;obtain⟨⟨o,rfl⟩,_⟩:=id h;exact hs D i x ys o H' hx' h
theorem oZ(hx:aP K H a vs)(hsrc:cJ src σ = o0::tl)(Rel:Nat->V->Hp->Prop)(hs:∀D i x ys o H1,vs[i]? = some x->e_ H tl Rel D i ys (o::tl) H1->fR (e_ H tl Rel) g tt te D i x (o::tl) H1)
  (hd:∀D ys H',H D=none->af H H'->H' D=some (.lst ys)->ys.length=vs.length->(∀j y,ys[j]? = some y->Rel j y H')->Q (.ref D) H'):lR K g tt te src σ (.ref a) H Q:=by
 refine zpd hx (e_ H tl Rel) (λD H' n s e=>⟨⟨o0,hsrc⟩,n,s,e,rfl,λj y z=>by simp at z⟩) (λD i ys σ' H' h=>h.same.j3 hx) ?_ λD ys σ' H' ⟨_,n,s,e,hl,r⟩=>hd D ys H' n s e hl r
 rintro D i x ys σ' H' hx' h;obtain⟨⟨o,rfl⟩,_⟩:=id h;exact hs D i x ys o H' hx' h
end
def TZ(ns:List Int):wu:=.tuple (ns.map PyData.int)
theorem Im:∀ns:List Int,cE (ns.map PyData.int)=true
 | []=>by simp[cE]
 | n::ns=>by rw[wU,cE,Im ns];rfl
theorem oX(ns:List Int):eL (TZ ns)=true:=by rw[TZ,eL];exact Im ns
section
variable{K:wa}{H H' H2:Hp}{Q:VK}{v w y:V}{p l:wd}{vs:List V}{ns:List Int}{rss:List (List Rat)}{m:Int}{σ : St}
theorem rJ:∀{ns:List Int}{vs:List V},ay K H vs (ns.map PyData.int) ↔ vs=ns.map V.int
 | [],vs=>by rw[WG,gy];rfl
 | n::ns,vs=>by
  rw[wU,dZ,wU]
  constructor
  ·rintro ⟨x,r,rfl,h,t⟩
   rw[bR.mp h,rJ.mp t]
  ·rintro rfl
   exact⟨_,_,rfl,bR.mpr rfl,rJ.mpr rfl⟩
theorem jI:Is K H v (TZ ns) ↔ ∃a,v=.ref a/\aP K H a (ns.map V.int):=by
 unfold TZ;rw[bV]
 constructor
 ·rintro ⟨a,xs,e,h,t⟩
  rw[rJ.mp t]at h;exact⟨a,e,h⟩
 ·rintro ⟨a,e,h⟩
  exact⟨a,_,e,h,rJ.mpr rfl⟩
theorem Is.Fp(h:Is K H v (TZ ns))(s:aU H H'):Is K H' v (TZ ns):=Is.keep s _ v (oX ns) h
theorem Pu(h:Is K H v (TZ ns))(h0:0<=m)(h1:m<ns.length)(q:Q (.int (ns.getD m.toNat 0)) H):dk K v (.int m) H Q:=by
 obtain⟨a,rfl,hs⟩:=jI.mp h;obtain⟨n,rfl⟩:∃n:Nat,m=(n:Int):=⟨m.toNat,by lia⟩;refine gX hs (cP (j:=n) (v:=.int (ns.getD n 0)) ?_) q;rw[wB,wf,wb (by lia)]
 rfl
theorem Rb{α : Type}{xs:List α}{x : α}(h:xs[xs.length-1]? = some x):eC xs (-1)=some x:=by
 have hl:0<xs.length:=by
  cases xs with
  | nil=>cases h
  | cons _ _=>simp
 unfold eC gJ;rw[if_neg (by lia),if_pos (by lia)]
 show xs[((-1:Int)+(xs.length:Int)).toNat]? = some x
 rw[show((-1:Int)+(xs.length:Int)).toNat=xs.length-1 by lia];exact h
end
def Ca(K:wa):R2:=λx y H Q=>Mh K x y H Q \/ ∃a b ys,x=.ref a/\y=.ref b/\aP K H a []/\aP K H b ys/\Q (.ref b) H
theorem zu4{X:Cx} : ax X (vT .Add) (Ca X.K):=by
 intro pins s σ H x y v u Q I rx ry h;rcases h with h | ⟨a,b,ys,rfl,rfl,ha,hb,q⟩
 ·exact zvZ pins s σ H x y v u Q I rx ry h
 ·cases rx
  cases ry;obtain⟨its,r1,p1,_⟩:=I.tuple ha;cases r1;obtain⟨its2,r2,p2,_⟩:=I.tuple hb;obtain⟨⟨cls,dd,data,sl⟩,ho,hc,n,hd⟩:=id p1;obtain⟨⟨cls2,dd2,data2,sl2⟩,ho2,hc2,n2,hd2⟩:=id p2;simp only at hc hd hc2 hd2;subst hc hd hc2 hd2;exact concat_meets ⟨_,ho,rfl⟩ ⟨_,ho2,rfl⟩ noFill_tuple_add seq_tuple_add qJ qD (qs _ _) (tuple_addW0 a b _ its2.toArray n n2 dd dd2 sl sl2 rfl) ⟨ho,ho2,⟨.ref b,H,I,rfl,q⟩⟩
theorem JA{K:wa}{H:Hp}{Q:VK}{v w:V}{ds es:List wu}(h1:Is K H v (.tuple ds))(h2:Is K H w (.tuple es))(z:ds.length+es.length<=1000)(q:∀u H',af H H'->Is K H' u (.tuple (ds++es))->Q u H'):Ca K v w H Q:=by
 obtain⟨a,xs,rfl,ha,ta⟩:=bV.mp h1;obtain⟨b,ys,rfl,hb,tb⟩:=bV.mp h2;have la:=ta.length;have lb:=tb.length;cases xs with
 | nil =>
  obtain rfl:ds=[]:=V3 (by simpa using la.symm);exact .inr ⟨a,b,ys,rfl,rfl,ha,hb,q _ H (af.refl _) h2⟩
 | cons x xs =>
  refine .inl ⟨a,b,x::xs,ys,rfl,rfl,ha,hb,by simp,qr (lg (by lia)),λhy=>?_,λhy p hp=>?_⟩
  ·obtain rfl:es=[]:=V3 (by rw[hy]at lb;simpa using lb.symm)
   exact q _ H (af.refl _) (by rw[WC];exact h1)
  ·exact q _ _ (af.upd hp) (bV.mpr ⟨p,_,rfl,.of cb,(ay.same (af.upd hp) _ _ ta).append (ay.same (af.upd hp) _ _ tb)⟩)
theorem Inv.Fd{X:Cx}{pins:List (wd × Obj)}{σ : St}{H:Hp}{s:wo}{h':wK}{t':Nat}{ch:List wd}(I:Inv X pins σ H s)(k:∀b o,b ∉ ch->s.heap.get? b=some o->h'.get? b=some o)(hf:∀b∈ch,cD X pins H b):Inv X pins σ H {s with heap:=h',toks:=t'}:=by
 have nit:∀b u,H b=some u->b ∉ ch:=λb u e z=>by rw[(hf b z).1]at e;cases e
 refine I.step (g':=s.gens) (d':=s.drawn) (ch:=ch) (λb hb=>⟨(hf b hb).2.2.2.1,(hf b hb).2.1,(hf b hb).2.2.2.2.1,(hf b hb).2.2.2.2.2⟩) (λb o _ _ hc e _=>k b o hc e)
  (λb o _ _ hc e _=>⟨o.slots,k b o hc e⟩) (λ_ _ _ _ n=>n) (λb o hc e=>⟨o,k b o hc e⟩) (λ_ _ e=>e) (λ_ _ _ e=>e) (λb ps e=>⟨#[],by rw[e];simp⟩) (λm hm=>?_) (λb u e=>?_) I.bare
 ·obtain⟨o,es,ep,ho,r⟩:=hm
  exact⟨o,es,ep,k _ o (λz=>(hf _ z).2.1 rfl) ho,r⟩
 ·refine(I.ar b u e).gp (λc v hc q=>k c v ?_ q) (λ_ q=>q) λ_ _ q=>q
  rcases hc with z | z
  ·rw[z];exact nit b u e
  ·exact nit c _ z
section
variable{prog:wV}{w:wR}{A:vm}{E:wg->wo->Prop}{s:wo}
theorem UH{it tu:wd}{i:Nat}{its:Array wg}{x:wg}{Q:wg->wo->Prop}(ei:s.heap.IsTupleIter it tu i)(et:s.heap.IsTuple tu its)(ex:its[i]? = some x)
  (fin:∀h',h'.IsTupleIter it tu (i+1)->vN it s.heap h'->Q x {s with heap:=h'}):wA (model prog w) A (Wc (.ref it)) Q E s:=by
 obtain⟨ob,eo,ec,ed⟩:=id ei;obtain⟨ot,eot,_,nt,edt⟩:=et;unfold Wc;refine wj (wpAny_callSpecial?_slot (name:=VD "__next__") ei.typeIs Vm (VJ Vm ei.typeIs Qu ?_ (Qj _)))
 show wA _ _ (field (.ref it) 0 >>= _) _ _ s;refine wj (vI eo ed (x:=.ref tu) rfl ?_)
 show wA _ _ (if(Value.ref tu == Value.none)=true then _ else _) _ _ s;rw[if_neg (show ¬ ((Value.ref tu == Value.none)=true)from vG)]
 show wA _ _ (field (.ref it) 1 >>= _) _ _ s;refine wj (vI eo ed (x:=.int i 0) rfl ?_)
 show wA _ _ (seqItems? (.ref tu) >>= _) _ _ s;refine wj (WN eot edt ?_)
 simp only[V4,ex];refine wj (Vz eo ed (by simp) (wz ⟨x,rfl,wz (fin _ ?_ (Ws ..))⟩));exact⟨_,W2 _ eo (Vj (W3 ed _)),(XB ..).trans ec,by rw[W3 ed];simp[rawInt]⟩
theorem znc{it tu:wd}{i:Nat}{its:Array wg}{Q:wg->wo->Prop}(hh:A.handled=none)(ei:s.heap.IsTupleIter it tu i)(et:s.heap.IsTuple tu its)(ex:its[i]? = none)
  (fin:∀h' e,Heap.ExtBut it s.heap h'->(∃o,h'.get? e=some o/\o.cls=.type "StopIteration")->E (.ref e) {s with heap:=h'}):wA (model prog w) A (Wc (.ref it)) Q E s:=by
 obtain⟨ob,eo,ec,ed⟩:=id ei;obtain⟨ot,eot,_,nt,edt⟩:=et;unfold Wc;refine wj (wpAny_callSpecial?_slot (name:=VD "__next__") ei.typeIs Vm (VJ Vm ei.typeIs Qu ?_ (Qj _)))
 show wA _ _ (field (.ref it) 0 >>= _) _ _ s;refine wj (vI eo ed (x:=.ref tu) rfl ?_)
 show wA _ _ (if(Value.ref tu == Value.none)=true then _ else _) _ _ s;rw[if_neg (show ¬ ((Value.ref tu == Value.none)=true)from vG)]
 show wA _ _ (field (.ref it) 1 >>= _) _ _ s;refine wj (vI eo ed (x:=.int i 0) rfl ?_)
 show wA _ _ (seqItems? (.ref tu) >>= _) _ _ s;refine wj (WN eot edt ?_)
 simp only[V4,ex];refine wj (wpAny_rule (wj (Vz eo ed (by simp) ?_)))
 show wA _ _ (newExc (.type "StopIteration") [] >>= _) _ _ _;refine wj ?_;simp only[newExc,newTuple]
 refine wj (Wz ?_ (by size_fits));refine wj (m:=firstArgMember _ _) (wpAny_of_eq (a:=Value.none) (by first | rfl | (simp only[firstArgMember];rfl)) ?_);refine Wz ?_ (by size_fits);simp only[raiseNew];refine wj (wpAny_handled ?_)
 first | rw[hh] | rw[show A.in1.handled=none from hh]
 exact wj (wz (wpAny_throw (fin _ _ (((Ws ..).extBut.push _).push _) ⟨_,wE _ rfl,rfl⟩)))
theorem Uc(hh:A.handled=none)(it tu:wd)(hne:tu≠it)(its:Array wg):Draws prog w A it [it,tu] its.size (λi v=>its[i]? = some v) (λi h=>h.IsTupleIter it tu i/\h.IsTuple tu its) where
 live:=λ_ _ st=>let ⟨o,ho,_⟩:=st.1;⟨o,ho⟩
 frame:=λ_ _ _ st hk=>⟨st.1.at λo e=>hk it (by simp) o e,st.2.at λo e=>hk tu (by simp) o e⟩
 item:=λi s Q E hi st hQ=>UH st.1 st.2 (x:=its[i]) (by simp[hi]) λh' hit' hs'=>hQ _ h' s.toks (by simp[hi]) ⟨hit',st.2.extBut hs'.extBut hne⟩ hs'
 done:=λs Q E st hE=>znc hh st.1 st.2 (by simp) hE
end
section
variable{K:wa}{ta:TA}{g:TG}{tb:TS}{D:ck}{σ : St}{H:Hp}{a:wd}{xs:List V}
end
structure ZA(z TI TO i1 i2:wd)(f1 f2:List wd):Prop where
 a1:TI≠z
 a2:TO≠z
 a3:i1≠z
 a4:i2≠z
 a5:TI≠TO
 a6:TI≠i1
 a7:TI≠i2
 a8:TO≠i1
 a9:TO≠i2
 b0:i1≠i2
 b1:z ∉ f1
 b2:z ∉ f2
 b3:TO ∉ f1
 b4:TO ∉ f2
 b5:i1 ∉ f2
 b6:i2 ∉ f1
section
variable{prog:wV}{w:wR}{A:vm}{E:wg->wo->Prop}{s:wo}{z TI TO i1 i2:wd}{f1 f2:List wd}{n1 n2 k:Nat}{P1 P2:Nat->wg->Prop}{S1 S2:Nat->wK->Prop}{a b:wg}
theorem Ol{Q:wg->wo->Prop}(D1:Draws prog w A i1 f1 n1 P1 S1)(D2:Draws prog w A i2 f2 n2 P2 S2)(ap:ZA z TI TO i1 i2 f1 f2)(hz:IsZip s.heap z TI TO .none)(hi:WV s.heap TI (.ref i1) (.ref i2))(ho:WV s.heap TO a b)
  (h1:S1 k s.heap) (h2:S2 k s.heap) (l1:k<n1) (l2:k<n2)
  (fin:∀x y h' tk,P1 k x->P2 k y->IsZip h' z TI TO (rawInt s.heap.objs.size)->WV h' TO x y->S1 (k+1) h'->S2 (k+1) h'->WV h' s.heap.objs.size x y ->
   (∀c o,c≠z->c≠TO->c≠i1->c≠i2->s.heap.get? c=some o->h'.get? c=some o)->Q (.ref s.heap.objs.size) {s with heap:=h',toks:=tk}) :
  wA (model prog w) A (Builtin.«zip.__next__» ⟨[.ref z],[]⟩) (λr s'=>∃v,r=.done (.ret v)/\Q v s') E s:=by
 show wA _ _ (field (.ref z) 2 >>= _) _ _ _;refine wj (vI hz rfl (x:=.bool false) rfl ?_)
 show wA _ _ (field (.ref z) 3 >>= _) _ _ _;refine wj (vI hz rfl (x:=.ref TI) rfl ?_)
 refine wj (WN hi rfl ?_);show wA _ _ (WK (.ref z) >>= _) _ _ _
 refine wj ?_;unfold WK;refine wj (vI hz rfl (x:=.none) rfl (wz ?_));simp only[if_true];refine wj (wpAny_rule ?_);refine wj (vI hz rfl (x:=.ref TO) rfl ?_);refine wj (Vg hz (by simp) λg1 zz1 sb1=>?_);have zz1:IsZip g1 z TI TO .ellipsis:=zz1;refine wj ?_;simp only[X0,uk,xr,uA];refine wj (wj (wpAny_onRaise ?_));show wA _ _ (Wc (.ref i1) >>= _) _ _ _
 have h1a:S1 k g1:=D1.frame _ _ _ h1 λc hc o e=>sb1.extBut c o (λq=>ap.b1 (q ▸ hc)) e
 have h2a:S2 k g1:=D2.frame _ _ _ h2 λc hc o e=>sb1.extBut c o (λq=>ap.b2 (q ▸ hc)) e
 refine wj (D1.item k _ _ _ l1 h1a λx g2 t2 px h1b sb2=>wz ?_);have ho2:WV g2 TO a b:=sb2.extBut _ _ ap.a8 (sb1.extBut _ _ ap.a2 ho);have h2b:S2 k g2:=D2.frame _ _ _ h2a λc hc o e=>sb2.extBut c o (λq=>ap.b5 (q ▸ hc)) e
 refine wj (WN ho2 rfl ?_);refine wj (wpAny_updateSeq_pair ho2 λg3 ho3 sb3=>?_);have ho3:WV g3 TO x b:=ho3;have sb3:vN TO g2 g3:=sb3;have h1c:S1 (k+1) g3:=D1.frame _ _ _ h1b λc hc o e=>sb3.extBut c o (λq=>ap.b3 (q ▸ hc)) e
 have h2c:S2 k g3:=D2.frame _ _ _ h2b λc hc o e=>sb3.extBut c o (λq=>ap.b4 (q ▸ hc)) e
 refine wj (wpAny_letGo (wz ?_));refine wj (wj (wpAny_onRaise ?_))
 show wA _ _ (Wc (.ref i2) >>= _) _ _ _;refine wj (D2.item k _ _ _ l2 h2c λy g4 t4 py h2d sb4=>wz ?_)
 have sb4:vN i2 g3 g4:=sb4;have ho4:WV g4 TO x b:=sb4.extBut _ _ ap.a9 ho3;have h1d:S1 (k+1) g4:=D1.frame _ _ _ h1c λc hc o e=>sb4.extBut c o (λq=>ap.b6 (q ▸ hc)) e
 refine wj (WN ho4 rfl ?_);refine wj (wpAny_updateSeq_pair ho4 λg5 ho5 sb5=>?_);have ho5:WV g5 TO x y:=ho5;have sb5:vN TO g4 g5:=sb5;have h1e:S1 (k+1) g5:=D1.frame _ _ _ h1d λc hc o e=>sb5.extBut c o (λq=>ap.b3 (q ▸ hc)) e
 have h2e:S2 (k+1) g5:=D2.frame _ _ _ h2d λc hc o e=>sb5.extBut c o (λq=>ap.b4 (q ▸ hc)) e
 refine wj (wpAny_letGo (wz (wz ?_)));refine wj (WN ho5 rfl ?_);refine wj (wpAny_newTuple ?_);have sb2:vN i1 g1 g2:=sb2;have sb1:vN z s.heap g1:=sb1;have hsz:g5.objs.size=s.heap.objs.size:=by rw[sb5.1,sb4.1,sb3.1,sb2.1,sb1.1]
 have zz5:IsZip g5 z TI TO .ellipsis:=sb5.extBut _ _ ap.a2.symm (sb4.extBut _ _ ap.a4.symm (sb3.extBut _ _ ap.a2.symm (sb2.extBut _ _ ap.a3.symm zz1)));have kept:∀c o,c≠z->c≠TO->c≠i1->c≠i2->s.heap.get? c=some o->g5.get? c=some o:=λc o c1 c2 c3 c4 e=>sb5.extBut _ _ c2 (sb4.extBut _ _ c4 (sb3.extBut _ _ c2 (sb2.extBut _ _ c3 (sb1.extBut _ _ c1 e))))
 have zlt:z<g5.objs.size:=wH zz5
 show wA _ _ (qw (.ref z) (.ref g5.objs.size) >>= _) _ _ _;refine wj ?_;unfold qw
 have zz6:IsZip (g5.push {cls:=.type "tuple",data:=.seq #[x,y]}) z TI TO .ellipsis:=wk _ zz5;refine wj (Vg zz6 (by simp) λg7 zz7 sb7=>?_);have zz7:IsZip g7 z TI TO (rawInt g5.objs.size):=zz7;refine Vg zz7 (by simp) λg8 zz8 sb8=>?_
 have zz8:IsZip g8 z TI TO (rawInt g5.objs.size):=zz8;have sb7:vN z (g5.push {cls:=.type "tuple",data:=.seq #[x,y]}) g7:=sb7;have sb8:vN z g7 g8:=sb8;have up:∀c o,c≠z->g5.get? c=some o->g8.get? c=some o:=λc o c1 e=>sb8.extBut _ _ c1 (sb7.extBut _ _ c1 (wk _ e))
 have new8:WV g8 g5.objs.size x y:=sb8.extBut _ _ (vO zlt) (sb7.extBut _ _ (vO zlt) (wE _ rfl));rw[hsz]at zz8 new8;refine wz ⟨_,rfl,?_⟩
 show Q (.ref g5.objs.size) _
 rw[hsz];exact fin x y g8 _ px py zz8 (up _ _ ap.a2 ho5) (D1.frame _ _ _ h1e λc hc o e=>up c o (λq=>ap.b1 (q ▸ hc)) e) (D2.frame _ _ _ h2e λc hc o e=>up c o (λq=>ap.b2 (q ▸ hc)) e) new8 λc o c1 c2 c3 c4 e=>up c o c1 (kept c o c1 c2 c3 c4 e)
theorem PF{Q:Fin->wo->Prop}(D1:Draws prog w A i1 f1 n1 P1 S1)(D2:Draws prog w A i2 f2 n2 P2 S2)(ap:ZA z TI TO i1 i2 f1 f2)(hz:IsZip s.heap z TI TO .none)(hi:WV s.heap TI (.ref i1) (.ref i2))(ho:WV s.heap TO a b)
  (h1:S1 k s.heap) (h2:S2 k s.heap) (hk:k=n1\/(k<n1/\k=n2))
  (fin:∀h' e tk,(∀c o,c≠z->c≠TO->c≠i1->c≠i2->s.heap.get? c=some o->h'.get? c=some o)->(∃o,h'.get? e=some o/\o.cls=.type "StopIteration")->E (.ref e) {s with heap:=h',toks:=tk}) :
  wA (model prog w) A (Builtin.«zip.__next__» ⟨[.ref z],[]⟩) Q E s:=by
 show wA _ _ (field (.ref z) 2 >>= _) _ _ _;refine wj (vI hz rfl (x:=.bool false) rfl ?_)
 show wA _ _ (field (.ref z) 3 >>= _) _ _ _;refine wj (vI hz rfl (x:=.ref TI) rfl ?_)
 refine wj (WN hi rfl ?_);show wA _ _ (WK (.ref z) >>= _) _ _ _
 refine wj ?_;unfold WK;refine wj (vI hz rfl (x:=.none) rfl (wz ?_));simp only[if_true];refine wj (wpAny_rule ?_);refine wj (vI hz rfl (x:=.ref TO) rfl ?_);refine wj (Vg hz (by simp) λg1 zz1 sb1=>?_);have zz1:IsZip g1 z TI TO .ellipsis:=zz1;have sb1:vN z s.heap g1:=sb1;refine wj ?_;simp only[X0,uk,xr,uA];refine wj (wj (wpAny_onRaise ?_));show wA _ _ (Wc (.ref i1) >>= _) _ _ _
 have h1a:S1 k g1:=D1.frame _ _ _ h1 λc hc o e=>sb1.extBut c o (λq=>ap.b1 (q ▸ hc)) e
 have h2a:S2 k g1:=D2.frame _ _ _ h2 λc hc o e=>sb1.extBut c o (λq=>ap.b2 (q ▸ hc)) e
 rcases hk with rfl | ⟨l1,rfl⟩
 ·refine wj (D1.done _ _ _ h1a λg2 e sb2 he=>?_)
  obtain⟨oe,hoe,hce⟩:=he;have zz2:IsZip g2 z TI TO .ellipsis:=sb2 _ _ ap.a3.symm zz1;have hez:e≠z:=λq=>by subst q;rw[zz2]at hoe;cases hoe;simp at hce
  exact Vg zz2 (by simp) λg3 _ sb3=>fin g3 e _ (λc o c1 _ c3 _ q=>sb3.extBut _ _ c1 (sb2 _ _ c3 (sb1.extBut _ _ c1 q))) ⟨oe,sb3.extBut _ _ hez hoe,hce⟩
 ·refine wj (D1.item k _ _ _ l1 h1a λx g2 t2 px h1b sb2=>wz ?_)
  have sb2:vN i1 g1 g2:=sb2;have ho2:WV g2 TO a b:=sb2.extBut _ _ ap.a8 (sb1.extBut _ _ ap.a2 ho);have h2b:S2 k g2:=D2.frame _ _ _ h2a λc hc o e=>sb2.extBut c o (λq=>ap.b5 (q ▸ hc)) e
  refine wj (WN ho2 rfl ?_);refine wj (wpAny_updateSeq_pair ho2 λg3 ho3 sb3=>?_);have sb3:vN TO g2 g3:=sb3;have h2c:S2 k g3:=D2.frame _ _ _ h2b λc hc o e=>sb3.extBut c o (λq=>ap.b4 (q ▸ hc)) e
  refine wj (wpAny_letGo (wz ?_));refine wj (wj (wpAny_onRaise ?_))
  show wA _ _ (Wc (.ref i2) >>= _) _ _ _;refine wj (D2.done _ _ _ h2c λg4 e sb4 he=>?_)
  obtain⟨oe,hoe,hce⟩:=he;have zz4:IsZip g4 z TI TO .ellipsis:=sb4 _ _ ap.a4.symm (sb3.extBut _ _ ap.a2.symm (sb2.extBut _ _ ap.a3.symm zz1));have hez:e≠z:=λq=>by subst q;rw[zz4]at hoe;cases hoe;simp at hce
  exact Vg zz4 (by simp) λg5 _ sb5=>fin g5 e _ (λc o c1 c2 c3 c4 q=>sb5.extBut _ _ c1 (sb4 _ _ c4 (sb3.extBut _ _ c2 (sb2.extBut _ _ c3 (sb1.extBut _ _ c1 q))))) ⟨oe,sb5.extBut _ _ hez hoe,hce⟩
end
def cf(t:Bool)(K:wa)(H:Hp)(a:wd)(xs:List V):Prop:=match t with
 | true=>aP K H a xs
 | false=>aN K H a xs
def iA(t:Bool)(h:wK)(it a:wd)(i:Nat):Prop:=match t with
 | true=>h.IsTupleIter it a i
 | false=>h.IsListIter it a i
def Gi(t:Bool)(h:wK)(a:wd)(its:Array wg):Prop:=match t with
 | true=>h.IsTuple a its
 | false=>h.IsList a its
theorem rG{prog:wV}{w:wR}{A:vm}(t:Bool)(hh:A.handled=none)(it a:wd)(hne:a≠it)(its:Array wg):Draws prog w A it [it,a] its.size (λi v=>its[i]? = some v) (λi h=>iA t h it a i/\Gi t h a its):=by
 cases t
 ·exact Draws.list hh it a hne its
 ·exact Uc hh it a hne its
theorem Inv.kC{X:Cx}{pins:List (wd × Obj)}{σ : L2.St}{H:Hp}{s:wo}{t:Bool}{a:wd}{xs:List V}(I:Inv X pins σ H s)(h:cf t X.K H a xs):∃its:List wg,aC xs its/\Gi t s.heap a its.toArray:=by
 cases t
 ·obtain⟨its,r,p,_⟩:=I.list h
  exact⟨its,r,p.isList⟩
 ·obtain⟨its,r,p,_⟩:=I.tuple h
  exact⟨its,r,p⟩
theorem Inv.EU{X:Cx}{pins:List (wd × Obj)}{σ : L2.St}{H:Hp}{s:wo}{t:Bool}{a:wd}{xs ys:List V}(I:Inv X pins σ H s)(h:cf t X.K H a xs)(k:cf t X.K H a ys):xs=ys:=by
 cases t
 ·exact I.EK h k
 ·exact I.EC h k
theorem iA.obj{t:Bool}{h:wK}{it a:wd}{i:Nat}(st:iA t h it a i):∃o,h.get? it=some o /\ ∀v,o.data≠.cell v:=by
 cases t
 ·obtain⟨o,e,_,d⟩:=st
  exact⟨o,e,λv z=>by rw[d]at z;cases z⟩
 ·obtain⟨o,e,_,d⟩:=st
  exact⟨o,e,λv z=>by rw[d]at z;cases z⟩
theorem iA.at{t:Bool}{h h':wK}{it a:wd}{i:Nat}(st:iA t h it a i)(k:∀o,h.get? it=some o->h'.get? it=some o):iA t h' it a i:=by
 cases t
 ·exact Heap.IsListIter.at st k
 ·exact Heap.IsTupleIter.at st k
def nJ(t u:Bool)(K:wa)(a b:wd):It :=
 ⟨λi H=>∃xs x ys y,cf t K H a xs/\xs[i]? = some x/\cf u K H b ys/\ys[i]? = some y,
  λi H v H'=>∃(c:wd)(x y:V),v=.ref c/\H c=none/\(∀xs,cf t K H a xs->xs[i]? = some x)/\(∀ys,cf u K H b ys->ys[i]? = some y)/\H'=upd H c (.tup [x,y]),
  λi H=>∃xs ys,cf t K H a xs/\cf u K H b ys/\(xs.length=i\/(i<xs.length/\ys.length=i))⟩
theorem zs0{P:wV}{w:wR}{K:wa}{elts:List Expr}{k1}{tpos:Pos}{t u:Bool}(a b z TI TO i1 i2:wd)(ap:ZA z TI TO i1 i2 [i1,a] [i2,b])(na:a≠i1)(nb:b≠i2) :
  ip P w K (.Tuple elts k1 tpos) (nJ t u K a b) [z,TI,TO,i1,i2] z (λi h=>IsZip h z TI TO .none/\WV h TI (.ref i1) (.ref i2)/\(∃p q,WV h TO p q)/\iA t h i1 a i/\iA u h i2 b i) where
 mem:=by simp
 obj:=λi h st c hc=>by
  obtain⟨hz,hi,⟨p,q,ho⟩,s1,s2⟩:=st;simp only[wO,WH,or_false]at hc;rcases hc with rfl | rfl | rfl | rfl | rfl
  ·exact⟨_,hz,λv z=>by cases (show Data.fields _=Data.cell v from z)⟩
  ·exact⟨_,hi,λv z=>by cases (show Data.seq _ _=Data.cell v from z)⟩
  ·exact⟨_,ho,λv z=>by cases (show Data.seq _ _=Data.cell v from z)⟩
  ·exact s1.obj
  ·exact s2.obj
 keep:=λi h h' st k=>by
  obtain⟨hz,hi,⟨p,q,ho⟩,s1,s2⟩:=st;exact⟨k z (by simp) _ hz,k TI (by simp) _ hi,⟨p,q,k TO (by simp) _ ho⟩,s1.at λo e=>k i1 (by simp) o e,s2.at λo e=>k i2 (by simp) o e⟩
 item:=by
  intro X hP hw hK hc i pins s σ H E I hf st hg;subst hP hw hK;obtain⟨hz,hi,⟨p,q,ho⟩,s1,s2⟩:=st;obtain⟨xs,x,ys,y,hq1,hx,hq2,hy⟩:=hg;obtain⟨its,r1,p1⟩:=I.kC hq1;obtain⟨jts,r2,p2⟩:=I.kC hq2;obtain⟨ux,hux,rux⟩:=r1.get hx;obtain⟨uy,huy,ruy⟩:=r2.get hy
  have lt1:i<its.toArray.size:=by
   rcases w9 i its.length with q | q
   ·simpa using q
   ·rw[Wh q]at hux;cases hux
  have lt2:i<jts.toArray.size:=by
   rcases w9 i jts.length with q | q
   ·simpa using q
   ·rw[Wh q]at huy;cases huy
  have hT:s.TypeIs (.ref z) "zip":=⟨_,hz,rfl⟩;unfold pyNext
  refine wj (wpAny_attempt (wpAny_callSpecial?_slot (name:=VD "__next__") hT qX (VJ qX hT X1
   (Ol (rG (A:=X.A.in1) t (I.ok.hd hc) i1 a na its.toArray) (rG (A:=X.A.in1) u (I.ok.hd hc) i2 b nb jts.toArray) ap hz hi ho ⟨s1,p1⟩ ⟨s2,p2⟩ lt1 lt2 λv1 v2 h1 tk e1 e2 hz1 ho1 st1 st2 hT1 hk=>wz ?_) (XC _))))
  have ev1:v1=ux:=by
   have e1':its[i]? = some v1:=by simpa using e1
   rw[hux]at e1';exact(vo e1').symm
  have ev2:v2=uy:=by
   have e2':jts[i]? = some v2:=by simpa using e2
   rw[huy]at e2';exact(vo e2').symm
  subst ev1 ev2
  have I1:Inv X pins σ (upd H s.heap.objs.size (.tup [x,y])) {s with heap:=s.heap.push {cls:=.type "tuple",data:=.seq ([v1,v2]:List wg).toArray},toks:=tk} :=
   I.laid (λc o q=>wk _ q) (wx _) (show cF X.prog X.w _ _ _ (.tup [x,y])from⟨Cm (by simp),_,.cons rux (.cons ruy .nil),Qq _ _⟩)
  have ltf:∀c∈[z,TI,TO,i1,i2],c<s.heap.objs.size:=λc hc=>by
   simp only[wO,WH,or_false]at hc;rcases hc with rfl | rfl | rfl | rfl | rfl
   ·exact wH hz
   ·exact wH hi
   ·exact wH ho
   ·obtain⟨o,e,_⟩:=s1.obj;exact wH e
   ·obtain⟨o,e,_⟩:=s2.obj;exact wH e
  have hf1:∀c∈[z,TI,TO,i1,i2],cD X pins (upd H s.heap.objs.size (.tup [x,y])) c:=λc hc=>⟨by rw[b9 (wZ (ltf c hc))];exact(hf c hc).1,(hf c hc).2⟩
  refine⟨_,rfl,wpAny_letOwnedTupleGo_zip hz1 λh2 hz2 hs2=>?_⟩;have hs2:vN z h1 h2:=hs2
  refine⟨.ref s.heap.objs.size,_,Inv.Fd (s:={s with heap:=s.heap.push {cls:=.type "tuple",data:=.seq ([v1,v2]:List wg).toArray},toks:=tk}) (ch:=[z,TI,TO,i1,i2]) I1 (λc o hc q=>?_) hf1,rfl,
   ⟨_,x,y,rfl,I.ar.fresh (wx _),λzs hzs=>by rw[I.EU hzs hq1];exact hx,λzs hzs=>by rw[I.EU hzs hq2];exact hy,rfl⟩,
   ⟨hz2,hs2.extBut _ _ ap.a1 (hk _ _ ap.a1 ap.a5 ap.a6 ap.a7 hi),⟨_,_,hs2.extBut _ _ ap.a2 ho1⟩,st1.1.at λo e=>hs2.extBut _ _ ap.a3 e,st2.1.at λo e=>hs2.extBut _ _ ap.a4 e⟩,λc hc=>(hf1 c hc).1⟩
  have c1:c≠z:=λq=>hc (by simp[q])
  have c2:c≠TO:=λq=>hc (by simp[q])
  have c3:c≠i1:=λq=>hc (by simp[q])
  have c4:c≠i2:=λq=>hc (by simp[q])
  refine hs2.extBut _ _ c1 ?_
  by_cases hcs:c=s.heap.objs.size
  ·subst hcs
   rw[wE _ rfl]at q;cases q;exact hT1
  ·exact hk c o c1 c2 c3 c4 (by rw[Heap.get?_push_ne _ _ _ hcs]at q;exact q)
 done:=by
  intro X hP hw hK hc i pins s σ H E I hf st hg;subst hP hw hK;obtain⟨hz,hi,⟨p,q,ho⟩,s1,s2⟩:=st;obtain⟨xs,ys,hq1,hq2,hend⟩:=hg;obtain⟨its,r1,p1⟩:=I.kC hq1;obtain⟨jts,r2,p2⟩:=I.kC hq2;have e1:=r1.length;have e2:=r2.length;have hT:s.TypeIs (.ref z) "zip":=⟨_,hz,rfl⟩;unfold pyNext
  refine wj (wpAny_attempt (wpAny_callSpecial?_slot (name:=VD "__next__") hT qX (VJ qX hT X1
   (PF (k:=i) (rG (A:=X.A.in1) t (I.ok.hd hc) i1 a na its.toArray) (rG (A:=X.A.in1) u (I.ok.hd hc) i2 b nb jts.toArray) ap hz hi ho ⟨s1,p1⟩ ⟨s2,p2⟩ (by simp only[wN];lia) λh' y tk hk hx'=>?_) (XC _))))
  obtain⟨o,ho',hcl⟩:=hx';refine wj (wpAny_isInstance (T:="StopIteration") (b:=true) ⟨o,ho',hcl⟩ isSubtype_stop (wz ⟨rfl,?_⟩));exact Inv.Fd (ch:=[z,TI,TO,i1,i2]) I (λc o hc e=>hk c o (λq=>hc (by simp[q])) (λq=>hc (by simp[q])) (λq=>hc (by simp[q])) (λq=>hc (by simp[q])) e) hf
 self:=λ_ _ _ _ _ st h=>wpAny_pyIter_zip st.1 h
abbrev rp(h:wK)(a:wd):wK:=h.push {cls:=.type "tuple_iterator",data:=.fields #[.ref a,.int 0 0]}
abbrev v_(h:wK)(a b:wd):wK:=(rp h a).push {cls:=.type "tuple_iterator",data:=.fields #[.ref b,.int 0 0]}
abbrev sJ(h:wK)(a b:wd):wK:=(v_ h a b).push {cls:=.type "tuple",data:=.seq #[.ref h.objs.size,.ref (rp h a).objs.size]}
abbrev s_(h:wK)(a b:wd):wK:=(sJ h a b).push {cls:=.type "tuple",data:=.seq #[.none,.none]}
abbrev lX(h:wK)(a b:wd):wK:=(s_ h a b).push {cls:=.type "zip",data:=.fields #[.none,.bool false,.bool false,.ref (v_ h a b).objs.size,.ref (sJ h a b).objs.size]}
theorem Y9(a b:wd)(xs ys:Array wg):Meets (Builtin.«zip.__new__» ⟨[.type "zip",.ref a,.ref b],[]⟩) (λ_ R s=>s.heap.IsTuple a xs/\s.heap.IsTuple b ys/\R (.ok (.ret (.ref (s_ s.heap a b).objs.size))) {s with heap:=lX s.heap a b}) :=
 .of_wp λprog w A R s h=>by
  obtain⟨hp,g,d,tk,os⟩:=s;obtain⟨ha,hb,h⟩:=h;have hsub:=sub_zip;have hA:Q6 (qL ⟨hp,g,d,tk,os⟩) a xs:=ha;have hB:Q6 (qL ⟨hp.push {cls:=.type "tuple_iterator",data:=.fields #[.ref a,.int 0 0]},g,d,tk,os⟩) b ys:=hb.at λo e=>wk _ e
  wp_walk using Vf hA,Vf hB
  exact⟨_,rfl,h⟩
section
variable{prog:wV}{w:wR}{A:vm}{E:wg->wo->Prop}{s:wo}
theorem PC{a b:wd}{xs ys:Array wg}{Q:wg->wo->Prop}(ha:s.heap.IsTuple a xs)(hb:s.heap.IsTuple b ys)
  (fin:∀h',IsZip h' (s.heap.objs.size+4) (s.heap.objs.size+2) (s.heap.objs.size+3) .none->WV h' (s.heap.objs.size+2) (.ref s.heap.objs.size) (.ref (s.heap.objs.size+1))->WV h' (s.heap.objs.size+3) .none .none ->
   h'.IsTupleIter s.heap.objs.size a 0->h'.IsTupleIter (s.heap.objs.size+1) b 0->(∀c o,s.heap.get? c=some o->h'.get? c=some o)->Q (.ref (s.heap.objs.size+4)) {s with heap:=h'}):wA (model prog w) A (call (.type "zip") [.ref a,.ref b]) Q E s:=by
 refine callType_new Xk (by decide) (Q7 _ _) (xt _ _) (λobj=>qY obj _ _) xu (Y9 a b xs ys) ⟨ha,hb,?_⟩;have z1:(rp s.heap a).objs.size=s.heap.objs.size+1:=vS ..;have z2:(v_ s.heap a b).objs.size=s.heap.objs.size+2:=by rw[vS,z1]
 have z3:(sJ s.heap a b).objs.size=s.heap.objs.size+3:=by rw[vS,z2]
 have z4:(s_ s.heap a b).objs.size=s.heap.objs.size+4:=by rw[vS,z3]
 have g5:(lX s.heap a b).get? (s_ s.heap a b).objs.size=some _:=wE _ rfl;have g4:(lX s.heap a b).get? (sJ s.heap a b).objs.size=some _:=wk _ (wE _ rfl);have g3:(lX s.heap a b).get? (v_ s.heap a b).objs.size=some _:=wk _ (wk _ (wE _ rfl));have g2:(lX s.heap a b).get? (rp s.heap a).objs.size=some _:=wk _ (wk _ (wk _ (wE _ rfl)));have g1:(lX s.heap a b).get? s.heap.objs.size=some _:=wk _ (wk _ (wk _ (wk _ (wE _ rfl))))
 show _/\_
 rw[z2,z3,z4]at g5;rw[z1,z2]at g3;rw[z3]at g4;rw[z1]at g2;rw[z4];exact⟨⟨_,g5,rfl⟩,fin _ g5 g3 g4 ⟨_,g1,rfl,rfl⟩ ⟨_,g2,rfl,rfl⟩ λc o x=>wk _ (wk _ (wk _ (wk _ (wk _ x))))⟩
end
theorem zyc:vR "zip"=some (.type "zip"):=by decide +kernel
theorem lj{x a b:wd}(h:x≠a)(k:x≠b):x ∉ [a,b]:=by simp[h,k]
theorem Ss{n a b:Nat}(la:a<n)(lb:b<n):ZA (n+4) (n+2) (n+3) n (n+1) [n,a] [n+1,b] where
 a1:=wZ (by lia)
 a2:=wZ (by lia)
 a3:=wZ (by lia)
 a4:=wZ (by lia)
 a5:=wZ (by lia)
 a6:=vO (by lia)
 a7:=vO (by lia)
 a8:=vO (by lia)
 a9:=vO (by lia)
 b0:=wZ (by lia)
 b1:=lj (vO (by lia)) (vO (by lia))
 b2:=lj (vO (by lia)) (vO (by lia))
 b3:=lj (vO (by lia)) (vO (by lia))
 b4:=lj (vO (by lia)) (vO (by lia))
 b5:=lj (wZ (by lia)) (vO (by lia))
 b6:=lj (vO (by lia)) (vO (by lia))
theorem tU{X:Cx}{elts:List Expr}{k1}{tpos:Pos}{pins:List (wd × Obj)}{σ : L2.St}{H:Hp}{s:wo}{R:It->Hp->Prop}{h':wK}{E:wg->wo->Prop}{t u:Bool}{a b:wd}(I:Inv X pins σ H s)(la:a<s.heap.objs.size)(lb:b<s.heap.objs.size)
  (hz:IsZip h' (s.heap.objs.size+4) (s.heap.objs.size+2) (s.heap.objs.size+3) .none) (hi:WV h' (s.heap.objs.size+2) (.ref s.heap.objs.size) (.ref (s.heap.objs.size+1))) (ho:WV h' (s.heap.objs.size+3) .none .none)
  (s1:iA t h' s.heap.objs.size a 0) (s2:iA u h' (s.heap.objs.size+1) b 0) (kp:∀c o,s.heap.get? c=some o->h'.get? c=some o) (q:R (nJ t u X.K a b) H):wA (model X.prog X.w) X.A (pyIter (.ref (s.heap.objs.size+4))) (Bc X pins σ (.Tuple elts k1 tpos) R) E {s with heap:=h'}:=by
 refine wpAny_pyIter_zip hz ?_;refine⟨s.heap.objs.size+4,[s.heap.objs.size+4,s.heap.objs.size+2,s.heap.objs.size+3,s.heap.objs.size,s.heap.objs.size+1],_,_,H,rfl,I.kept (t':=s.toks) kp,zs0 a b _ (s.heap.objs.size+2) (s.heap.objs.size+3) s.heap.objs.size (s.heap.objs.size+1) (Ss la lb) (wZ la) (wZ (Vn lb)),⟨hz,hi,⟨_,_,ho⟩,s1,s2⟩,λc hc=>?_,q⟩
 ·have hb':s.heap.objs.size<=c:=by
   simp only[wO,WH,or_false]at hc;rcases hc with rfl | rfl | rfl | rfl | rfl
   ·exact Vc _ 4
   ·exact Vc _ 2
   ·exact Vc _ 3
   ·exact wx _
   ·exact Vc _ 1
  exact I.iO hb' (I.ar.fresh hb')
theorem cf.same{t:Bool}{K:wa}{H H':Hp}{a:wd}{xs:List V}(s:af H H')(h:cf t K H a xs):cf t K H' a xs:=by
 cases t
 ·exact s.seq h
 ·exact s.j3 h
def tO(t u:Bool)(K:wa)(g:TG)(tt:TT)(te:TE)(src:List (Option Nat))(σ : L2.St)(vs:List V)(H1:Hp)(Q:VK):Prop:=∃a b,vs=[.ref a,.ref b]/\(∃xs,cf t K H1 a xs)/\(∃ys,cf u K H1 b ys) /\
 ∀D,H1 D=none->iV g tt te (nJ t u K a b) D (cJ src σ) (upd H1 D (.lst [])) (λH'=>Q (.ref D) H')
section
variable{t u:Bool}{K:wa}{ta:TA}{g:TG}{tb:TS}{tt:TT}{te:TE}{D:ck}{σ : L2.St}{H:Hp}{Q:VK}{a b:wd}{xs ys:List V}{src:List (Option Nat)}{o0 o0':Option V}{tl:L2.St}
def fP(H:Hp)(tl:L2.St)(Rel:Nat->V->Hp->Prop)(D:wd)(i:Nat)(zs:List V)(σ':L2.St)(H':Hp):Prop :=
 (∃o1 o2,σ'=o1::o2::tl)/\H D=none/\af H H'/\H' D=some (.lst zs)/\zs.length=i /\ ∀j y,zs[j]? = some y->Rel j y H'
theorem BM{Rel:Nat->V->Hp->Prop}{D:wd}{i:Nat}{zs:List V}{σ' σ3:L2.St}{H1 H5:Hp}{y:V}(inv:fP H tl Rel D i zs σ' H1)(hi:i<=1000)(hk:∀i v H1 H2,aU H1 H2->Rel i v H1->Rel i v H2)(hσ : ∃o1 o2,σ3=o1::o2::tl)(s:af H1 H5)(r:Rel i y H5):nY (fP H tl Rel) D i σ3 y H5:=by
 obtain⟨_,hn,s1,hD,hl,hr⟩:=inv;have hD5:=s _ _ hD;refine m6 hD5 (by lia) λH6 E6 e6=>⟨hσ,hn,(s1.trans s).grow hn E6,e6,by simp[hl],λj z hz=>?_⟩
 have k6:aU H5 H6:=E6.keep hD5;rcases w9 j zs.length with hj | hj
 ·rw[Wr hj]at hz
  exact hk _ _ _ _ (s.keep.trans k6) (hr j z hz)
 ·have hj':j=zs.length:=by
   rcases w9 zs.length j with q | q
   ·rw[Wh (by simp;lia)]at hz;cases hz
   ·lia
  subst hj';rw[Wk (wx _),qW]at hz;cases hz;rw[hl];exact hk _ _ _ _ k6 r
theorem Jd(hx:cf t K H a xs)(hy:cf u K H b ys)(hxy:xs.length=ys.length)(hsrc:cJ src σ = o0::o0'::tl)(Rel:Nat->V->Hp->Prop)(hk:∀i v H1 H2,aU H1 H2->Rel i v H1->Rel i v H2)
  (hs:∀D i x y zs o1 o2 H1 c,xs[i]? = some x->ys[i]? = some y->fP H tl Rel D i zs (o1::o2::tl) H1->H1 c=some (.tup [x,y])->fR (fP H tl Rel) g tt te D i (.ref c) (o1::o2::tl) H1)
  (hd:∀D zs H',H D=none->af H H'->H' D=some (.lst zs)->zs.length=xs.length->(∀j y,zs[j]? = some y->Rel j y H')->Q (.ref D) H'):tO t u K g tt te src σ [.ref a,.ref b] H Q:=by
 refine⟨a,b,rfl,⟨xs,hx⟩,⟨ys,hy⟩,λD hD=>⟨λi m σ' H'=>i+m=xs.length /\ ∃zs,fP H tl Rel D i zs σ' H',⟨xs.length,by lia,[],⟨o0,o0',hsrc⟩,hD,af.upd hD,cb,rfl,λj y z=>by simp at z⟩,?_⟩⟩;rintro i m σ' H' ⟨him,zs,inv⟩;have hq1:=cf.same inv.2.2.1 hx;have hq2:=cf.same inv.2.2.1 hy
 by_cases hm:m=0
 ·have e:i=xs.length:=by lia
  subst e;obtain⟨_,n,s,e,hl,r⟩:=inv;exact .inl ⟨⟨xs,ys,hq1,hq2,.inl rfl⟩,hd D zs H' n s e hl r⟩
 ·have hi:i<xs.length:=by lia
  have hj:i<ys.length:=by lia
  refine .inr ⟨⟨xs,xs[i],ys,ys[i],hq1,by simp[hi],hq2,by simp[hj]⟩,λσ2 H2=>∃zs,fP H tl Rel D (i+1) zs σ2 H2,λσ2 H2 h=>⟨m-1,by lia,by lia,h⟩,?_⟩;rintro v H2 ⟨c,x,y,rfl,hn,hx',hy',rfl⟩;obtain⟨⟨o1,o2,rfl⟩,n,s,e,hl,r⟩:=inv;have su:=af.upd (o:=.tup [x,y]) hn;exact hs D i x y zs o1 o2 _ c (hx' xs hq1) (hy' ys hq2) ⟨⟨o1,o2,rfl⟩,n,s.trans su,su _ _ e,hl,λj y hy=>hk _ _ _ _ su.keep (r j y hy)⟩ cb
end
def eY(K:wa):List V->Hp->VK->Prop:=λxs H Q=>∃(p:wd)(bs:List Bool),xs=[.ref p]/\aN K H p (bs.map V.bl)/\Q (.bl (bs.all id)) H
theorem fC:vR "all"=some (.builtin "all"):=by decide +kernel
theorem ZS{bs:List Bool} : ∀{us:List wg},aC (bs.map V.bl) us->us=bs.map Value.bool:=by
 induction bs with
 | nil=>intro us r;rw[WG]at r;cases r;rfl
 | cons b bs ih =>
  intro us r;rw[wU]at r;cases r with
  | cons r1 r2 =>
   cases r1;rw[wU,ih r2]
theorem zoK(bs:List Bool):((vf bs.length).all λi=>(bs[i]?).getD true)=bs.all id:=by
 rw[WP,wv,wv]
 constructor
 ·intro h b hb
  obtain⟨i,hi,rfl⟩:=Wg hb;have:=h i (vy.mpr hi);rw[wb hi]at this;exact this
 ·intro h i hi
  rw[vy]at hi;rw[wb hi];exact h _ (vn hi)
open PyProof.V PySem.Calls in
theorem f_{X:Cx}(hc:X.calm=true):ao X (.builtin "all") (eY X.K):=by
 intro pins s σ H xs us Q I r h;obtain⟨p,bs,rfl,hq,q⟩:=h;obtain⟨u,rfl,rx⟩:=gi r;cases rx;obtain⟨its,r',pl,hz⟩:=I.list hq;have hi:its=bs.map Value.bool:=ZS r';have hl:s.heap.IsList p its.toArray:=pl.isList;have hlt:p<s.heap.objs.size:=by obtain⟨_,e,_⟩:=hl;exact wH e
 refine call_all_walk (W8 hl ?_)
 refine⟨s.heap.objs.size,[s.heap.objs.size,p],[s.heap.objs.size],its.toArray.size,_,_,λi=>(bs[i]?).getD true,rfl,um (A:=X.A.in1) (I.ok.hd hc) _ p (wZ hlt) its.toArray,
  ⟨⟨_,wE _ rfl,rfl,rfl⟩,hl.push _⟩,λi v s' Q' E' hP hQ=>?_,λh' tk hk=>?_⟩
 ·have hP:its.toArray[i]? = some v:=hP
  rw[hi]at hP;simp only[xI,wB,vA]at hP;obtain⟨b,e,rfl⟩:=hP;simp only[e,XZ]at hQ;exact Wt hQ
 ·have e:((vf its.toArray.size).all λi=>(bs[i]?).getD true)=bs.all id:=by
   rw[wN,hi,wm];exact zoK bs
  rw[e];exact⟨.bl (bs.all id),H,I.kept (t':=tk) (λb x e=>hk b x (λhm=>by rw[vx.mp hm]at e;exact WW _ (wH e)) (wk _ e)),rfl,q⟩
theorem fE{K:wa}{H:Hp}{Q:VK}{p:wd}{bs:List Bool}(h:aN K H p (bs.map V.bl))(q:Q (.bl (bs.all id)) H):eY K [.ref p] H Q:=⟨p,bs,rfl,h,q⟩
section
variable{t u:Bool}{K:wa}{g:TG}{tt:TT}{te:TE}{σ : L2.St}{H:Hp}{Q:VK}{a b:wd}{xs ys:List V}{src:List (Option Nat)}{o0 o0':Option V}{tl:L2.St}
theorem ztE(hx:cf t K H a xs)(hy:cf u K H b ys)(hxy:ys.length<xs.length)(hsrc:cJ src σ = o0::o0'::tl)(Rel:Nat->V->Hp->Prop)(hk:∀i v H1 H2,aU H1 H2->Rel i v H1->Rel i v H2)
  (hs:∀D i x y zs o1 o2 H1 c,xs[i]? = some x->ys[i]? = some y->fP H tl Rel D i zs (o1::o2::tl) H1->H1 c=some (.tup [x,y])->fR (fP H tl Rel) g tt te D i (.ref c) (o1::o2::tl) H1)
  (hd:∀D zs H',H D=none->af H H'->H' D=some (.lst zs)->zs.length=ys.length->(∀j y,zs[j]? = some y->Rel j y H')->Q (.ref D) H'):tO t u K g tt te src σ [.ref a,.ref b] H Q:=by
 refine⟨a,b,rfl,⟨xs,hx⟩,⟨ys,hy⟩,λD hD=>⟨λi m σ' H'=>i+m=ys.length /\ ∃zs,fP H tl Rel D i zs σ' H',⟨ys.length,by lia,[],⟨o0,o0',hsrc⟩,hD,af.upd hD,cb,rfl,λj y z=>by simp at z⟩,?_⟩⟩;rintro i m σ' H' ⟨him,zs,inv⟩;have hq1:=cf.same inv.2.2.1 hx;have hq2:=cf.same inv.2.2.1 hy
 by_cases hm:m=0
 ·have e:i=ys.length:=by lia
  subst e;obtain⟨_,n,s,e,hl,r⟩:=inv;exact .inl ⟨⟨xs,ys,hq1,hq2,.inr ⟨hxy,rfl⟩⟩,hd D zs H' n s e hl r⟩
 ·have hi:i<xs.length:=by lia
  have hj:i<ys.length:=by lia
  refine .inr ⟨⟨xs,xs[i],ys,ys[i],hq1,by simp[hi],hq2,by simp[hj]⟩,λσ2 H2=>∃zs,fP H tl Rel D (i+1) zs σ2 H2,λσ2 H2 h=>⟨m-1,by lia,by lia,h⟩,?_⟩;rintro v H2 ⟨c,x,y,rfl,hn,hx',hy',rfl⟩;obtain⟨⟨o1,o2,rfl⟩,n,s,e,hl,r⟩:=inv;have su:=af.upd (o:=.tup [x,y]) hn;exact hs D i x y zs o1 o2 _ c (hx' xs hq1) (hy' ys hq2) ⟨⟨o1,o2,rfl⟩,n,s.trans su,su _ _ e,hl,λj y hy=>hk _ _ _ _ su.keep (r j y hy)⟩ cb
end
def rE(K:wa):List V->Hp->VK->Prop:=λxs H Q=>∃x tp S T d b,xs=[x,.ref tp]/\aP K H tp [.ty S,.ty T]/\Is K H x d/\qa K (.type (kindOf d)) [.type S,.type T]=some b/\Q (.bl b) H
theorem J5{X:Cx} : ao X (.builtin "isinstance") (rE X.K):=by
 intro pins s σ H xs us Q I r h;obtain⟨x,tp,S,T,d,b,rfl,ht,hd,e,q⟩:=h;obtain⟨u,w',rfl,rx,rt⟩:=iQ r;cases (show w'=Value.ref tp from rt);obtain⟨tts,rv,⟨ot,ht1,ht2,n,ht3⟩,_⟩:=I.tuple ht;obtain⟨t1,t2,rfl,r1,r2⟩:=iQ rv;cases (show t1=Value.type S from r1);cases (show t2=Value.type T from r2);obtain⟨c,dd,da,sl⟩:=ot;cases ht2;cases ht3;have fin:∀tk,EP X pins σ Q (.bool b) {s with toks:=tk}:=λtk=>⟨.bl b,H,I.tok _,rfl,q⟩
 cases d with
 | none =>
  cases kg.mp hd;cases (show u=Value.none from rx);exact WR Xy I.cq True.intro ht1 e (λz=>nomatch z) fin
 | bool y =>
  cases jZ.mp hd;cases (show u=Value.bool y from rx);exact WR Xz I.cq True.intro ht1 e (λz=>nomatch z) fin
 | int i =>
  cases bR.mp hd;obtain⟨t,q⟩:=(show ∃t,u=Value.int i t from rx);cases q;exact WR XX I.cq True.intro ht1 e (λz=>nomatch z) fin
 | str y =>
  cases dj.mp hd;obtain⟨t,q⟩:=(show ∃t,u=Value.str y t from rx);cases q;exact WR XY I.cq True.intro ht1 e (λz=>nomatch z) fin
 | tuple ds =>
  obtain⟨a,xs,e1,hq,_⟩:=bV.mp hd;subst e1;cases (show u=Value.ref a from rx);obtain⟨its,_,⟨o,h1,h2,_⟩,_⟩:=I.tuple hq;exact WR Xj I.cq ⟨o,h1,h2⟩ ht1 e (λz=>nomatch z) fin
 | list ds =>
  obtain⟨a,xs,e1,hq,_⟩:=bO.mp hd;subst e1;cases (show u=Value.ref a from rx);obtain⟨its,_,⟨o,n,h1,h2,_⟩,_⟩:=I.list hq;exact WR XA I.cq ⟨o,h1,h2⟩ ht1 e (λz=>nomatch z) fin
 | dict kv =>
  obtain⟨a,kvs,e1,hq⟩:=nX.mp hd;subst e1;cases (show u=Value.ref a from rx);obtain⟨_,_,vs,_,o,es,ep,h1,h2,_⟩:=(show cF X.prog X.w H s.heap a (.dK kvs)from I.ar a _ hq);exact WR QT I.cq ⟨o,h1,h2.1⟩ ht1 e (λz=>nomatch z) fin
theorem SQ{K:wa}(d:wu):qa K (.type (kindOf d)) [.type "list",.type "tuple"]=some (hV d || fJ d):=by cases d<;>rfl
theorem yp{K:wa}{H:Hp}{Q:VK}{v:V}{tp:wd}{d:wu}(h:Is K H v d)(t:H tp=some (.tup [.ty "list",.ty "tuple"]))(q:Q (.bl (hV d || fJ d)) H):rE K [v,.ref tp] H Q :=
 ⟨v,tp,"list","tuple",d,_,rfl,.of t,h,SQ d,q⟩
section
variable{X:Cx}{tg:Expr}
def Kt(K:wa)(tl:TE):TI:=λσ H R=>tl σ H λx H1=>(∃a,x=.ref a/\(∃xs,aN K H1 a xs)/\R (iK K a) H1)\/(∃a,x=.ref a/\(∃xs,aP K H1 a xs)/\R (rW K a) H1)
theorem kQ{l:Expr}{tl:TE}(hl:PE X l tl):PI X tg l (Kt X.K tl):=by
 intro pins s σ H R I h;refine aq (hl pins s σ H _ I h) λv s1 ⟨x,H1,I1,r1,q1⟩=>?_
 rcases q1 with⟨a,e,⟨xs,hq⟩,q⟩ | ⟨a,e,⟨xs,hq⟩,q⟩
 ·subst e
  cases r1;obtain⟨its,rv,p,hz⟩:=I1.list hq;refine W8 p.isList ?_;refine⟨s1.heap.objs.size,[s1.heap.objs.size],_,_,H1,rfl,I1.kept (t':=s1.toks) λb o e=>wk _ e,HR a _,⟨_,wE _ rfl,rfl,rfl⟩,λb hb=>?_,q⟩;have e:b=s1.heap.objs.size:=by simpa using hb
  subst e;exact I1.iO (wx _) (I1.ar.fresh (wx _))
 ·subst e
  cases r1;obtain⟨its,rv,p,hz⟩:=I1.tuple hq;refine Vf (show s1.heap.IsTuple a its.toArray from p) ?_;refine⟨s1.heap.objs.size,[s1.heap.objs.size],_,_,H1,rfl,I1.kept (t':=s1.toks) λb o e=>wk _ e,G6 a _,⟨_,wE _ rfl,rfl,rfl⟩,λb hb=>?_,q⟩;have e:b=s1.heap.objs.size:=by simpa using hb
  subst e;exact I1.iO (wx _) (I1.ar.fresh (wx _))
end
section
variable{K:wa}{g:TG}{tt:TT}{te ta tb' tc:TE}{tb:TS}{D:ck}{src:List (Option Nat)}{σ : St}{H:Hp}{Q:VK}{r r':R2}
theorem Z_(h:ta σ H λx H1=>lZ K g tt te src σ x H1 Q\/lR K g tt te src σ x H1 Q):jG src (Kt K ta) g tt te σ H Q:=h
theorem zub(h:ta σ H λx H1=>tb' σ H1 λy H2=>r x y H2 λz H3=>∃k,z=.bl k/\(if k=true then tc σ H3 λw' H4=>r' y w' H4 Q else Q (.bl false) H3)):zj r r' ta tb' tc σ H Q:=h
theorem zx6{b:Bool}{P:Bool->Prop}(h:P b):∃k,V.bl b=.bl k/\P k:=⟨b,rfl,h⟩
end
def sF(a b:Rat)(xs:List Rat):wu:=.tuple [R a b,TN xs]
theorem Iv{x y:Rat}(h:N x=N y):x=y:=by
 have h':PyData.tuple [.int x.num,.int (x.den:Int)]=PyData.tuple [.int y.num,.int (y.den:Int)]:=h
 injection h' with h1
 injection h1 with h2 h3
 injection h2 with h4
 injection h3 with h5 _
 injection h5 with h6
 exact Rat.ext h4 (by lia)
theorem dz{K:wa}{H:Hp}{us:List V}{ds:List wu}{i:Nat}{x:V}(t:ay K H us ds)(h:us[i]? = some x):i<ds.length/\Is K H x (ds.getD i .none):=by
 have hl:=t.length
 have hi:i<ds.length:=by
  rcases w9 i ds.length with z | z
  ·exact z
  ·rw[Wh (by lia)]at h;cases h
 obtain⟨y,e,k⟩:=t.get (i:=i) (d:=ds.getD i .none) (by rw[wf,wb hi];rfl);rw[e]at h;cases h;exact⟨hi,k⟩
section
variable{K:wa}{ta:TA}{g:TG}{tb:TS}{tt c:TT}{te:TE}{D:ck}{σ : St}{H:Hp}{Q:VK}{a:wd}{xs:List V}{src:List (Option Nat)}{o0 o0':Option V}{tl:St}
def pM(K:wa)(x:V)(H:Hp)(Q:Bool->Hp->Prop):Prop:=∃k,CH K x H k/\Q k H
def Gp(K:wa)(te:TE):TT:=λσ H Q=>te σ H λx H'=>pM K x H' Q
theorem B9{X:Cx}{e:Expr}{t:TE}(h:PE X e t)(he:∀whole,isTrue e X.env whole=(do let v <- whole;standAt e.pos;holding [v] (truthy v)):=by intro _;rfl):PT X e (Gp X.K t):=zs3 h he
theorem OT{QB:Bool->Hp->Prop}(h:te σ H λx H'=>pM K x H' QB):Gp K te σ H QB:=h
theorem JO{QB:Bool->Hp->Prop}{v:V}{ds:List wu}(h:Is K H v (.list ds))(q:QB (!ds.isEmpty) H):pM K v H QB:=by
 obtain⟨p,us,rfl,hs,t⟩:=bO.mp h;have hl:=t.length;refine⟨_,.inl ⟨us,hs,rfl⟩,?_⟩
 have e:us.isEmpty=ds.isEmpty:=by
  cases us<;>cases ds<;>simp_all
 rw[e];exact q
end
section
variable{K:wa}{H H':Hp}{Q:VK}{v:V}{p:wd}{l:List Nat}{w:Nat}
theorem ay.snoc{vs:List V}{ds:List wu}{d:wu}(h:ay K H vs ds)(k:Is K H v d):ay K H (vs++[v]) (ds++[d]):=h.append (.cons k .nil)
theorem YX{ds:List wu}{d:wu}{j:Nat}(h:Is K H v (.list ds))(e:ds[j]? = some d)(q:∀x,Is K H x d->Q x H):dk K v (.int (j:Int)) H Q:=by
 obtain⟨a,xs,rfl,h,t⟩:=bO.mp h;obtain⟨x,e1,hx⟩:=t.get e;exact cG h (cP e1) (q x hx)
end
theorem IC{P:wu->Prop}{a b:wu}(ha:P a)(hb:P b):∀d∈[a,b],P d:=λd hd=>by
 simp only[wO,WH,or_false]at hd;rcases hd with rfl | rfl
 ·exact ha
 ·exact hb
def Sh(n:Nat)(d:wu):Prop:=d.canLay0=true/\d.depth<=n
theorem B_{n:Nat} : ∀ds:List wu,(∀d∈ds,Sh n d)->V6 ds=true/\qZ ds<=n
 | [],_=>by simp[V6,qZ]
 | d::ds,h=>by
  have h1:=h d (vc ..);have h2:=B_ ds λe he=>h e (wI _ he)
  rw[V6,qZ,h1.1,h2.1];exact⟨rfl,by have:=h1.2;have:=h2.2;lia⟩
theorem zxQ{n:Nat}{ds:List wu}(h:∀d∈ds,Sh n d):Sh (n+1) (.tuple ds):=by
 have:=B_ ds h;unfold Sh;rw[Wd,VG];exact⟨this.1,by have:=this.2;lia⟩
theorem ZF{n:Nat}{ds:List wu}(h:∀d∈ds,Sh n d):Sh (n+1) (.list ds):=by
 have:=B_ ds h;unfold Sh;rw[Wd,VG];exact⟨this.1,by have:=this.2;lia⟩
theorem Sh.mono{m n:Nat}{d:wu}(h:Sh m d)(e:m<=n):Sh n d:=⟨h.1,vd h.2 e⟩
theorem Sh.shaped{n:Nat}{d:wu}(h:Sh n d)(e:n<=64):vV d=true:=by
 unfold vV;rw[h.1,wP];exact decide_eq_true (vd h.2 e)
theorem t_{K:wa}{H:Hp} : ∀{ds:List wu}{vs:List V},vs.length=ds.length->(∀i x,vs[i]? = some x->Is K H x (ds.getD i .none))->ay K H vs ds
 | [],[],_,_=>.nil
 | [],_::_,h,_=>by simp at h
 | _::_,[],h,_=>by simp at h
 | d::ds,v::vs,h,e=>.cons (e 0 v rfl) (t_ (by simpa using h) λi x hx=>e (i+1) x hx)
section
variable{K:wa}{H H':Hp}{Q:VK}{D:ck}{σ : St}{td ty tv:TE}{a:wd}{kvs:List (Key × V)}{k:Int}{v:V}
end
theorem Rf{α : Type}{ys:List α}{j:Nat}{y : α}(h:ys[j]? = some y):j<ys.length:=by
 rcases w9 j ys.length with z | z
 ·exact z
 ·rw[Wh z]at h;cases h
section
variable{K:wa}{ta:TA}{g:TG}{tt:TT}{te:TE}{σ : St}{H:Hp}{Q:VK}{a:wd}{xs:List V}{src:List (Option Nat)}
end
def yt(K:wa):R2:=λx y H Q=>∃d ds,Is K H x d/\Is K H y (.tuple ds)/\Sh 60 d/\Wd (.tuple ds)=true/\Q (.bl (ds.any λe=>Wm e d)) H
theorem Lk{X:Cx}(hu:X.A.units+64<cLine):ax X (wQ .In) (yt X.K):=by
 intro pins s σ H x y v u Q I rx ry h;obtain⟨d,ds,hd,he,sd,se,q⟩:=h;obtain⟨as,h1⟩:=I.reads d x v sd.1 hd rx;obtain⟨bs,h2⟩:=I.reads (.tuple ds) y u se he ry;have sd2:=sd.2;have hm:=XV (qZ ds) d.depth;exact SeqAt.in_tuple_reads h2 h1 (by rw[Wd]at se;exact se) sd.1 (by lia) ⟨.bl _,H,I,rfl,q⟩
section
variable{K:wa}{H:Hp}{Q:VK}{v w:V}{ds:List wu}{n:Nat}{l b:wd}{xs zs:List V}
theorem A0{k:Int}(h:H l=some (.lst xs))(h0 : -1000<=k)(h1:k<=1000)(z:xs.length*k.toNat<=1000)(q:∀p H',H p=none->af H H'->H' p=some (.lst (w6 k.toNat xs).flatten)->Q (.ref p) H'):j4 (.ref l) (.int k) H Q :=
 ⟨l,k,xs,rfl,rfl,h,by lia,by lia,by have:=lg z;lia,λp hp=>q p _ hp (af.upd hp) cb⟩
end
section
open PyProof.V PySem.Calls PySem.W
variable{prog:wV}{w:wR}{A:vm}{E:wg->wo->Prop}{s:wo}
end
abbrev rg(h:wK)(a:wd):wK:=h.push {cls:=.type "tuple_iterator",data:=.fields #[.ref a,.int 0 0]}
abbrev tF(h:wK)(a b:wd):wK:=(rg h a).push {cls:=.type "list_iterator",data:=.fields #[.ref b,.int 0 0]}
abbrev sk(h:wK)(a b:wd):wK:=(tF h a b).push {cls:=.type "tuple",data:=.seq #[.ref h.objs.size,.ref (rg h a).objs.size]}
abbrev pT(h:wK)(a b:wd):wK:=(sk h a b).push {cls:=.type "tuple",data:=.seq #[.none,.none]}
abbrev lG(h:wK)(a b:wd):wK:=(pT h a b).push {cls:=.type "zip",data:=.fields #[.none,.bool false,.bool false,.ref (tF h a b).objs.size,.ref (sk h a b).objs.size]}
theorem TY(a b:wd)(xs ys:Array wg):Meets (Builtin.«zip.__new__» ⟨[.type "zip",.ref a,.ref b],[]⟩) (λ_ R s=>s.heap.IsTuple a xs/\s.heap.IsList b ys/\R (.ok (.ret (.ref (pT s.heap a b).objs.size))) {s with heap:=lG s.heap a b}) :=
 .of_wp λprog w A R s h=>by
  obtain⟨hp,g,d,tk,os⟩:=s;obtain⟨ha,hb,h⟩:=h;have hsub:=sub_zip;have hA:Q6 (qL ⟨hp,g,d,tk,os⟩) a xs:=ha;have hB:Heap.IsList (qL ⟨hp.push {cls:=.type "tuple_iterator",data:=.fields #[.ref a,.int 0 0]},g,d,tk,os⟩) b ys:=Heap.IsList.push hb _
  wp_walk using Vf hA,W8 hB
  exact⟨_,rfl,h⟩
section
variable{prog:wV}{w:wR}{A:vm}{E:wg->wo->Prop}{s:wo}
theorem OM{a b:wd}{xs ys:Array wg}{Q:wg->wo->Prop}(ha:s.heap.IsTuple a xs)(hb:s.heap.IsList b ys)
  (fin:∀h',IsZip h' (s.heap.objs.size+4) (s.heap.objs.size+2) (s.heap.objs.size+3) .none->WV h' (s.heap.objs.size+2) (.ref s.heap.objs.size) (.ref (s.heap.objs.size+1))->WV h' (s.heap.objs.size+3) .none .none ->
   h'.IsTupleIter s.heap.objs.size a 0->h'.IsListIter (s.heap.objs.size+1) b 0->(∀c o,s.heap.get? c=some o->h'.get? c=some o)->Q (.ref (s.heap.objs.size+4)) {s with heap:=h'}):wA (model prog w) A (call (.type "zip") [.ref a,.ref b]) Q E s:=by
 refine callType_new Xk (by decide) (Q7 _ _) (xt _ _) (λobj=>qY obj _ _) xu (TY a b xs ys) ⟨ha,hb,?_⟩;have z1:(rg s.heap a).objs.size=s.heap.objs.size+1:=vS ..;have z2:(tF s.heap a b).objs.size=s.heap.objs.size+2:=by rw[vS,z1]
 have z3:(sk s.heap a b).objs.size=s.heap.objs.size+3:=by rw[vS,z2]
 have z4:(pT s.heap a b).objs.size=s.heap.objs.size+4:=by rw[vS,z3]
 have g5:(lG s.heap a b).get? (pT s.heap a b).objs.size=some _:=wE _ rfl;have g4:(lG s.heap a b).get? (sk s.heap a b).objs.size=some _:=wk _ (wE _ rfl);have g3:(lG s.heap a b).get? (tF s.heap a b).objs.size=some _:=wk _ (wk _ (wE _ rfl));have g2:(lG s.heap a b).get? (rg s.heap a).objs.size=some _:=wk _ (wk _ (wk _ (wE _ rfl)));have g1:(lG s.heap a b).get? s.heap.objs.size=some _:=wk _ (wk _ (wk _ (wk _ (wE _ rfl))))
 show _/\_
 rw[z2,z3,z4]at g5;rw[z1,z2]at g3;rw[z3]at g4;rw[z1]at g2;rw[z4];exact⟨⟨_,g5,rfl⟩,fin _ g5 g3 g4 ⟨_,g1,rfl,rfl⟩ ⟨_,g2,rfl,rfl⟩ λc o x=>wk _ (wk _ (wk _ (wk _ (wk _ x))))⟩
end
section
variable{X:Cx}{x:Str}{G:wg}{b₀ : vq}{body suite:List vq}{np hpos pos:Pos}{tb:(St->XK)->TS}{th:TS}
end
theorem zw2:vR "set"=some (.type "set"):=by decide +kernel
section
variable{K:wa}{H:Hp}{Q:VK}{p:wd}{ns:List Int}
end
def zN(K:wa):List V->Hp->VK->Prop:=λxs H Q=>rE K xs H Q \/ ∃(p tp:wd)(S T:String)(kvs:List (List Key × V))(b:Bool),xs=[.ref p,.ref tp]/\aP K H tp [.ty S,.ty T]/\H p=some (.dT kvs)/\qa K (.type "dict") [.type S,.type T]=some b/\Q (.bl b) H
theorem Zf{X:Cx} : ao X (.builtin "isinstance") (zN X.K):=by
 intro pins s σ H xs us Q I r h;rcases h with h | h
 ·exact J5 pins s σ H xs us Q I r h
 ·obtain⟨p,tp,S,T,kvs,b,rfl,ht,hp,e,q⟩:=h
  obtain⟨u,w',rfl,rx,rt⟩:=iQ r;cases (show w'=Value.ref tp from rt);cases (show u=Value.ref p from rx);obtain⟨tts,rv,⟨ot,ht1,ht2,n,ht3⟩,_⟩:=I.tuple ht;obtain⟨t1,t2,rfl,r1,r2⟩:=iQ rv;cases (show t1=Value.type S from r1);cases (show t2=Value.type T from r2);obtain⟨c,dd,da,sl⟩:=ot;cases ht2;cases ht3;obtain⟨_,_,vs,_,o,es,ep,h1,h2,_⟩:=(show cF X.prog X.w H s.heap p (.dT kvs)from I.ar p _ hp);exact WR QT I.cq ⟨o,h1,h2.1⟩ ht1 e (λz=>nomatch z) λtk=>⟨.bl b,H,I.tok _,rfl,q⟩
theorem Yd{K:wa}{H:Hp}{Q:VK}{p tp:wd}{kvs:List (List Key × V)}(h:H p=some (.dT kvs))(t:H tp=some (.tup [.ty "list",.ty "tuple"]))(q:Q (.bl false) H):zN K [.ref p,.ref tp] H Q :=
 .inr ⟨p,tp,"list","tuple",kvs,false,rfl,.of t,h,rfl,q⟩
abbrev rf(h:wK)(a:wd):wK:=h.push {cls:=.type "list_iterator",data:=.fields #[.ref a,.int 0 0]}
abbrev oR(h:wK)(a b:wd):wK:=(rf h a).push {cls:=.type "tuple_iterator",data:=.fields #[.ref b,.int 0 0]}
abbrev tH(h:wK)(a b:wd):wK:=(oR h a b).push {cls:=.type "tuple",data:=.seq #[.ref h.objs.size,.ref (rf h a).objs.size]}
abbrev pE(h:wK)(a b:wd):wK:=(tH h a b).push {cls:=.type "tuple",data:=.seq #[.none,.none]}
abbrev kR(h:wK)(a b:wd):wK:=(pE h a b).push {cls:=.type "zip",data:=.fields #[.none,.bool false,.bool false,.ref (oR h a b).objs.size,.ref (tH h a b).objs.size]}
theorem UL(a b:wd)(xs ys:Array wg):Meets (Builtin.«zip.__new__» ⟨[.type "zip",.ref a,.ref b],[]⟩) (λ_ R s=>s.heap.IsList a xs/\s.heap.IsTuple b ys/\R (.ok (.ret (.ref (pE s.heap a b).objs.size))) {s with heap:=kR s.heap a b}) :=
 .of_wp λprog w A R s h=>by
  obtain⟨hp,g,d,tk,os⟩:=s;obtain⟨ha,hb,h⟩:=h;have hsub:=sub_zip;have hA:Heap.IsList (qL ⟨hp,g,d,tk,os⟩) a xs:=ha;have hB:Q6 (qL ⟨hp.push {cls:=.type "list_iterator",data:=.fields #[.ref a,.int 0 0]},g,d,tk,os⟩) b ys:=Heap.IsTuple.push hb _
  wp_walk using W8 hA,Vf hB
  exact⟨_,rfl,h⟩
section
variable{prog:wV}{w:wR}{A:vm}{E:wg->wo->Prop}{s:wo}
theorem SS{a b:wd}{xs ys:Array wg}{Q:wg->wo->Prop}(ha:s.heap.IsList a xs)(hb:s.heap.IsTuple b ys)
  (fin:∀h',IsZip h' (s.heap.objs.size+4) (s.heap.objs.size+2) (s.heap.objs.size+3) .none->WV h' (s.heap.objs.size+2) (.ref s.heap.objs.size) (.ref (s.heap.objs.size+1))->WV h' (s.heap.objs.size+3) .none .none ->
   h'.IsListIter s.heap.objs.size a 0->h'.IsTupleIter (s.heap.objs.size+1) b 0->(∀c o,s.heap.get? c=some o->h'.get? c=some o)->Q (.ref (s.heap.objs.size+4)) {s with heap:=h'}):wA (model prog w) A (call (.type "zip") [.ref a,.ref b]) Q E s:=by
 refine callType_new Xk (by decide) (Q7 _ _) (xt _ _) (λobj=>qY obj _ _) xu (UL a b xs ys) ⟨ha,hb,?_⟩;have z1:(rf s.heap a).objs.size=s.heap.objs.size+1:=vS ..;have z2:(oR s.heap a b).objs.size=s.heap.objs.size+2:=by rw[vS,z1]
 have z3:(tH s.heap a b).objs.size=s.heap.objs.size+3:=by rw[vS,z2]
 have z4:(pE s.heap a b).objs.size=s.heap.objs.size+4:=by rw[vS,z3]
 have g5:(kR s.heap a b).get? (pE s.heap a b).objs.size=some _:=wE _ rfl;have g4:(kR s.heap a b).get? (tH s.heap a b).objs.size=some _:=wk _ (wE _ rfl);have g3:(kR s.heap a b).get? (oR s.heap a b).objs.size=some _:=wk _ (wk _ (wE _ rfl));have g2:(kR s.heap a b).get? (rf s.heap a).objs.size=some _:=wk _ (wk _ (wk _ (wE _ rfl)));have g1:(kR s.heap a b).get? s.heap.objs.size=some _:=wk _ (wk _ (wk _ (wk _ (wE _ rfl))))
 show _/\_
 rw[z2,z3,z4]at g5;rw[z1,z2]at g3;rw[z3]at g4;rw[z1]at g2;rw[z4];exact⟨⟨_,g5,rfl⟩,fin _ g5 g3 g4 ⟨_,g1,rfl,rfl⟩ ⟨_,g2,rfl,rfl⟩ λc o x=>wk _ (wk _ (wk _ (wk _ (wk _ x))))⟩
end
end L2
namespace TB
open PySem
def iT(xs:Array Nat):Prop:=∀i j,i<j->j<xs.size->xs.getD i 0<xs.getD j 0
theorem ZV{xs:Array Nat}{i:Nat}(h:i<xs.size)(d e:Nat):xs.getD i d=xs.getD i e:=by
 simp[uo,h]
theorem Aw(xs:Array Nat)(j:Nat)(R:iT xs):∀(fuel lo hi:Nat),hi<=xs.size->lo<=hi->hi-lo<=fuel->(∀k,k<lo->xs.getD k 0<j)->(∀k,hi<=k->k<xs.size->j<=xs.getD k 0) ->
  (qH xs j fuel lo hi<=xs.size/\(∀k,k<qH xs j fuel lo hi->xs.getD k 0<j)/\(∀k,qH xs j fuel lo hi<=k->k<xs.size->j<=xs.getD k 0))
 | 0,lo,hi,h1,h2,h3,a,b=>by
  have:lo=hi:=by lia
  subst this;exact⟨h1,a,b⟩
 | fuel+1,lo,hi,h1,h2,h3,a,b=>by
  unfold qH
  by_cases c:lo<hi
  ·rw[if_pos c]
   have m1:(lo+hi) / 2<hi:=by lia
   have m2:lo<=(lo+hi) / 2:=by lia
   dsimp only;rw[ZV (ve m1 h1) j 0]
   by_cases d:xs.getD ((lo+hi) / 2) 0<j
   ·rw[if_pos d]
    refine Aw xs j R fuel _ hi h1 m1 (by lia) (λk hk=>?_) b;rcases w9 k ((lo+hi) / 2)with q | q
    ·exact Xg (R k _ q (by lia)) d
    ·have:k=(lo+hi) / 2:=by lia
     rw[this];exact d
   ·rw[if_neg d]
    refine Aw xs j R fuel lo _ (by lia) m2 (by lia) a (λk hk hk'=>?_);rcases W4 hk with q | q
    ·rw[<- q];lia
    ·have:=R _ k q hk';lia
  ·rw[if_neg c]
   have:lo=hi:=by lia
   subst this;exact⟨h1,a,b⟩
theorem Jm{xs:Array Nat}(R:iT xs)(j:Nat):Ww xs j<=xs.size/\(∀k,k<Ww xs j->xs.getD k 0<j)/\(∀k,Ww xs j<=k->k<xs.size->j<=xs.getD k 0) :=
 Aw xs j R xs.size 0 xs.size (wx _) (vM _) (by lia) (λk h=>absurd h (Wn k)) (λk h h'=>absurd h' (by lia))
theorem zzK{xs:Array Nat}{i:Nat}(h:i<xs.size):xs[i]? = some (xs.getD i 0):=by simp[uo,h]
theorem Gy{t:Wq}(R:iT t.place)(D:t.dummies = #[])(j:Nat) :
  (∃i,i<t.place.size/\t.place.getD i 0=j/\t.slot j=.live i)\/((∀i,i<t.place.size->t.place.getD i 0≠j)/\t.slot j=.empty):=by
 obtain⟨h1,h2,h3⟩:=Jm R j;unfold SetTable.slot;dsimp only;have hd:Xl t.dummies j=false:=by rw[D];rfl
 rw[hd];rcases w9 (Ww t.place j) t.place.size with q | q
 ·rw[zzK q]
  by_cases e:t.place.getD (Ww t.place j) 0=j
  ·exact .inl ⟨_,q,e,by simp[e]⟩
  ·refine .inr ⟨λi hi he=>?_,by generalize t.place.getD (Ww t.place j) 0=z at e;simp[e]⟩
   rcases w9 i (Ww t.place j)with a | a
   ·have:=h2 i a;lia
   ·rcases W4 a with b | b
    ·rw[<- b]at he;exact e he
    ·have:=R _ i b hi
     have:=h3 _ (wx _) q
     lia
 ·have:t.place[Ww t.place j]? = none:=qM q
  rw[this];refine .inr ⟨λi hi he=>?_,by simp⟩;have:=h2 i (by lia);lia
def g(x:Nat):Nat:=x*5+1
def it(n x:Nat):Nat:=match n with | 0=>x | n+1=>g (it n x)
def s:Nat->Nat | 0=>0 | n+1=>5*s n+1
theorem LM(n:Nat):5^n=4*s n+1:=by
 induction n with
 | zero=>rfl
 | succ n ih=>rw[W5,ih];show _=4*(5*s n+1)+1;lia
theorem zyP(n x:Nat):it n x=5^n*x+s n:=by
 induction n with
 | zero=>show x=5^0*x+0;simp
 | succ n ih =>
  show g (it n x)=5^(n+1)*x+(5*s n+1)
  rw[ih,W5];unfold g;rw[WZ,XD (5^n) 5 x];lia
theorem Sm(m n x:Nat):it (m+n) x=it m (it n x):=by
 induction m with
 | zero=>rw[Nat.zero_add];rfl
 | succ m ih=>rw[Nat.succ_add];show g (it (m+n) x)=g (it m (it n x));rw[ih]
theorem zy1(m n:Nat):s (m+n)=5^m*s n+s m:=by
 induction m with
 | zero=>simp[s]
 | succ m ih =>
  rw[Nat.succ_add]
  show 5*s (m+n)+1=5^(m+1)*s n+(5*s m+1)
  rw[ih,W5,WZ,XD (5^m) 5];lia
theorem zyL(k:Nat):∃o,s (2^k)=2^k*(2*o+1):=by
 induction k with
 | zero=>exact⟨0,rfl⟩
 | succ k ih =>
  obtain⟨o,ho⟩:=ih
  have e:s (2^(k+1))=2^(k+1)*((2*o+1)*(2*s (2^k)+1)):=by
   have:2^(k+1)=2^k+2^k:=by rw[W5];lia
   rw[this,zy1,LM];generalize hs:s (2^k)=S at *
   have h2:(2^k+2^k)*((2*o+1)*(2*S+1))=2*(2^k*(2*o+1))*(2*S+1):=by
    rw[<- Nat.two_mul,<- WZ,WZ 2]
   rw[h2,<- ho];generalize S*S=z at *;have:(4*S+1)*S=4*(S*S)+S:=by rw[XN,WZ,XO]
   rw[this]
   have:2*S*(2*S+1)=4*(S*S)+2*S:=by
    rw[XQ,Nat.mul_one,Nat.mul_mul_mul_comm]
   rw[this];lia
  refine⟨o*(2*s (2^k)+1)+s (2^k),?_⟩;rw[e]
  congr 1
  rw[XN,XO,WZ]
  lia
theorem So(M c a:Nat):(4*(M*c)+1)*a+M*c=a+M*(c*(4*a+1)):=by
 rw[XN,XO,XQ c,Nat.mul_one,XQ M];have:4*(M*c)*a=M*(c*(4*a)):=by rw[qu 4,WZ,WZ]
 lia
theorem PY(k:Nat):∀x y:Nat,∃n,n<2^k/\it n x % 2^k=y % 2^k:=by
 induction k with
 | zero=>intro x y;exact⟨0,by decide,by simp[Nat.mod_one]⟩
 | succ k ih =>
  intro x y;obtain⟨n,hn,e⟩:=ih x y;have hp:0<2^k:=Nat.pow_pos (by decide);have h2:2^(k+1)=2^k*2:=W5 ..;obtain⟨o,ho⟩:=zyL k;generalize hM:2^k=M at *;rw[h2]
  by_cases c:it n x / M % 2=y / M % 2
  ·refine⟨n,by lia,?_⟩
   rw[xC,xC,e,c]
  ·refine⟨M+n,by lia,?_⟩
   rw[Sm,zyP,LM,ho];generalize it n x=a at *;rw[So,xC,xC,Nat.add_mul_mod_self_left,e,Nat.add_mul_div_left _ _ hp]
   have:(2*o+1)*(4*a+1) % 2=1:=by
    rw[XR];have h1:(2*o+1) % 2=1:=by lia
    have h2:(4*a+1) % 2=1:=by lia
    rw[h1,h2]
   congr 2
   lia
open SetTable (Probe leap runEnd bits turns)
def fN(mask:Nat)(p:Probe):Probe :=
 if p.more > 0 then {p with j:=p.j+1,more:=p.more-1}else
 {p with j:=(leap mask p.i p.perturb).1,more:=runEnd mask (leap mask p.i p.perturb).1-(leap mask p.i p.perturb).1,i:=(leap mask p.i p.perturb).1,perturb:=(leap mask p.i p.perturb).2}
def way(mask:Nat)(p:Probe):Nat->Probe | 0=>p | n+1=>fN mask (way mask p n)
def fW(mask i b:Nat):Probe:={j:=i,more:=runEnd mask i-i,i:=i,perturb:=b,dummy:=none}
def start(mask:Nat)(h:Int):Probe:=fW mask (bits h % (mask+1)) (bits h)
def lp(mask i b:Nat):Nat->Nat × Nat | 0=>(i,b) | n+1=>leap mask (lp mask i b n).1 (lp mask i b n).2
theorem sa(mask:Nat)(p:Probe)(m:Nat):∀n,way mask p (m+n)=way mask (way mask p m) n
 | 0=>rfl
 | n+1=>by show fN mask (way mask p (m+n))=fN mask (way mask (way mask p m) n);rw[sa mask p m n]
theorem Iz(mask:Nat)(p:Probe):∀n,(way mask p n).dummy=p.dummy
 | 0=>rfl
 | n+1=>by
  show(fN mask (way mask p n)).dummy=p.dummy
  rw[<- Iz mask p n];unfold fN;split<;>rfl
theorem oh(mask i b:Nat):∀n,n<=runEnd mask i-i->way mask (fW mask i b) n = {j:=i+n,more:=runEnd mask i-i-n,i:=i,perturb:=b,dummy:=none}
 | 0,_=>rfl
 | n+1,h=>by
  show fN mask (way mask (fW mask i b) n)=_
  rw[oh mask i b n (by lia)];unfold fN;dsimp only;rw[if_pos (by lia)]
  congr 1
theorem Bm(mask i b:Nat):way mask (fW mask i b) (runEnd mask i-i+1)=fW mask (leap mask i b).1 (leap mask i b).2:=by
 show fN mask (way mask (fW mask i b) (runEnd mask i-i))=_
 rw[oh mask i b _ (wx _)];unfold fN;dsimp only;rw[if_neg (by lia)]
 rfl
theorem zxs(mask i:Nat):runEnd mask i-i<=9:=by unfold runEnd;split<;>lia
theorem LO(mask i b:Nat):∀m,∃n,n<=10*m/\way mask (fW mask i b) n=fW mask (lp mask i b m).1 (lp mask i b m).2
 | 0=>⟨0,wx _,rfl⟩
 | m+1=>by
  obtain⟨n,hn,e⟩:=LO mask i b m;have:=zxs mask (lp mask i b m).1;refine⟨n+(runEnd mask (lp mask i b m).1-(lp mask i b m).1+1),by lia,?_⟩;rw[sa,e,Bm];rfl
theorem LC(mask i b:Nat):∀n,(lp mask i b n).2=b / 32^n
 | 0=>by simp[lp]
 | n+1=>by
  show(lp mask i b n).2 / 32=_
  rw[LC mask i b n,W5,xD]
theorem FX(mask i b c:Nat)(h:b / 32^c=0):∀n,(lp mask i b (c+1+n)).1=it n (lp mask i b (c+1)).1 % (mask+1)
 | 0=>by
  show(lp mask i b (c+1)).1=(lp mask i b (c+1)).1 % (mask+1)
  show _ % _=_ % _ % _
  rw[Nat.mod_mod]
 | n+1=>by
  show((lp mask i b (c+1+n)).1*5+1+(lp mask i b (c+1+n)).2 / 32) % (mask+1)=g (it n _) % _
  have:(lp mask i b (c+1+n)).2 / 32=0:=by
   rw[LC]
   have:b / 32^(c+1+n)=0:=by
    rw[Nat.add_assoc,XM,<- xD,h,Nat.zero_div]
   rw[this]
  rw[this,FX mask i b c h n];unfold g;rw[Nat.add_zero,Nat.add_mod,XR,Nat.mod_mod,<- XR,<- Nat.add_mod]
theorem FG(h:Int):bits h<2^64:=by unfold bits;lia
theorem Hz{mask k:Nat}(hm:mask+1=2^k){i b:Nat}(hb:b<2^64){j:Nat}(hj:j<=mask):∃m,m<=mask+14/\(lp mask i b m).1=j:=by
 have h0:b / 32^13=0:=Nat.div_eq_of_lt (ve hb (by decide));obtain⟨n,hn,e⟩:=PY k (lp mask i b 14).1 j;refine⟨13+1+n,by lia,?_⟩;rw[FX mask i b 13 h0,hm,e,Nat.mod_eq_of_lt (by lia)]
theorem Pz{mask k:Nat}(hm:mask+1=2^k){i b:Nat}(hb:b<2^64){j:Nat}(hj:j<=mask):∃n,n<10*turns mask/\(way mask (fW mask i b) n).j=j:=by
 obtain⟨m,hm',e⟩:=Hz hm (i:=i) hb hj;obtain⟨n,hn,e'⟩:=LO mask i b m;refine⟨n,by unfold turns;lia,?_⟩;rw[e'];exact e
theorem Bq{mask i:Nat}(h:i<=mask):i<=runEnd mask i/\runEnd mask i<=mask:=by unfold runEnd;split<;>lia
theorem HV{mask:Nat}{p:Probe}(h:p.j+p.more<=mask):∀n,(way mask p n).j+(way mask p n).more<=mask
 | 0=>h
 | n+1=>by
  have ih:=HV h n
  show(fN mask (way mask p n)).j+(fN mask (way mask p n)).more<=mask
  unfold fN
  split
  ·dsimp only;lia
  ·dsimp only
   have:(leap mask (way mask p n).i (way mask p n).perturb).1<=mask:=by
    unfold leap;dsimp only;exact Vp (xT _ (qV _))
   have:=Bq this
   lia
theorem RA(mask:Nat)(h:Int)(n:Nat):(way mask (start mask h) n).j<=mask:=by
 have h1:bits h % (mask+1)<=mask:=Vp (xT _ (qV _));have h2:=Bq h1;have:=HV (mask:=mask) (p:=start mask h) (by unfold start fW;dsimp only;lia) n
 lia
def In(t:Wq)(j:Nat):Prop:=∃i,i<t.place.size/\t.place.getD i 0=j
structure Tb(t:Wq)(hs:List Int):Prop where
 hW:iT t.place
 size:t.place.size=hs.length
 kM:t.dummies = #[]
 two:∃k,3<=k/\t.mask+1=2^k
 le:∀i,i<t.place.size->t.place.getD i 0<=t.mask
 room:t.place.size<=t.mask
 path:∀i,i<t.place.size->∃n,(way t.mask (start t.mask (hs.getD i 0)) n).j=t.place.getD i 0 /\ ∀m,m<n->In t (way t.mask (start t.mask (hs.getD i 0)) m).j
theorem zyB{P:Nat->Prop}{n:Nat}(h:P n):∃m,m<=n/\P m /\ ∀k,k<m->¬ P k:=by
 induction n using VT with
 | _ n ih =>
  by_cases c:∃k,k<n/\P k
  ·obtain⟨k,hk,hp⟩:=c
   obtain⟨m,h1,h2,h3⟩:=ih k hk hp;exact⟨m,by lia,h2,h3⟩
  ·exact⟨n,wx _,h,λk hk hp=>c ⟨k,hk,hp⟩⟩
theorem zh{xs:Array Nat}(R:iT xs){i j:Nat}(hi:i<xs.size)(hj:j<xs.size)(e:xs.getD i 0=xs.getD j 0):i=j:=by
 rcases QU i j with q | q | q
 ·have:=R i j q hj;lia
 ·exact q
 ·have:=R j i q hi;lia
theorem Mc{t:Wq}(R:iT t.place):∀j,(∀j',j'<=j->In t j')->∃i,i<t.place.size/\t.place.getD i 0=j/\j<=i
 | 0,h=>by obtain⟨i,hi,e⟩:=h 0 (wx _);exact⟨i,hi,e,vM _⟩
 | j+1,h=>by
  obtain⟨i,hi,e,hle⟩:=Mc R j λj' hj'=>h j' (by lia)
  obtain⟨i',hi',e'⟩:=h (j+1) (wx _);refine⟨i',hi',e',?_⟩;rcases QU i i' with q | q | q
  ·lia
  ·subst q;lia
  ·have:=R i' i q hi;lia
theorem Tb.gap{t:Wq}{hs:List Int}(b:Tb t hs):∃j,j<=t.mask /\ ¬ In t j:=by
 refine Vv λc=>?_
 obtain⟨i,hi,e,hle⟩:=Mc b.hW t.place.size λj' hj'=>Vv λd=>c ⟨j',vd hj' b.room,d⟩
 lia
theorem Tb.free{t:Wq}{hs:List Int}(b:Tb t hs)(h:Int):∃n,n<10*turns t.mask /\ ¬ In t (way t.mask (start t.mask h) n).j /\ ∀m,m<n->In t (way t.mask (start t.mask h) m).j:=by
 obtain⟨j,hj,hn⟩:=b.gap;obtain⟨k,_,hk⟩:=b.two;obtain⟨n,hn',e⟩:=Pz hk (i:=bits h % (t.mask+1)) (FG h) hj;obtain⟨m,h1,h2,h3⟩:=zyB (P:=λn=>¬ In t (way t.mask (start t.mask h) n).j) (n:=n) (by show ¬ In t _;unfold start;rw[e];exact hn);exact⟨m,by lia,h2,λk hk=>Vv (h3 k hk)⟩
theorem Km{t:Wq}(R:iT t.place)(D:t.dummies = #[])(hashAt:Nat->Int)(h:Int){p:Probe}(dm:p.dummy=none){n0:Nat}(hE:¬ In t (way t.mask p n0).j)(hF:∀m,m<n0->In t (way t.mask p m).j) :
  ∀fuel n,n<=n0->n0-n<fuel ->
   (∃m i,n<=m/\m<n0/\i<t.place.size/\t.place.getD i 0=(way t.mask p m).j/\hashAt i=h/\(∀k,n<=k->k<m->∀i',i'<t.place.size->t.place.getD i' 0=(way t.mask p k).j->hashAt i'≠h) /\
    QV t hashAt h fuel (way t.mask p n)=some (.candidate (way t.mask p m).j i (way t.mask p (m+1)))) \/
   ((∀k,n<=k->k<n0->∀i',i'<t.place.size->t.place.getD i' 0=(way t.mask p k).j->hashAt i'≠h) /\
    QV t hashAt h fuel (way t.mask p n)=some (.empty (way t.mask p n0).j none))
 | 0,n,_,hf=>absurd hf (Wn _)
 | fuel+1,n,hn,hf=>by
  unfold QV;rcases Gy R D (way t.mask p n).j with⟨i,hi,e,es⟩ | ⟨no,es⟩
  ·rw[es]
   dsimp only
   have hlt:n<n0:=by
    rcases w9 n n0 with q | q
    ·exact q
    ·have:n=n0:=by lia
     subst this;exact absurd ⟨i,hi,e⟩ hE
   by_cases c:hashAt i=h
   ·rw[if_pos (by simpa using c)]
    exact .inl ⟨n,i,wx _,hlt,hi,e,c,λk h1 h2=>absurd h1 (by lia),rfl⟩
   ·rw[if_neg (by simpa using c)]
    have here:∀i',i'<t.place.size->t.place.getD i' 0=(way t.mask p n).j->hashAt i'≠h:=λi' hi' e'=>by
     rw[zh R hi' hi (e'.trans e.symm)];exact c
    rcases Km R D hashAt h dm hE hF fuel (n+1) hlt (by lia)with⟨m,i2,a1,a2,a3,a4,a5,a6,a7⟩ | ⟨a1,a2⟩
    ·refine .inl ⟨m,i2,by lia,a2,a3,a4,a5,λk h1 h2 i' hi' e'=>?_,a7⟩
     rcases W4 h1 with q | q
     ·subst q;exact here i' hi' e'
     ·exact a6 k q h2 i' hi' e'
    ·refine .inr ⟨λk h1 h2 i' hi' e'=>?_,a2⟩
     rcases W4 h1 with q | q
     ·subst q;exact here i' hi' e'
     ·exact a1 k q h2 i' hi' e'
  ·rw[es]
   dsimp only
   have:n=n0:=by
    rcases w9 n n0 with q | q
    ·obtain⟨i,hi,e⟩:=hF n q
     exact absurd e (no i hi)
    ·lia
   subst this;refine .inr ⟨λk h1 h2=>absurd h1 (by lia),?_⟩;rw[Iz,dm]
def c_{α : Type}(l:List α)(p:Nat)(x : α):List α:=l.take p++x::l.drop p
theorem ya{α : Type}{l:List α}{p:Nat}(x : α)(hp:p<=l.length)(i:Nat):(c_ l p x)[i]? = if i<p then l[i]? else if i=p then some x else l[i-1]?:=by
 unfold c_;have hl:(l.take p).length=p:=by rw[VB];lia
 by_cases a:i<p
 ·rw[if_pos a,Wr (by lia),Q2 a]
 ·rw[if_neg a,Wk (by lia),hl]
  by_cases b:i=p
  ·rw[if_pos b,b,qW];rfl
  ·rw[if_neg b]
   have:i-p=(i-1-p)+1:=by lia
   rw[this,qE,List.getElem?_drop]
   congr 1;lia
theorem mx{α : Type}{l:List α}{p:Nat}(x : α)(hp:p<=l.length):(c_ l p x).length=l.length+1:=by
 unfold c_;rw[vQ,VB,wW,qP];lia
theorem mT{α : Type}(xs:Array α)(p:Nat)(x : α):(Wj xs p x).toList=c_ xs.toList p x:=by
 unfold Wj c_;simp;exact qN (by simp)
theorem lQ{xs:Array Nat}{p:Nat}(x:Nat)(hp:p<=xs.size)(i:Nat):(Wj xs p x).getD i 0=if i<p then xs.getD i 0 else if i=p then x else xs.getD (i-1) 0:=by
 rw[wL,<- vK,mT,ya x (by simpa using hp)]
 split
 ·rw[wL,<- vK]
 ·split
  ·rfl
  ·rw[wL,<- vK]
theorem HS{xs:Array Nat}{p:Nat}(x:Nat)(hp:p<=xs.size):(Wj xs p x).size=xs.size+1:=by
 rw[<- wG,mT,mx x (by simpa using hp),wG]
theorem Pj{l:List Int}{p:Nat}(x:Int)(hp:p<=l.length)(i:Nat):(c_ l p x).getD i 0=if i<p then l.getD i 0 else if i=p then x else l.getD (i-1) 0:=by
 rw[wf,ya x hp]
 split
 ·rw[wf]
 ·split
  ·rfl
  ·rw[wf]
theorem Tb.put{t:Wq}{hs:List Int}(b:Tb t hs){h:Int}{n:Nat}(hE:¬ In t (way t.mask (start t.mask h) n).j)(hF:∀m,m<n->In t (way t.mask (start t.mask h) m).j)(hr:t.place.size+1<=t.mask) :
  (t.put (way t.mask (start t.mask h) n).j).2<=hs.length/\Tb (t.put (way t.mask (start t.mask h) n).j).1 (c_ hs (t.put (way t.mask (start t.mask h) n).j).2 h):=by
 generalize hj:(way t.mask (start t.mask h) n).j=j at *;have hjm:j<=t.mask:=by rw[<- hj];exact RA t.mask h n
 obtain⟨q1,q2,q3⟩:=Jm b.hW j;have hd:Xl t.dummies j=false:=by rw[b.kM];rfl
 have e2:(t.put j).2=Ww t.place j:=rfl;have ep:(t.put j).1.place=Wj t.place (Ww t.place j) j:=rfl;have em:(t.put j).1.mask=t.mask:=rfl
 have edm:(t.put j).1.dummies = #[]:=by
  show(if Xl t.dummies j=true then _ else t.dummies)=_
  rw[hd];exact b.kM
 rw[e2];generalize Ww t.place j=p at *;have hp:p<=hs.length:=by rw[<- b.size];exact q1
 have inn:∀x,In t x->In (t.put j).1 x:=λx ⟨i,hi,e⟩=>by
  unfold In;rw[ep,HS j q1];rcases w9 i p with a | a
  ·exact⟨i,by lia,by rw[lQ j q1,if_pos a];exact e⟩
  ·exact⟨i+1,by lia,by rw[lQ j q1,if_neg (by lia),if_neg (by lia)];exact e⟩
 have ns:(t.put j).1.place.size=t.place.size+1:=by rw[ep,HS j q1]
 have gt:∀k,p<=k->k<t.place.size->j<t.place.getD k 0:=λk h1 h2=>by
  have:=q3 k h1 h2;have:t.place.getD k 0≠j:=λe=>hE ⟨k,h2,e⟩
  lia
 refine⟨hp,⟨?_,?_,edm,em ▸ b.two,?_,?_,?_⟩⟩
 ·intro i k hik hk
  rw[ns]at hk;rw[ep,lQ j q1,lQ j q1]
  by_cases a:k<p
  ·rw[if_pos (by lia),if_pos a];exact b.hW i k hik (by lia)
  ·rw[if_neg a]
   by_cases c:k=p
   ·rw[if_pos c,if_pos (by lia)];exact q2 i (by lia)
   ·rw[if_neg c]
    by_cases d:i<p
    ·rw[if_pos d];exact Xg (q2 i d) (gt (k-1) (by lia) (by lia))
    ·rw[if_neg d]
     by_cases f:i=p
     ·rw[if_pos f];exact gt (k-1) (by lia) (by lia)
     ·rw[if_neg f];exact b.hW (i-1) (k-1) (by lia) (by lia)
 ·rw[ns,mx h hp,b.size]
 ·intro i hi
  rw[ns]at hi;rw[ep,lQ j q1,em]
  split
  ·exact b.le i (by lia)
  ·split
   ·exact hjm
   ·exact b.le (i-1) (by lia)
 ·rw[ns,em];exact hr
 ·intro i hi
  rw[ns]at hi;rw[ep,lQ j q1,em,Pj h hp]
  split
  ·obtain⟨m,h1,h2⟩:=b.path i (by lia)
   exact⟨m,h1,λk hk=>inn _ (h2 k hk)⟩
  ·split
   ·exact⟨n,hj,λk hk=>inn _ (hF k hk)⟩
   ·obtain⟨m,h1,h2⟩:=b.path (i-1) (by lia)
    exact⟨m,h1,λk hk=>inn _ (h2 k hk)⟩
structure Ow(mask:Nat)(ow:Array (Option Nat))(hs:List Int):Prop where
 size:ow.size=mask+1
 cnt:ow.toList.countP qg=hs.length
 inj:∀j j' k,ow.getD j none=some k->ow.getD j' none=some k->j=j'
 lt:∀j k,ow.getD j none=some k->k<hs.length
 has:∀k,k<hs.length->∃j,ow.getD j none=some k
 path:∀k j,ow.getD j none=some k->∃n,(way mask (start mask (hs.getD k 0)) n).j=j /\ ∀m,m<n->ow.getD (way mask (start mask (hs.getD k 0)) m).j none≠none
theorem FR(mask i b:Nat):∀m,lp mask i b (m+1)=lp mask (leap mask i b).1 (leap mask i b).2 m
 | 0=>rfl
 | m+1=>by
  show leap mask (lp mask i b (m+1)).1 (lp mask i b (m+1)).2=leap mask (lp mask (leap mask i b).1 (leap mask i b).2 m).1 _
  rw[FR mask i b m]
theorem zw{ow:Array (Option Nat)}{j:Nat}(h:j<ow.size)(d e:Option Nat):ow.getD j d=ow.getD j e:=by simp[uo,h]
theorem IE{mask:Nat}{ow:Array (Option Nat)}(hz:ow.size=mask+1):∀fuel i b,i<=mask->(∃m,m<fuel/\ow.getD (lp mask i b m).1 none=none/\(lp mask i b m).1<=mask) ->
  ∃j n,WU mask ow fuel i b=some j/\(way mask (fW mask i b) n).j=j/\j<=mask/\ow.getD j none=none /\ ∀m,m<n->ow.getD (way mask (fW mask i b) m).j none≠none
 | 0,i,b,_,⟨m,h,_⟩=>absurd h (Wn _)
 | fuel+1,i,b,hi,⟨m,hm,hn,hle⟩=>by
  unfold WU;have hr:=Bq hi;cases hf:(vf (runEnd mask i+1-i)).find? λk=>(ow.getD (i+k) (some 0)).isNone with
  | some k =>
   rw[List.find?_range_eq_some]at hf;obtain⟨h1,h2,h3⟩:=hf;have h2:k<runEnd mask i+1-i:=by simpa using h2
   refine⟨i+k,k,rfl,?_,by lia,?_,λm hm=>?_⟩
   ·rw[oh mask i b k (by lia)]
   ·rw[zw (by lia) none (some 0)];simpa using h1
   ·rw[oh mask i b m (by lia)]
    have:=h3 m hm
    show ow.getD (i+m) none≠none
    rw[zw (by lia) none (some 0)];intro e;rw[e]at this;exact absurd this (by decide)
  | none =>
   rw[List.find?_range_eq_none]at hf
   have all:∀k,k<=runEnd mask i-i->ow.getD (i+k) none≠none:=λk hk e=>by
    have:=hf k (by lia);rw[zw (by lia) (some 0) none,e]at this;exact absurd this (by decide)
   cases m with
   | zero=>exact absurd hn (all 0 (vM _))
   | succ m =>
    rw[FR]at hn hle;have hi':(leap mask i b).1<=mask:=by unfold leap;dsimp only;exact Vp (xT _ (qV _))
    obtain⟨j,n,e1,e2,e3,e4,e5⟩:=IE hz fuel (leap mask i b).1 (leap mask i b).2 hi' ⟨m,by lia,hn,hle⟩;refine⟨j,runEnd mask i-i+1+n,e1,by rw[sa,Bm];exact e2,e3,e4,λm' hm'=>?_⟩;rcases w9 m' (runEnd mask i-i+1)with q | q
    ·rw[oh mask i b m' (by lia)];exact all m' (by lia)
    ·have:m'=runEnd mask i-i+1+(m'-(runEnd mask i-i+1)):=by lia
     rw[this,sa,Bm];exact e5 _ (by lia)
theorem Ow.gap{mask:Nat}{ow:Array (Option Nat)}{hs:List Int}(o:Ow mask ow hs)(h:hs.length<=mask):∃j,j<=mask/\ow.getD j none=none:=by
 refine Vv λc=>?_
 have:ow.toList.countP qg=ow.toList.length:=List.countP_eq_length.mpr λa ha=>by
  obtain⟨j,hj,e⟩:=Wg ha;rw[wG,o.size]at hj;cases a with
  | some _=>rfl
  | none =>
   refine absurd ⟨j,by lia,?_⟩ c;rw[wL,<- vK,wb (by rw[wG,o.size];exact hj),e]
   rfl
 have h2:ow.toList.length=mask+1:=by rw[wG,o.size]
 have:=o.cnt
 lia
theorem RV{ow:Array (Option Nat)}{j:Nat}(h:j<ow.size)(v:Option Nat)(x:Nat):(ow.setIfInBounds j v).getD x none=if x=j then v else ow.getD x none:=by
 rw[wL,Array.getElem?_setIfInBounds]
 by_cases e:j=x
 ·subst e;rw[if_pos rfl,if_pos rfl,if_pos h];rfl
 ·rw[if_neg e,if_neg (λq=>e q.symm),wL]
theorem Ow.step{mask k:Nat}(hm:mask+1=2^k){ow:Array (Option Nat)}{hs:List Int}(o:Ow mask ow hs)(hl:hs.length<=mask)(h:Int) :
  ∃j,WU mask ow (turns mask) (bits h % (mask+1)) (bits h)=some j/\Ow mask (ow.setIfInBounds j (some hs.length)) (hs++[h]):=by
 obtain⟨j0,hj0,e0⟩:=o.gap hl;obtain⟨m,hm',em⟩:=Hz hm (i:=bits h % (mask+1)) (FG h) hj0;obtain⟨j,n,e1,e2,e3,e4,e5⟩:=IE o.size (turns mask) (bits h % (mask+1)) (bits h) (Vp (xT _ (qV _))) ⟨m,by unfold turns;lia,by rw[em];exact e0,by rw[em];exact hj0⟩;have hjs:j<ow.size:=by rw[o.size];lia
 have G:=RV hjs (some hs.length);have hlen:(hs++[h]).length=hs.length+1:=by simp
 have old:∀k,k<hs.length->(hs++[h]).getD k 0=hs.getD k 0:=λk hk=>by
  rw[wf,wf,Wr hk]
 refine⟨j,e1,⟨by simpa using o.size,?_,?_,?_,?_,?_⟩⟩
 ·rw[Array.toList_setIfInBounds,List.countP_set (by simpa using hjs),o.cnt,hlen]
  have:ow.toList[j]'(by simpa using hjs)=none:=by
   rw[wL,vw hjs]at e4
   simpa using e4
  simp[this]
 ·intro x x' k h1 h2
  rw[G]at h1 h2
  split at h1
  ·split at h2
   ·rename_i a b;rw[a,b]
   ·have:=o.lt _ _ h2;have:=vo h1;lia
  ·split at h2
   ·have:=o.lt _ _ h1;have:=vo h2;lia
   ·exact o.inj _ _ _ h1 h2
 ·intro x k h1
  rw[G]at h1;rw[hlen]
  split at h1
  ·have:=vo h1;lia
  ·have:=o.lt _ _ h1;lia
 ·intro k hk
  rw[hlen]at hk;rcases w9 k hs.length with q | q
  ·obtain⟨x,hx⟩:=o.has k q
   refine⟨x,?_⟩;rw[G,if_neg]
   ·exact hx
   ·intro e;rw[e,e4]at hx;cases hx
  ·refine⟨j,?_⟩
   rw[G,if_pos rfl];congr 1;lia
 ·intro k x h1
  rw[G]at h1
  have keep:∀y,ow.getD y none≠none->(ow.setIfInBounds j (some hs.length)).getD y none≠none:=λy hy=>by
   rw[G];split
   ·exact λz=>nomatch z
   ·exact hy
  split at h1
  ·rename_i ex
   have ek:k=hs.length:=(vo h1).symm;have:(hs++[h]).getD k 0=h:=by rw[ek,wf,Wk (wx _),qW];rfl
   rw[this,ex];exact⟨n,e2,λm hm=>keep _ (e5 m hm)⟩
  ·rw[old k (o.lt _ _ h1)]
   obtain⟨n',a1,a2⟩:=o.path k x h1;exact⟨n',a1,λm hm=>keep _ (a2 m hm)⟩
theorem Ow.nil(mask:Nat):Ow mask (uq (mask+1) none) []:=by
 have G:∀j,(uq (mask+1) (none:Option Nat)).getD j none=none:=λj=>by
  rw[wL,Array.getElem?_replicate];split<;>rfl
 refine⟨by simp,?_,λj j' k h=>?_,λj k h=>?_,λk h=>absurd h (Wn _),λk j h=>?_⟩
 ·rw[Array.toList_replicate,List.countP_replicate];rfl
 all_goals(rw[G]at h;cases h)
theorem HK{mask k:Nat}(hm:mask+1=2^k):∀(l:List Int)(ow:Array (Option Nat))(hs:List Int),Ow mask ow hs->hs.length+l.length<=mask+1 ->
  ∃ow',(l.foldl (init:=some (ow,hs.length)) λ(acc:Option (Array (Option Nat) × Nat)) h=>do
   let (owner,k) <- acc
   let j <- WU mask owner (turns mask) (bits h % (mask+1)) (bits h)
   pure (owner.setIfInBounds j (some k),k+1))=some (ow',hs.length+l.length)/\Ow mask ow' (hs++l)
 | [],ow,hs,o,_=>⟨ow,rfl,by rw[WC];exact o⟩
 | h::l,ow,hs,o,hl=>by
  rw[wW]at hl;obtain⟨j,e,o'⟩:=o.step hm (by lia) h;have hlen:(hs++[h]).length=hs.length+1:=by simp
  obtain⟨ow',e',o''⟩:=HK hm l _ _ o' (by lia);refine⟨ow',?_,by rw[V5]at o'';exact o''⟩;rw[uf]
  have:(do
   let (owner,k) <- some (ow,hs.length)
   let j <- WU mask owner (turns mask) (bits h % (mask+1)) (bits h)
   pure (owner.setIfInBounds j (some k),k+1):Option (Array (Option Nat) × Nat))=some (ow.setIfInBounds j (some hs.length),hs.length+1):=by
   show(WU mask ow (turns mask) (bits h % (mask+1)) (bits h) >>= _)=_
   rw[e];rfl
  rw[this,<- hlen,e',hlen,wW]
  congr 2;lia
theorem SH{mask k:Nat}(hm:mask+1=2^k){hs:Array Int}(hl:hs.size<=mask+1):∃ow,XE mask hs=some ow/\Ow mask ow hs.toList:=by
 obtain⟨ow,e,o⟩:=HK hm hs.toList _ [] (Ow.nil mask) (by simpa using hl);refine⟨ow,?_,by simpa using o⟩;unfold XE;rw[<- Array.foldl_toList];have:=congrArg (u8 (·.1)) e;exact this
def live(mask:Nat)(ow:Array (Option Nat)):List (Nat × Nat):=(vf (mask+1)).filterMap λj=>(ow.getD j none).map (j,·)
theorem mG{mask:Nat}{ow:Array (Option Nat)}(hz:ow.size=mask+1){j k:Nat} : (j,k)∈live mask ow ↔ ow.getD j none=some k:=by
 unfold live;rw[VS]
 constructor
 ·rintro ⟨x,_,e⟩
  cases h:ow.getD x none with
  | none=>rw[h]at e;cases e
  | some y=>rw[h]at e;cases e;exact h
 ·intro h
  refine⟨j,?_,by rw[h];rfl⟩;rw[vy];rcases w9 j (mask+1)with q | q
  ·exact q
  ·rw[wL,qM (by lia)]at h;cases h
theorem JP{mask:Nat}{ow:Array (Option Nat)}{hs:List Int}(o:Ow mask ow hs):(live mask ow).Pairwise λx y=>x.1<y.1/\x.2≠y.2:=by
 unfold live;rw[List.pairwise_filterMap];refine uY ?_ List.pairwise_lt_range;intro a b _ _ hab x hx y hy;cases h1:ow.getD a none with
 | none=>rw[h1]at hx;cases hx
 | some u =>
  cases h2:ow.getD b none with
  | none=>rw[h2]at hy;cases hy
  | some v =>
   rw[h1]at hx;rw[h2]at hy;cases hx;cases hy;refine⟨hab,λe=>?_⟩;have:u=v:=e;subst this;have:=o.inj _ _ _ h1 h2
   lia
theorem zo7{mask:Nat}{ow:Array (Option Nat)}{hs:List Int}(o:Ow mask ow hs):((live mask ow).map (·.2)).Perm (vf hs.length):=by
 refine(QL ?_ X6).mpr λk=>?_
 ·show uK _ _
  rw[XF];exact(JP o).imp λh=>h.2
 ·rw[vy,vg]
  constructor
  ·rintro ⟨⟨j,k'⟩,h,rfl⟩
   exact o.lt _ _ ((mG o.size).mp h)
  ·intro h
   obtain⟨j,hj⟩:=o.has k h;exact⟨(j,k),(mG o.size).mpr hj,rfl⟩
theorem Zr{mask k:Nat}(k3:3<=k)(hm:mask+1=2^k)(finger moves:Nat)(led plain:Bool){hs:Array Int}(hl:hs.size<=mask) :
  ∃(t:Wq)(ord:Array Nat),uO mask finger moves led plain hs=some (t,ord)/\t.mask=mask/\t.led=led/\t.plain=plain/\t.moves=moves/\ord.toList.Perm (vf hs.size)/\Tb t (ord.toList.map λk=>hs.toList.getD k 0):=by
 obtain⟨ow,e,o⟩:=SH hm (hs:=hs) (by lia);have op:=zo7 o;rw[wG]at op;have ll:(live mask ow).length=hs.size:=by have:=op.length_eq;simpa using this
 refine⟨{mask,place:=((live mask ow).map (·.1)).toArray,dummies:=#[],finger,led,moves,plain},((live mask ow).map (·.2)).toArray,?_,rfl,rfl,rfl,rfl,by simpa using op,?_⟩
 ·unfold uO
  rw[e];rfl
 ·have pz:(((live mask ow).map (·.1)).toArray).size=(live mask ow).length:=by simp
  have pg:∀i (h:i<(live mask ow).length),(((live mask ow).map (·.1)).toArray).getD i 0=((live mask ow)[i]).1:=λi h=>by
   rw[wL];simp[h]
  have inn:∀x,ow.getD x none≠none->In {mask,place:=((live mask ow).map (·.1)).toArray,dummies:=#[],finger,led,moves,plain} x:=λx hx=>by
   cases hy:ow.getD x none with
   | none=>exact absurd hy hx
   | some y =>
    obtain⟨i,hi,ei⟩:=Wg ((mG o.size).mpr hy);exact⟨i,by show i<(((live mask ow).map (·.1)).toArray).size;rw[pz];exact hi,by show(((live mask ow).map (·.1)).toArray).getD i 0=x;rw[pg i hi,ei]⟩
  refine⟨?_,?_,rfl,⟨k,k3,hm⟩,?_,?_,?_⟩
  ·intro i j hij hj
   have hj:j<(live mask ow).length:=by rw[<- pz];exact hj
   show(((live mask ow).map (·.1)).toArray).getD i 0<(((live mask ow).map (·.1)).toArray).getD j 0
   rw[pg i (by lia),pg j hj];exact(QY.mp (JP o) i j (by lia) hj hij).1
  ·show(((live mask ow).map (·.1)).toArray).size=_
   rw[pz];simp
  ·intro i hi
   have hi:i<(live mask ow).length:=by rw[<- pz];exact hi
   show(((live mask ow).map (·.1)).toArray).getD i 0<=mask
   rw[pg i hi];have:=(mG o.size).mp (show(((live mask ow)[i]).1,((live mask ow)[i]).2)∈live mask ow from vn hi);rcases w9 ((live mask ow)[i]).1 (mask+1)with q | q
   ·lia
   ·rw[wL,qM (by rw[o.size];lia)]at this;cases this
  ·show(((live mask ow).map (·.1)).toArray).size<=mask
   rw[pz,ll];exact hl
  ·intro i hi
   have hi:i<(live mask ow).length:=by rw[<- pz];exact hi
   have hm':=(mG o.size).mp (show(((live mask ow)[i]).1,((live mask ow)[i]).2)∈live mask ow from vn hi)
   have eh:(((live mask ow).map (·.2)).toArray.toList.map λk=>hs.toList.getD k 0).getD i 0=hs.toList.getD ((live mask ow)[i]).2 0:=by
    rw[wf];simp[hi]
   obtain⟨n,a1,a2⟩:=o.path _ _ hm'
   show ∃n,(way mask (start mask (_)) n).j=(((live mask ow).map (·.1)).toArray).getD i 0/\_
   rw[pg i hi,eh];exact⟨n,a1,λm hm=>inn _ (a2 m hm)⟩
theorem HX(n:Nat):∀(fuel size:Nat),∃m,Wi n fuel size=size*2^m/\(n<size*2^fuel->n<Wi n fuel size)/\(Wi n fuel size<=size\/Wi n fuel size<=2*n)
 | 0,size=>⟨0,by simp[Wi],λh=>by simpa [Wi] using h,.inl (by simp[Wi])⟩
 | fuel+1,size=>by
  unfold Wi
  by_cases c:size<=n
  ·rw[if_pos c]
   obtain⟨m,h1,h2,h3⟩:=HX n fuel (size*2);refine⟨m+1,?_,λh=>h2 ?_,?_⟩
   ·rw[h1,W5,qu (2^m) 2,WZ]
   ·rw[W5,qu (2^fuel) 2,<- WZ]at h;exact h
   ·rcases h3 with h3 | h3<;>right<;>lia
  ·rw[if_neg c]
   exact⟨0,by simp,λ_=>by lia,.inl (wx _)⟩
theorem OA{n:Nat}(h1:1<=n)(h:n<=4000):∃k,3<=k/\VU (4*n)-1+1=2^k/\4*n<=VU (4*n)-1/\VU (4*n)<=8*n:=by
 obtain⟨m,e1,e2,e3⟩:=HX (4*n) 64 8;have e0:VU (4*n)=Wi (4*n) 64 8:=rfl
 have lt := e2 (by have : (8 * 2 ^ 64 : Nat) = 147573952589676412928 := by decide
                   lia)
 rw[e0];refine⟨m+3,by lia,?_,by lia,by lia⟩;rw[Nat.sub_add_cancel (by lia),e1,XM,qu]
section
variable{prog:wV}{w:wR}{K:Type}[DecidableEq K]{knd:KeyKind prog w K}{U:wd->List K->Prop}{A:vm}{E:wg->wo->Prop}{s:wo}
def Ent(knd:KeyKind prog w K)(U:wd->List K->Prop)(h:wK)(e:Int × wg)(k:List K):Prop:=∃a,e.2=.ref a/\vD knd h k a/\e.1=vk knd k/\U a k
theorem zkE(n:Nat){v:wg}(h:carriedByValue v=true):V8 n v=pure false:=by
 cases v with
 | ref a=>simp[carriedByValue]at h
 | _=>first | rfl | simp[V8] | (unfold V8;rfl)
theorem JR{x:wd}{k:List K}(hx:vD knd s.heap k x){Q:Bool->wo->Prop}(q:Q false s):wA (model prog w) A (V8 8 (.ref x)) Q E s:=by
 have hT:=hx.typeIs;obtain⟨o,items,n,ho,hc,hd,hi⟩:=hx;unfold V8;refine wj (wpAny_typeOf hT ?_);dsimp only;rw[if_pos (by decide)];refine wj (wz ?_);simp only[W9,w8,if_false];refine wj (WN ho hd ?_);refine wj ?_
 show wA _ _ (forIn items _ _) _ _ s
 rw[<- Xm];refine wpAny_forIn_list _ (λaO r s'=>r.1=none/\s'=s /\ ∀v∈aO,carriedByValue v=true) _ ?_ ?_ _ _ ⟨rfl,rfl,hi.byValue⟩
 ·rintro v aO r s' ⟨hr,rfl,hall⟩
  rw[zkE _ (hall v vc)];refine wj (wz ?_);simp only[w8,if_false];exact wz ⟨rfl,rfl,λu hu'=>hall u (wI _ hu')⟩
 ·rintro ⟨r1,r2⟩ s' ⟨hr,rfl,_⟩
  simp only at hr;subst hr;exact wz q
theorem zrk{x:wd}{k:List K}(hx:vD knd s.heap k x):∀(l:List wg),(∀v∈l,∃y k',v=.ref y/\vD knd s.heap k' y)->∀{Q:Bool->wo->Prop},Q false s->wA (model prog w) A (searchCouldBeSeen (.ref x) l) Q E s:=by
 intro l hl Q q;unfold searchCouldBeSeen;refine wj ?_;refine wpAny_forIn_list _ (λaO r s'=>r.1=none/\s'=s /\ ∀v∈aO,∃y k',v=.ref y/\vD knd s.heap k' y) _ ?_ ?_ _ _ ⟨rfl,rfl,hl⟩
 ·rintro v aO r s' ⟨hr,rfl,hall⟩
  obtain⟨y,k',rfl,hy⟩:=hall v vc;have rst:∀v∈aO,∃y k',v=.ref y/\vD knd s'.heap k' y:=λu hu'=>hall u (wI _ hu')
  dsimp only
  split
  ·exact wz ⟨rfl,rfl,rst⟩
  ·refine wj (wpAny_eqIsQuiet_tuple hx ?_)
   simp only[W9,w8,if_false];refine wj (wpAny_eqIsQuiet_tuple hy ?_);simp only[W9,w8,if_false];refine wj (JR hx ?_);simp only[W9,w8,if_false];refine wj (JR hy ?_);simp only[W9,w8,if_false];exact wz ⟨rfl,rfl,rst⟩
 ·rintro ⟨r1,r2⟩ s' ⟨hr,rfl,_⟩
  simp only at hr;subst hr;exact wz q
theorem Rv{t:Wq}(R:iT t.place)(D:t.dummies = #[]){i j:Nat}(hi:i<t.place.size)(e:t.place.getD i 0=j):t.slot j=.live i:=by
 rcases Gy R D j with⟨i',h1,h2,h3⟩ | ⟨no,_⟩
 ·rw[h3,zh R h1 hi (h2.trans e.symm)]
 ·exact absurd e (no i hi)
theorem Ent.inj{h:wK}{e:Int × wg}{k k':List K}(a:Ent knd U h e k)(b:Ent knd U h e k'):k=k':=by
 obtain⟨x,h1,h2,_⟩:=a;obtain⟨y,h3,h4,_⟩:=b;rw[h1]at h3;cases h3;exact h2.inj h4
theorem Tb.fits{t:Wq}{hs:List Int}(b:Tb t hs):t.fits hs.length=true:=by
 unfold SetTable.fits uP;rw[b.kM,b.size];have:=b.room;rw[b.size]at this
 simpa using this
theorem Tb.NL{t:Wq}{hs:List Int}(b:Tb t hs):t.gaveWay=false:=by
 obtain⟨k',h3,e⟩:=b.two;unfold SetTable.gaveWay;have:2^k'=2*2^(k'-1):=by rw[<- Nat.pow_succ'];congr 1;lia
 have:t.mask % 2=1:=by lia
 rw[this];rfl
theorem G4{a xa:wd}{k:List K}{o:Obj}{es:Array (Int × wg)}{ep:Nat}{t:Wq}(hu:A.units<cLine)(hx:vD knd s.heap k xa)
  (ho:s.heap.get? a=some o) (hd:o.data=.set es ep t) (b:Tb t (es.toList.map (·.1))) (he:∀i (h:i<es.size),∃k',Ent knd U s.heap es[i] k') (n0:Nat) (hE:¬ In t (way t.mask (start t.mask (vk knd k)) n0).j) (hF:∀m,m<n0->In t (way t.mask (start t.mask (vk knd k)) m).j) (hf0:n0<10*xJ t.mask)
  {Q:SetFound->wo->Prop} (yes:(∃i,∃h:i<es.size,Ent knd U s.heap es[i] k)->Q (.there none) s) (no:(∀i (h:i<es.size),¬ Ent knd U s.heap es[i] k)->Q (.free (way t.mask (start t.mask (vk knd k)) n0).j false) s) :
  ∀(fuel n:Nat)(st:Option SetTable.Probe),n<=n0->n0-n<fuel->st.getD (t.probeStart (vk knd k))=way t.mask (start t.mask (vk knd k)) n ->
   (∀m,m<n->∀i (h:i<es.size),t.place.getD i 0=(way t.mask (start t.mask (vk knd k)) m).j->¬ Ent knd U s.heap es[i] k) ->
   wA (model prog w) A (setSearchFrom a (.ref xa) (vk knd k) true fuel st) Q E s
 | 0,n,st,_,hlt,_,_=>absurd hlt (Wn _)
 | fuel+1,n,st,hn,hlt,hst,hno=>by
  have hsz:t.place.size=es.size:=by rw[b.size,wm,wG]
  have hfit:t.fits es.size=true:=by have:=b.fits;rwa[wm,wG]at this
  unfold setSearchFrom;refine wj (Vs ho hd hfit ?_);dsimp only;rw[b.NL,hst];simp only[w8,if_false];have hp:=Km b.hW b.kM (λi=>(es[i]?.map (·.1)).getD 0) (vk knd k) (p:=start t.mask (vk knd k)) rfl hE hF (10*xJ t.mask) n hn (by lia);rcases hp with⟨m,i,m1,m2,i1,i2,i3,i4,e⟩ | ⟨a1,e⟩
  ·generalize hP:t.probe _ (vk knd k) (way t.mask (start t.mask (vk knd k)) n)=P
   have eP:=hP.symm.trans e;rw[eP];clear eP hP P e;dsimp only;have ies:i<es.size:=by rw[<- hsz];exact i1
   obtain⟨k',a',e1,e2,e3,e4⟩:=he i ies;have eg:es[i]? = some es[i]:=vw ies;have hent:Ent knd U s.heap es[i] k':=⟨a',e1,e2,e3,e4⟩
   have next:k'≠k->wA (model prog w) A (setSearchFrom a (.ref xa) (vk knd k) true fuel (some (way t.mask (start t.mask (vk knd k)) (m+1)))) Q E s:=λc=>by
    refine G4 hu hx ho hd b he n0 hE hF hf0 yes no fuel (m+1) _ m2 (by lia) rfl λm' hm' i' hi' ep' hent'=>?_
    rcases w9 m' n with q | q
    ·exact hno m' q i' hi' ep' hent'
    ·rcases W4 (Vp hm')with q' | q'
     ·subst q'
      have:i'=i:=zh b.hW (by rw[hsz];exact hi') i1 (ep'.trans i2.symm);subst this;exact c (hent.inj hent')
     ·refine i4 m' q q' i' (by rw[hsz];exact hi') ep' ?_
      show(es[i']?.map (·.1)).getD 0=_
      rw[vw hi'];obtain⟨_,_,_,e5,_⟩:=hent';exact e5
   have hsl:t.slot (way t.mask (start t.mask (vk knd k)) m).j=.live i:=Rv b.hW b.kM i1 i2;have hsm:t.sameMemory t.moves t.mask=some true:=by unfold SetTable.sameMemory;rw[if_pos (by simp)]
   have unseen:∀v∈(es.filter λx=>x.1 == vk knd k).toList.map (λx=>x.2),∃y k',v=.ref y/\vD knd s.heap k' y:=λv hv=>by
    obtain⟨e0,h0,rfl⟩:=vg.mp hv;rw[Array.toList_filter,qm]at h0;obtain⟨j,hj,ej⟩:=Wg h0.1;obtain⟨k2,y2,f1,f2,_⟩:=he j (by simpa using hj);refine⟨y2,k2,?_,f2⟩;rw[<- ej,<- f1,Array.getElem_toList]
   have eg':es[i]? = some (es[i].1,.ref a'):=by rw[eg,<- e1]
   clear eg;generalize es[i].1=h' at *;have tail:k'=k->Q (.there none) s:=λc=>yes ⟨i,ies,c ▸ hent⟩
   cases hl:t.led
   ·simp only[qC,if_true]
    refine wj (zrk hx _ unseen ?_);simp only[w8,if_false];rw[eg'];dsimp only;refine wj (Wa (wpAny_eqBool_tuple hu e2 hx ?_));refine wj (Vs ho hd hfit ?_);dsimp only
    by_cases c:k'=k
    ·rw[decide_eq_true c]
     exact wz (tail c)
    ·rw[decide_eq_false c,hsm]
     simp only[We,w8,if_false,if_true];rw[hsl];dsimp only;rw[eg'];dsimp only;refine wj (wpAny_isSame_ref_self ?_);refine wj (wz ?_);simp only[if_true];exact next c
   ·simp only[W9,w8,if_false]
    rw[eg'];dsimp only;refine wj (Wa (wpAny_eqBool_tuple hu e2 hx ?_));refine wj (Vs ho hd hfit ?_);dsimp only
    by_cases c:k'=k
    ·rw[decide_eq_true c]
     exact wz (tail c)
    ·rw[decide_eq_false c,hsm]
     simp only[We,w8,if_false,if_true];rw[hsl];dsimp only;rw[eg'];dsimp only;refine wj (wpAny_isSame_ref_self ?_);refine wj (wz ?_);simp only[if_true];exact next c
  ·generalize hP:t.probe _ (vk knd k) (way t.mask (start t.mask (vk knd k)) n)=P
   have eP:=hP.symm.trans e;rw[eP];dsimp only;refine wz (no λi hi hent=>?_);have hi':i<t.place.size:=by rw[hsz];exact hi
   obtain⟨m,p1,p2⟩:=b.path i hi'
   have hh:(es.toList.map (·.1)).getD i 0=vk knd k:=by
    obtain⟨_,_,_,e3,_⟩:=hent;rw[wf,wB,vK,vw hi];exact e3
   rw[hh]at p1 p2;rcases w9 m n0 with q | q
   ·rcases w9 m n with q' | q'
    ·exact hno m q' i hi p1.symm hent
    ·refine a1 m q' q i hi' p1.symm ?_
     show(es[i]?.map (·.1)).getD 0=_
     rw[vw hi];obtain⟨_,_,_,e3,_⟩:=hent;exact e3
   ·rcases W4 q with q' | q'
    ·subst q';exact hE ⟨i,hi',p1.symm⟩
    ·exact hE (p2 n0 q')
theorem SU{α : Type}(l:List α)(p:Nat)(x : α):(c_ l p x).Perm (x::l):=by
 unfold c_;refine List.perm_middle.trans (List.Perm.cons x ?_);rw[List.take_append_drop]
theorem yr{h g:wK}{k:List K}{a:wd}(x:vD knd h k a)(e:∀o,h.get? a=some o->g.get? a=some o):vD knd g k a:=by
 obtain⟨o,its,n,h1,r⟩:=x;exact⟨o,its,n,e o h1,r⟩
theorem KA{h g:wK}{k:List K}{a d:wd}{o:Obj}{es:Array (Int × wg)}{ep:Nat}{t:Wq}(x:vD knd h k a)(ho:h.get? d=some o)(hd:o.data=.set es ep t)(hs:vN d h g):vD knd g k a:=by
 refine yr x λu eu=>(hs.2 a λad=>?_).trans eu
 obtain⟨u',_,_,e1,_,e2,_⟩:=x;rw[ad,ho]at e1;cases e1;rw[hd]at e2;cases e2
def fv(knd:KeyKind prog w K)(U:wd->List K->Prop)(h:wK)(es:List (Int × wg))(ks:List (List K)):Prop:=es.length=ks.length /\ ∀(i:Nat)(e:Int × wg)(k:List K),es[i]? = some e->ks[i]? = some k->Ent knd U h e k
def TS(knd:KeyKind prog w K)(U:wd->List K->Prop)(h:wK)(a:wd)(led:Bool)(ks:List (List K)):Prop :=
 ∃o es ep t,h.get? a=some o/\o.ExactSet/\o.data=.set es ep t/\Tb t (es.toList.map (·.1))/\es.size*5<t.mask*3/\(t.mask<=7\/t.mask<=8*es.size)/\t.led=led/\t.plain=true/\fv knd U h es.toList ks/\ks.Nodup
theorem zq1(hv:∀k v,knd.is k v=true->∃i t,v=.int i t){x:wd}{k:List K}(hx:vD knd s.heap k x){Q:Bool->wo->Prop}(q:Q true s):wA (model prog w) A (hashByValue 8 (.ref x)) Q E s:=by
 have hT:=hx.typeIs;obtain⟨o,items,n,ho,hc,hd,hi⟩:=hx
 have hints:∀{ks:List K}{vs:List wg},ItemsAre knd ks vs->∀v∈vs,∃i t,v=.int i t:=λh=>by
  induction h with
  | nil=>intro v hv;simp at hv
  | cons h1 _ ih =>
   intro v hm;rcases wO.mp hm with rfl | hm
   ·exact hv _ _ h1
   ·exact ih v hm
 unfold hashByValue;refine wj (wpAny_specialOf hT F.slot_tuple_hash.lookup ?_);dsimp only;refine wj (WN ho hd ?_);refine wj ?_
 show wA _ _ (forIn items _ _) _ _ s
 rw[<- Xm];refine wpAny_forIn_list _ (λaO r s'=>r.1=none/\s'=s /\ ∀v∈aO,∃i t,v=.int i t) _ ?_ ?_ _ _ ⟨rfl,rfl,hints hi⟩
 ·rintro v aO r s' ⟨hr,rfl,hall⟩
  obtain⟨i,t,rfl⟩:=hall v vc
  show wA _ _ (pure true >>= _) _ _ _
  refine wj (wz ?_);simp only[W9,w8,if_false];exact wz ⟨rfl,rfl,λu hu'=>hall u (wI _ hu')⟩
 ·rintro ⟨r1,r2⟩ s' ⟨hr,rfl,_⟩
  simp only at hr;subst hr;exact wz q
theorem Yi{α β : Type}(f : α -> β)(l:List α)(p:Nat)(x : α):(c_ l p x).map f=c_ (l.map f) p (f x):=by
 unfold c_;rw[Wo,wU,uQ,uR]
theorem FI{α : Type}(d : α)(es:Array α):∀l:List Nat,(∀i∈l,i<es.size)->l.filterMap (λi=>es[i]?)=l.map λi=>es.toList.getD i d
 | [],_=>rfl
 | i::l,h=>by
  have hi:=h i (vc ..);rw[VL,vw hi,wU,FI d es l λj hj=>h j (wI _ hj)];dsimp only;rw[wf,vK,vw hi]
  rfl
theorem Ir{α : Type}(d : α)(l:List α):(vf l.length).map (λi=>l.getD i d)=l:=by
 refine vF (by simp) λi h1 h2=>?_
 rw[vt,Qv,wf,wb h2]
 rfl
theorem fv.keeps{h h':wK}{es:List (Int × wg)}{ks:List (List K)}{d:wd}{o:Obj}{es0:Array (Int × wg)}{ep:Nat}{t:Wq}(x:fv knd U h es ks)(ho:h.get? d=some o)(hd:o.data=.set es0 ep t)(hs:vN d h h'):fv knd U h' es ks :=
 ⟨x.1,λi e k h1 h2=>by obtain⟨a,e1,e2,e3⟩:=x.2 i e k h1 h2;exact⟨a,e1,KA e2 ho hd hs,e3⟩⟩
theorem fv.ins{h:wK}{es:List (Int × wg)}{ks:List (List K)}(x:fv knd U h es ks){p:Nat}(hp:p<=ks.length){e:Int × wg}{k:List K}(c:Ent knd U h e k):fv knd U h (c_ es p e) (c_ ks p k):=by
 have hp':p<=es.length:=by rw[x.1];exact hp
 refine⟨by rw[mx e hp',mx k hp,x.1],λi e' k' h1 h2=>?_⟩;rw[ya e hp']at h1;rw[ya k hp]at h2
 split at h1
 ·rename_i a;rw[if_pos a]at h2;exact x.2 i e' k' h1 h2
 ·rename_i a;rw[if_neg a]at h2
  split at h1
  ·rename_i b;rw[if_pos b]at h2
   cases h1;cases h2;exact c
  ·rename_i b;rw[if_neg b]at h2;exact x.2 (i-1) e' k' h1 h2
theorem fv.ord{h:wK}{es:List (Int × wg)}{ks:List (List K)}(x:fv knd U h es ks){l:List Nat}(hl:∀i∈l,i<es.length):fv knd U h (l.map λi=>es.getD i (0,.none)) (l.map λi=>ks.getD i []):=by
 refine⟨by simp,λi e' k' h1 h2=>?_⟩;rw[wB]at h1 h2;cases hi:l[i]? with
 | none=>rw[hi]at h1;cases h1
 | some j =>
  rw[hi]at h1 h2;cases h1;cases h2;have hj:j<es.length:=hl j (vz hi);have hj':j<ks.length:=by rw[<- x.1];exact hj
  refine x.2 j _ _ ?_ ?_
  ·dsimp only;rw[wf,wb hj];rfl
  ·dsimp only;rw[wf,wb hj'];rfl
theorem Jl{h:wK}{a:wd}{o:Obj}{es:Array (Int × wg)}{ep:Nat}{t:Wq}(ho:h.get? a=some o)(hd:o.data=.set es ep t)(es':Array (Int × wg))(t':Wq) :
  (h.update a (QZ es' t')).get? a=some {o with data:=.set es' (ep+1) t'}:=by
 have:=W2 (QZ es' t') ho (by rw[putSet_of es' t' hd];rfl);rw[putSet_of es' t' hd]at this;exact this
theorem zse{a:wd}{o:Obj}{es:Array (Int × wg)}{ep:Nat}{t:Wq}{ks:List (List K)}(ho:s.heap.get? a=some o)(hex:o.ExactSet)(hd:o.data=.set es ep t)(b:Tb t (es.toList.map (·.1)))(hpl:t.plain=true)
  (hk:fv knd U s.heap es.toList ks) (hnd:ks.Nodup) (h1:1<=es.size) (hz:es.size<=1000) {Q:Unit->wo->Prop} (q:∀h' ks',vN a s.heap h'->TS knd U h' a t.led ks'->ks'.Perm ks->Q () {s with heap:=h'}) :
  wA (model prog w) A (setRelay a (xK es.size)) Q E s:=by
 have hfit:t.fits es.size=true:=by have:=b.fits;rwa[wm,wG]at this
 have hg:xK es.size=4*es.size:=by unfold xK;rw[if_neg (by lia),qu]
 obtain⟨k2,k3,s1,s2,s3⟩:=OA (n:=es.size) h1 (by lia);unfold setRelay;rw[hg];refine wj (Vs ho hd hfit ?_);dsimp only;rw[if_neg (by rw[vB];lia)];obtain⟨t2,ord,e2,m2,l2,p2,_,op,b2⟩:=Zr k3 s1 t.finger (t.movedTo (VU (4*es.size)-1)) t.led t.plain (hs:=es.map (·.1)) (by rw[uB];lia);rw[uB]at op;have olt:∀i∈ord.toList,i<es.size:=λi hi=>vy.mp (op.mem_iff.mp hi)
 have e2':t.relaid (es.map (·.1)) (4*es.size)=some (t2,ord):=e2;rw[e2']
 have fe:(ord.filterMap (λi=>es[i]?)).toList=ord.toList.map λi=>es.toList.getD i (0,.none):=by
  rw[Array.toList_filterMap];exact FI _ es _ olt
 have fz:(ord.filterMap (λi=>es[i]?)).size=es.size:=by
  rw[<- wG,fe,wm,op.length_eq,WO]
 refine wj ?_
 show wA _ _ (if((ord.filterMap (λi=>es[i]?)).size != es.size)=true then(unsupported "internal:set-table-lost-an-element" >>= λ_=>pure (ord.filterMap (λi=>es[i]?),t2))else pure (ord.filterMap (λi=>es[i]?),t2)) _ _ _
 rw[if_neg (by rw[fz];simp)];refine wz ?_;refine wpAny_storeSet_of ho hd ?_ (by rw[fz,vB];lia);have hsb:=Ws s.heap a (QZ (ord.filterMap (λi=>es[i]?)) t2);have hkk:fv knd U s.heap (ord.filterMap (λi=>es[i]?)).toList (ord.toList.map λi=>ks.getD i []):=by rw[fe];exact hk.ord λi hi=>by rw[wG];exact olt i hi
 have pm:(ord.toList.map λi=>ks.getD i []).Perm ks:=by
  have:=op.map (λi=>ks.getD i []);have hl:es.size=ks.length:=by rw[<- wG];exact hk.1
  rw[hl,Ir]at this;exact this
 refine q _ (ord.toList.map λi=>ks.getD i []) hsb ⟨_,_,_,t2,Jl ho hd _ t2,hex,rfl,?_,?_,?_,l2,p2.trans hpl,hkk.keeps ho hd hsb,pm.nodup_iff.mpr hnd⟩ pm
 ·rw[fe,Wu]
  have:(ord.toList.map ((λx:Int × wg=>x.1) ∘ λi=>es.toList.getD i (0,.none)))=ord.toList.map λk=>(es.map (·.1)).toList.getD k 0:=by
   refine VM λi hi=>?_
   have:=olt i hi
   show(es.toList.getD i (0,.none)).1=_
   rw[wf,wf,Array.toList_map,wB,vK,vw this]
   rfl
  rw[this];exact b2
 ·rw[fz,m2];lia
 ·right;rw[fz,m2];lia
theorem Zj(hv:∀k v,knd.is k v=true->∃i t,v=.int i t){a xa:wd}{k:List K}{led:Bool}{ks:List (List K)}(hu:A.units<cLine)(hS:TS knd U s.heap a led ks)(hx:vD knd s.heap k xa)(hU:U xa k)(hz:ks.length+1<=1000)
  {Q:Bool->wo->Prop} (q:∀h' ks',vN a s.heap h'->TS knd U h' a led ks'->(k∈ks->ks'=ks)->(k ∉ ks->ks'.Perm (k::ks))->∀b,Q b {s with heap:=h'}) :
  wA (model prog w) A (setAddHashed a (.ref xa) (vk knd k)) Q E s:=by
 obtain⟨o,es,ep,t,ho,hex,hd,b,hfew,hmask,hled,hpl,⟨hkl,hke⟩,hnd⟩:=hS;rw[wG]at hkl;have hfit:t.fits es.size=true:=by have:=b.fits;rwa[wm,wG]at this
 have hsz:t.place.size=es.size:=by rw[b.size,wm,wG]
 have hent:∀i (h:i<es.size),Ent knd U s.heap es[i] (ks[i]'(by lia)):=λi h=>hke i _ _ (by rw[vK,vw h]) (wb _)
 unfold setAddHashed setAddHashedIn;refine Wa (wj (Vs ho hd hfit ?_));dsimp only;rw[show byScan (.ref xa) es=false from rfl];simp only[w8,if_false];obtain⟨n0,hf0,hE,hF⟩:=b.free (vk knd k);have hmm:t.mask<=8000:=by lia
 refine wj (G4 hu hx ho hd b (λi h=>⟨_,hent i h⟩) n0 hE hF hf0 (λhy=>?yes) (λhn=>?no) 100000 0 none (vM _) (by unfold xJ at hf0;lia) rfl (λm hm=>absurd hm (Wn _)))
 case yes =>
  dsimp only;obtain⟨i,hi,he⟩:=hy;have hk:k∈ks:=by rw[he.inj (hent i hi)];exact vn _
  exact wz (q s.heap ks (Heap.SameBut.refl a s.heap) ⟨o,es,ep,t,ho,hex,hd,b,hfew,hmask,hled,hpl,⟨by rw[wG];exact hkl,hke⟩,hnd⟩ (λ_=>rfl) (λh=>absurd hk h) _)
 case no =>
  dsimp only
  have hk:k ∉ ks:=λhm=>by
   obtain⟨i,hi,e⟩:=Wg hm;exact hn i (by lia) (e ▸ hent i (by lia))
  refine wj (Vs ho hd hfit ?_);dsimp only;obtain⟨k8,k3,kk⟩:=b.two
  have m7:7<=t.mask:=by
   have:2^3<=2^k8:=Vu (by decide) k3
   lia
  obtain⟨hp,tb⟩:=b.put hE hF (by rw[hsz];lia);rw[wm,wG,hkl]at hp;have q1:(t.put (way t.mask (start t.mask (vk knd k)) n0).j).1.plain=t.plain:=rfl;have q2:(t.put (way t.mask (start t.mask (vk knd k)) n0).j).1.led=t.led:=rfl;have q3:(t.put (way t.mask (start t.mask (vk knd k)) n0).j).1.mask=t.mask:=rfl;generalize (t.put (way t.mask (start t.mask (vk knd k)) n0).j).2=p at *;generalize (t.put (way t.mask (start t.mask (vk knd k)) n0).j).1=t1 at *;rw[if_pos (q1.trans hpl)];refine wj (zq1 hv hx ?_);simp only[if_true];have en:Ent knd U s.heap (vk knd k,.ref xa) k:=⟨xa,rfl,hx,rfl,hU⟩
  have hkk:fv knd U s.heap (Wj es p (vk knd k,.ref xa)).toList (c_ ks p k):=by
   rw[mT];exact fv.ins ⟨by rw[wG];exact hkl,hke⟩ hp en
  have tb':Tb t1 ((Wj es p (vk knd k,.ref xa)).toList.map (·.1)):=by
   rw[mT,Yi];exact tb
  have z1:(Wj es p (vk knd k,.ref xa)).size=es.size+1:=by
   rw[<- wG,mT,mx _ (by rw[wG,hkl];exact hp),wG]
  have pm:(c_ ks p k).Perm (k::ks):=SU ks p k;have nd:(c_ ks p k).Nodup:=pm.nodup_iff.mpr (Vi.mpr ⟨hk,hnd⟩);refine wj (wpAny_storeSet_of ho hd ?_ (by rw[z1,vB];lia));have hsb:=Ws s.heap a (QZ (Wj es p (vk knd k,.ref xa)) t1);have ho1:=Jl ho hd (Wj es p (vk knd k,.ref xa)) t1
  have pz:t1.fill=es.size+1:=by
   unfold uP;rw[tb'.kM,tb'.size,wm,wG,z1];rfl
  split
  ·refine wj ?_
   have:=zse (A:=A) (E:=E) (knd:=knd) (s:={s with heap:=s.heap.update a (QZ (Wj es p (vk knd k,.ref xa)) t1)}) (ks:=c_ ks p k) ho1 hex rfl tb' (q1.trans hpl) (hkk.keeps ho hd hsb) nd (by rw[z1];lia) (by rw[z1];lia)
    (Q:=λ_ s'=>wA (model prog w) A (pure true) Q E s') λh' ks' sb ts pm'=>wz (q h' ks' (hsb.trans sb) (by rw[q2,hled]at ts;exact ts) (λh=>absurd h hk) (λ_=>pm'.trans pm) _)
   rw[z1]at this;exact this
  ·rename_i c
   have c:¬ t1.tooFull=true:=by simpa using c
   unfold SetTable.tooFull at c;rw[pz]at c;refine wz (q _ (c_ ks p k) hsb ⟨_,_,_,t1,ho1,hex,rfl,tb',?_,?_,q2.trans hled,q1.trans hpl,hkk.keeps ho hd hsb,nd⟩ (λh=>absurd h hk) (λ_=>pm) _)
   ·rw[z1]
    have:¬ t1.mask*3<=(es.size+1)*5:=by simpa using c
    lia
   ·rw[z1,q3];lia
end
section
variable{prog:wV}{w:wR}{K:Type}[DecidableEq K]{knd:KeyKind prog w K}{U:wd->List K->Prop}
theorem TS.same{h g:wK}{S:wd}{led:Bool}{ks:List (List K)}(x:TS knd U h S led ks)(e:∀o,h.get? S=some o->g.get? S=some o)(f:∀k a,vD knd h k a->vD knd g k a):TS knd U g S led ks:=by
 obtain⟨o,es,ep,t,c1,c2,c3,c4,c5,c6,c7,c8,⟨d1,d2⟩,c9⟩:=x;refine⟨o,es,ep,t,e o c1,c2,c3,c4,c5,c6,c7,c8,⟨d1,λi y k y1 y2=>?_⟩,c9⟩;obtain⟨a,z1,z2,z3⟩:=d2 i y k y1 y2;exact⟨a,z1,f k a z2,z3⟩
theorem TS.new{h:wK}{S:wd}{led:Bool}(e:h.get? S=some {cls:=.type "set",dict:=none,data:=.set #[] 0 (.fresh 0 0 led)}):TS knd U h S led [] :=
 ⟨_,#[],0,_,e,⟨rfl,rfl,rfl⟩,rfl,⟨λi j _ hj=>absurd hj (Wn _),rfl,rfl,⟨3,wx _,rfl⟩,λi hi=>absurd hi (Wn _),vM _,λi hi=>absurd hi (Wn _)⟩,(by show 0*5<7*3;decide),.inl (wx _),rfl,rfl,⟨rfl,λi y k y1=>by simp at y1⟩,uC⟩
variable{A:vm}{R:Result->wo->Prop}{I:wd}{fp wr:List wd}{G:Array GenState->Array GenState->Prop}{n:Nat}{P:Nat->wg->Prop}{St:Nat->wo->Prop}
theorem Zt(hv:∀k v,knd.is k v=true->∃i t,v=.int i t)(W:WalksS prog w A.in1 I fp wr G n P St){S:wd}(hSf:S ∉ fp)(hu:A.units+1<cLine){led:Bool}{key:Nat->List K}{ad:Nat->wd}
  (hval:∀i v,P i v->v=.ref (ad i)) (hI:∀i s a k,St i s->vD knd s.heap k a->a ∉ wr) (hn:n<=999) (hU:∀j,j<n->U (ad j) (key j)) :
  ∀(c i:Nat)(s:wo)(ks:List (List K)),n-i=c->i<=n->St i s->(∀j,j<n->vD knd s.heap (key j) (ad j))->TS knd U s.heap S led ks->(∀x,x∈ks ↔ ∃j,j<i/\key j=x)->ks.length<=i ->
   (∀s' ks',Moved (S::wr) G s s'->(∀k a,vD knd s.heap k a->vD knd s'.heap k a)->TS knd U s'.heap S led ks'->(∀x,x∈ks' ↔ ∃j,j<n/\key j=x)->R (.ok (.ret .none)) s') ->
   VQ (model prog w) A (.builtin "set.update.loop" ⟨[.ref S,.ref I],[]⟩) R s:=by
 have nw:S ∉ wr:=λx=>hSf (W.sub _ x)
 intro c
 induction c with
 | zero =>
  intro i s ks ec ei st ht hs hx hl r;obtain rfl:i=n:=by lia
  refine W6 qx ?_;rw[WL Ve _];refine wj (m:=pyNext (.ref I)) (W.done s _ _ st λs' mv=>?_);have f:∀k a,vD knd s.heap k a->vD knd s'.heap k a:=λk a x=>yr x λo eo=>mv.heap a o (hI i s a k st x) eo
  exact wz (r s' ks (mv.mono λ_ q=>.tail _ q) f (hs.same (λo eo=>mv.heap S o nw eo) f) hx)
 | succ c ih =>
  intro i s ks ec ei st ht hs hx hl r;have lt:i<n:=by lia
  refine W6 qx ?_;rw[WL Ve _];refine wj (m:=pyNext (.ref I)) (W.item i s _ _ lt st λv s' pv st' mv=>?_);obtain rfl:=hval i v pv;have f:∀k a,vD knd s.heap k a->vD knd s'.heap k a:=λk a x=>yr x λo eo=>mv.heap a o (hI i s a k st x) eo
  have hs':=hs.same (λo eo=>mv.heap S o nw eo) f;refine wj (m:=holding [Value.ref (ad i)] (setAdd S (.ref (ad i)))) (Wa ?_);unfold setAdd;refine Wa (wj (wpAny_pyHash_tuple (by exact hu) (f _ _ (ht i lt)) ?_));refine Zj hv (s:={s' with toks:=s'.toks+((key i).length+1)}) (by exact hu) hs' (f _ _ (ht i lt)) (hU i lt) (by lia) λh2 ks2 sb ts2 y1 y2 b=>?_
  have so:=hs';obtain⟨o9,_,_,_,g1,_,g2,_⟩:=so;have f2:∀k a,vD knd s'.heap k a->vD knd h2 k a:=λk a x=>KA x g1 g2 sb
  have IC:∀x,x∈ks2 ↔ ∃j,j<i+1/\key j=x:=λx=>by
   have old:x∈ks2 ↔ x=key i\/x∈ks:=by
    by_cases d:key i∈ks
    ·rw[y1 d];exact⟨.inr,λq=>q.elim (λe=>e ▸ d) id⟩
    ·rw[(y2 d).mem_iff,wO]
   rw[old,hx]
   constructor
   ·rintro (rfl | ⟨j,j1,j2⟩)
    ·exact⟨i,by lia,rfl⟩
    ·exact⟨j,by lia,j2⟩
   ·rintro ⟨j,j1,j2⟩
    rcases W4 (Vp j1)with e | e
    ·subst e;exact .inl j2.symm
    ·exact .inr ⟨j,e,j2⟩
  have len2:ks2.length<=i+1:=by
   by_cases d:key i∈ks
   ·rw[y1 d];lia
   ·rw[(y2 d).length_eq,wW];lia
  refine wz ⟨plainId_quiet Ve _,ih (i+1) _ ks2 (by lia) lt (W.frame _ s' _ _ st' (Vc _ _) λz hz o e=>?_) (λj hj=>f2 _ _ (f _ _ (ht j hj))) ts2 IC len2 λs3 ks3 mv3 f3 ts3 m3=>?_⟩
  ·rw[sb.2 z (λq=>hSf (q ▸ hz))];exact e
  ·refine r s3 ks3 (Moved.trans W.gtrans ((mv.mono λ_ q=>.tail _ q).then_heap (Vc _ _) λz o hz e=>?_) mv3) (λk a x=>f3 k a (f2 k a (f k a x))) ts3 m3
   rw[sb.2 z (λq=>hz (q ▸ .head _))];exact e
end
def gr(led:Bool):Obj:={cls:=.type "set",dict:=none,data:=.set #[] 0 (.fresh 0 0 led)}
def eZ(w:wR):Bool:=!(w.params.followText "set-order")
section
variable{prog:wV}{w:wR}{K:Type}[DecidableEq K]{knd:KeyKind prog w K}{U:wd->List K->Prop}{A:vm}{E:wg->wo->Prop}{s:wo}
theorem ZW(x:wg){Q:wg->wo->Prop}(q:Q (.ref s.heap.objs.size) {s with heap:=s.heap.push (gr (eZ w))}) :
  VQ (model prog w) A (.call (.builtin "set.__new__") ⟨[.type "set",x],[]⟩) (wants Q E) s:=by
 refine codeAny_of_tree ?_;refine wj (m:=checkBuiltinCall "set.__new__" ⟨[.type "set",x],[]⟩) (wpAny_of_eq (F.newCall_set_1 x) (wz ?_));refine⟨plainId_quiet ur _,W6 F.entry_set_new ?_⟩;rw[WL ur _];unfold Builtin.«set.__new__» uS;have sub:=sub_set_self;obtain⟨z1,z2,z3,z4,z5⟩:=s;dsimp only
 wp_walk
 refine wpAny_askSetting (wz ?_);dsimp only;simp only[newObj];exact wj (wpAny_alloc (wz (wz q)))
set_option maxHeartbeats 3200000 in
theorem Nr(hv:∀k v,knd.is k v=true->∃i t,v=.int i t){l:wd}{its:List wg}{key:Nat->List K}{ad:Nat->wd}(hh:A.handled=none)(hu:A.units+64<cLine)(hl:s.heap.IsList l its.toArray)
  (hi:∀(i:Nat) v,its[i]? = some v->v=.ref (ad i)) (hk:∀i,i<its.length->vD knd s.heap (key i) (ad i)) (hn:its.length<=999) (hU:∀j,j<its.length->U (ad j) (key j)) {Q:wg->wo->Prop}
  (q:∀(g:wK)(tk:Nat)(ks:List (List K)),TS knd U g s.heap.objs.size (eZ w) ks->(∀x,x∈ks ↔ ∃j,j<its.length/\key j=x)->(∀b o,s.heap.get? b=some o->g.get? b=some o)->Q (.ref s.heap.objs.size) {s with heap:=g,toks:=tk}) :
  wA (model prog w) A (call (.type "set") [.ref l]) Q E s:=by
 obtain⟨c1,c2,mro⟩:=VH.mro;have f1:=VH.made;have f2:=VH.sub;have f3:=VH.notType;have f4:=VH.canCreate;have f5:=F.typeCall_set_1 (.ref l);refine wpAny_call (codeAny_of_tree (show wA _ _ (callAny (.type "set") _) _ _ _ from ?_));refine wz ⟨Code.quiet_builtin _ (by decide +kernel),W6 F.entry_type_call ?_⟩;rw[Around.under_plain (weight_type_call_type "set" [.ref l] []) rfl]
 repeat(any_goals(first | assumption | wp_step))
 have nd:=ZW (prog:=prog) (w:=w) (A:=A.in1) (E:=E) (s:=s) (.ref l) (Q:=λv s1=>v=.ref s.heap.objs.size/\s1 = {s with heap:=s.heap.push (gr (eZ w))}) ⟨rfl,rfl⟩;refine codeAny_mono nd λr s1 hr=>?_
 cases r with
 | error e=>exact hr
 | ok fl =>
  cases fl with
  | ret obj =>
   obtain⟨rfl,rfl⟩:=hr;have gS:(s.heap.push (gr (eZ w))).get? s.heap.objs.size=some (gr (eZ w)):=wE _ rfl;have tS:Shared.TypeIs {s with heap:=s.heap.push (gr (eZ w))} (.ref s.heap.objs.size) "set":=⟨_,gS,rfl⟩;have g1:=VH.init.lookup;have g2:=VH.init.bind (.ref s.heap.objs.size)
   repeat(any_goals(first | assumption | wp_step))
   refine codeAny_mono (codeAny_call_builtin (R:=wants (λv s2=>v=.none /\ ∃g tk ks,s2 = {s with heap:=g,toks:=tk}/\TS knd U g s.heap.objs.size (eZ w) ks/\(∀x,x∈ks ↔ ∃j,j<its.length/\key j=x) /\ ∀b o,s.heap.get? b=some o->g.get? b=some o) E)
    VH.init.plain F.entry_set_init (check_set_init_1 tS ?_)) λr2 s2 hr2=>?_
   ·obtain⟨ol,e1,e2,nl,e3⟩:=hl
    obtain⟨y1,y2,y3,y4⟩:=ol;dsimp only at e2 e3;subst e2;subst e3;have gl:(s.heap.push (gr (eZ w))).get? l=some {cls:=.type "list",dict:=y2,data:=.seq its.toArray nl,slots:=y4}:=wk _ e1;have n1:=F.sub_list_set;have n2:=F.sub_list_frozenset;have n3:(Value.type "list" == Value.type "dict")=false:=by decide
    have il:(s.heap.push (gr (eZ w))).IsList l its.toArray:=⟨_,gl,rfl,nl,rfl⟩;unfold Builtin.«set.__init__» noKeywords uD;generalize hPI:pyIter=PI
    wp_walk
    subst hPI;refine W8 il ?_;refine wj (wpAny_runValue ?_);have ls:l<s.heap.objs.size:=wH e1;have zs:(s.heap.push (gr (eZ w))).objs.size=s.heap.objs.size+1:=vS ..;have ne:l≠(s.heap.push (gr (eZ w))).objs.size:=by rw[zs];exact wZ (Vn ls)
    have nf:s.heap.objs.size ∉ [(s.heap.push (gr (eZ w))).objs.size,l]:=by
     rw[zs];intro hm;rcases wO.mp hm with e | hm
     ·exact absurd e (wZ (Nat.lt_succ_self _))
     ·rcases wO.mp hm with e | hm
      ·exact absurd e (vO ls)
      ·cases hm
    have kp:∀b o,s.heap.get? b=some o->((s.heap.push (gr (eZ w))).push {cls:=.type "list_iterator",data:=.fields #[.ref l,.int 0 0]}).get? b=some o:=λb o e=>wk _ (wk _ e)
    refine Zt hv ((um (by simp[hh]) _ l ne its.toArray).toS) (S:=s.heap.objs.size) nf (by show A.units+1+1+1<_;lia) (led:=eZ w) (key:=key) (ad:=ad)
     (λi v hp=>hi i v (by simpa using hp)) ?hI (by simpa using hn) (λj hj=>hU j (by simpa using hj)) (its.toArray.size-0) 0 _ [] rfl (vM _) ⟨⟨_,wE _ rfl,rfl,rfl⟩,il.push _⟩
     (λj hj=>yr (hk j (by simpa using hj)) λo eo=>kp _ o eo) (TS.new (wk _ gS)) (λx=>⟨λh=>absurd h WH,λ⟨j,j1,_⟩=>absurd j1 (Wn _)⟩) (wx _) ?fin
    case hI =>
     intro i s9 a9 k9 st9 x9 hm;obtain⟨⟨o8,u1,u2,_⟩,_⟩:=st9;obtain⟨o9,_,_,v1,v2,_⟩:=x9;rcases wO.mp hm with e | hm
     ·subst e
      rw[u1]at v1;cases v1;rw[u2]at v2;exact absurd (uE v2) (by decide)
     ·cases hm
    case fin =>
     intro s9 ks9 mv f9 ts9 m9;obtain⟨g,x1,x2,x3,x4⟩:=s9;obtain rfl:x1=s.gens:=mv.gens;obtain rfl:x2=s.drawn:=mv.drawn;obtain rfl:x4=s.os:=mv.os;refine wz (wz ⟨rfl,g,x3,ks9,rfl,ts9,by simpa using m9,λb o e=>?_⟩);have lb:b<s.heap.objs.size:=wH e;refine mv.heap b o (λhm=>?_) (kp b o e);rcases wO.mp hm with e' | hm
     ·exact absurd e' (wZ lb)
     ·rcases wO.mp hm with e' | hm
      ·rw[zs]at e';exact absurd e' (wZ (Vn lb))
      ·cases hm
   ·cases r2 with
    | error e=>exact hr2
    | ok fl2 =>
     cases fl2 with
     | ret v =>
      obtain⟨rfl,g,tk,ks,rfl,a1,a2,a3⟩:=hr2
      repeat(any_goals(first | assumption | wp_step))
      exact q g tk ks a1 a2 a3
     | _=>exact hr2.elim
  | _=>exact hr.elim
end
end TB
namespace TB
open PySem PySem.W PyProof.Rows
inductive d_{α : Type}(n:Nat)(φ : α -> Prop):KasT α -> Prop
 | ret {a : α} : φ a->d_ n φ (.ret a)
 | ask {i j:Nat} {k:Bool->KasT α} : i<n->j<n->(∀b,d_ n φ (k b))->d_ n φ (.ask i j k)
theorem d_.bind{α β : Type}{n:Nat}{φ : α -> Prop}{ψ : β -> Prop}{t:KasT α}{f : α -> KasT β}(h:d_ n φ t)(hf:∀a,φ a->d_ n ψ (f a)):d_ n ψ (t.bind f):=by
 induction h with
 | ret h=>exact hf _ h
 | ask h1 h2 _ ih=>exact .ask h1 h2 ih
def Pm(n:Nat)(p:Array Nat):Prop:=p.toList.Perm (vf n)
theorem Pm.get{n:Nat}{p:Array Nat}(h:Pm n p)(h1:1<=n)(i:Nat):p.getD i 0<n:=by
 rw[wL,<- vK];cases e:p.toList[i]? with
 | none=>exact h1
 | some x=>exact vy.mp (h.mem_iff.mp (vz e))
theorem Pm.rev{n:Nat}{p:Array Nat}(h:Pm n p)(i j:Nat):Pm n (kas_rev p i j):=(QM.mp (mirror_perm p i j _)).trans h
theorem Pm.KH{n:Nat}{p:Array Nat}(h:Pm n p)(i j:Nat):Pm n (bubble p i j):=(QM.mp (bubble_perm p i j)).trans h
section
variable{n:Nat}(h1:1<=n)
include h1
theorem zE{p:Array Nat}(h:Pm n p):∀f m,d_ n (λ_=>True) (kas_asc p f m)
 | 0,_=>.ret trivial
 | f+1,m=>.ask (h.get h1 _) (h.get h1 _) λb=>by
  split
  ·exact .ret trivial
  ·exact zE h f (m+1)
theorem yi:∀f (p:Array Nat) m q,Pm n p->d_ n (λr=>Pm n r.1) (kas_desc f p m q)
 | 0,_,_,_,h=>.ret h
 | f+1,p,m,q,h=>.ask (h.get h1 _) (h.get h1 _) λb=>by
  split
  ·split
   ·exact yi f _ _ _ (h.rev _ _)
   ·exact yi f _ _ _ h
  ·refine .ask (h.get h1 _) (h.get h1 _) λc=>?_
   split
   ·exact .ret h
   ·exact yi f _ _ _ h
theorem KQ{p:Array Nat}(h:Pm n p)(m r:Nat):d_ n (λx=>Pm n x.2) (kas_tail3 m r p):=(zE h1 (h.rev 0 m) _ _).bind λ_ _=>.ret (h.rev 0 m)
theorem Kf{p:Array Nat}(h:Pm n p)(m r:Nat):d_ n (λx=>Pm n x.2) (kas_descPart m r p):=(yi h1 _ _ _ _ h).bind λx hx=>by
 split
 ·exact KQ h1 (hx.rev _ _) _ _
 ·exact KQ h1 hx _ _
theorem YD{p:Array Nat}(h:Pm n p)(r:Nat):d_ n (λx=>Pm n x.2) (kas_count r p):=(zE h1 h _ _).bind λm _=>by
 split
 ·exact .ret h
 ·split
  ·refine .ask (h.get h1 _) (h.get h1 _) λb=>?_
   split
   ·exact .ret h
   ·exact Kf h1 (h.rev _ _) _ _
  ·exact Kf h1 h _ _
theorem z9{p:Array Nat}(h:Pm n p)(k:Nat):∀f l r,d_ n (λ_=>True) (kas_place p k f l r)
 | 0,_,_=>.ret trivial
 | f+1,l,r=>by
  unfold kas_place
  split
  ·exact .ret trivial
  ·refine .ask (h.get h1 _) (h.get h1 _) λb=>?_
   split
   ·exact z9 h k f _ _
   ·exact z9 h k f _ _
theorem Hc:∀f (p:Array Nat) k,Pm n p->d_ n (Pm n) (kas_bin f p k)
 | 0,_,_,h=>.ret h
 | f+1,p,k,h=>(z9 h1 h k _ _ _).bind λl _=>Hc f _ _ (h.KH _ _)
theorem Uv:d_ n (Pm n) (kas_sort n):=(YD h1 (p:=(vf n).toArray) (by unfold Pm;simp) n).bind λx hx=>by
 split
 ·exact Hc h1 _ _ _ hx
 ·exact .ret hx
end
section
variable{prog:wV}{w:wR}{A:vm}{E:wg->wo->Prop}{s:wo}
def Tw(h:wK)(v:wg):Prop:=∃a o its n x t ys,v=.ref a/\h.get? a=some o/\o.cls=.type "tuple"/\o.data=.seq its n/\its.toList=.int x t::ys /\ ∀y∈ys,∃i u,y=.int i u
theorem Tw.ints{h:wK}{v:wg}(x:Tw h v):∃a o its n,v=.ref a/\h.get? a=some o/\o.cls=.type "tuple"/\o.data=.seq its n/\(∃i t,its[0]? = some (.int i t)) /\ ∀y∈its.toList,∃i u,y=.int i u:=by
 obtain⟨a,o,its,n,i,t,ys,h1,h2,h3,h4,h5,h6⟩:=x;refine⟨a,o,its,n,h1,h2,h3,h4,⟨i,t,?_⟩,λy hy=>?_⟩
 ·rw[<- vK,h5];rfl
 ·rw[h5]at hy
  rcases wO.mp hy with e | hy
  ·exact⟨i,t,e⟩
  ·exact h6 y hy
theorem JK{h:wK} : ∀(vs:List wg),(∀v∈vs,Tw h v)->∃fs,KatTups h vs fs/\fs.length=vs.length /\ ∀f∈fs,∃i t,f=.int i t
 | [],_=>⟨[],.nil,rfl,λf hf=>by simp at hf⟩
 | v::vs,hv=>by
  obtain⟨fs,h1,h2,h3⟩:=JK vs λu hu=>hv u (.tail _ hu)
  obtain⟨a,o,its,n,rfl,e1,e2,e3,⟨i,t,e4⟩,_⟩:=(hv v (.head _)).ints;refine⟨.int i t::fs,.cons e1 e2 e3 e4 h1,by simp[h2],λf hf=>?_⟩;rcases wO.mp hf with e | hf
  ·exact⟨i,t,e⟩
  ·exact h3 f hf
end
structure oD(w:wR)(h:wK)(a:wd)(es:Array (Int × wg))(ep:Nat)(t:Wq):Prop where
 at':∃o,h.get? a=some o/\o.ExactSet/\o.data=.set es ep t
 fits:t.fits es.size=true
 size:t.place.size=es.size
 hW:iT t.place
 plain:t.plain=true
 led:t.led=eZ w
 iE:es.size<=4000
theorem oD.same{w:wR}{h g:wK}{a:wd}{es:Array (Int × wg)}{ep:Nat}{t:Wq}(x:oD w h a es ep t)(e:∀o,h.get? a=some o->g.get? a=some o):oD w g a es ep t :=
 ⟨let ⟨o,h1,r⟩:=x.at';⟨o,e o h1,r⟩,x.fits,x.size,x.hW,x.plain,x.led,x.iE⟩
section
variable{prog:wV}{w:wR}{A:vm}{E:wg->wo->Prop}{s:wo}{a:wd}{es:Array (Int × wg)}{ep:Nat}{t:Wq}
end
section
variable{prog:wV}{w:wR}{A:vm}{E:wg->wo->Prop}{s:wo}{a it:wd}{es:Array (Int × wg)}{ep:Nat}{t:Wq}{i:Nat}
end
section
variable{prog:wV}{w:wR}{A:vm}{E:wg->wo->Prop}{s:wo}
theorem zt5{a:wd}{vs:List wg}{n:Nat}{P:Xn->wo->Prop}(ho:s.heap.get? a=some (vH "list" vs.toArray n))(h2:vs.length<2)
  (q:∀(g:wK)(c:Nat),g.get? a=some (vH "list" vs.toArray c)->(∀b o,b≠a->s.heap.get? b=some o->g.get? b=some o)->P (.done (.ret .none)) {s with heap:=g}) :
  wA (model prog w) A (Builtin.«list.sort» ⟨[.ref a],[]⟩) P E s:=by
 have sb:=Ws s.heap a (vC λ_=>(#[]:Array wg));obtain⟨e1,ho1⟩:∃e1,(s.heap.update a (vC λ_=>(#[]:Array wg))).get? a=some (vH "list" #[] e1):=⟨_,get?_update_seq ho λ_=>#[]⟩
 have kp:∀b o,b≠a->s.heap.get? b=some o->(((s.heap.update a (vC λ_=>(#[]:Array wg))).push (vH "tuple" vs.toArray 0)).push (vH "list" #[] 0)).get? b=some o:=λb o hb e =>
  wk _ (wk _ ((sb.2 b hb).trans e))
 have ho3:(((s.heap.update a (vC λ_=>(#[]:Array wg))).push (vH "tuple" vs.toArray 0)).push (vH "list" #[] 0)).get? a=some (vH "list" #[] e1):=wk _ (wk _ ho1);have nz:vs.toArray.size<2:=by rw[wN];lia
 rw[list_sort_plain];refine wj (listItems_at ho rfl ?_);refine wj (listUpdate_at ho rfl ?_ (by rw[wN,vB];lia) (vM _));refine wj (seqEpoch_at ho1 rfl ?_);refine wj (wpAny_newTuple ?_ (by show vs.length<=_;rw[vB];lia));refine wj (wpAny_newList ?_ (vM _));refine Wa ?_
 show wA (model prog w) A _ P E {s with heap:=((s.heap.update a (vC λ_=>(#[]:Array wg))).push (vH "tuple" vs.toArray 0)).push (vH "list" #[] 0)}
 dsimp only;rw[if_pos nz,if_pos nz];generalize ((s.heap.update a (vC λ_=>(#[]:Array wg))).push (vH "tuple" vs.toArray 0)).push (vH "list" #[] 0)=g at *;refine wj (wz ?_);rw[StateT.run_pure];refine wj (wz ?_);dsimp only
 have es:(arrOf (SortSt.mk' general' (vs.toArray.zip vs.toArray) #[] 7 none)).map (·.2)=vs.toArray:=by
  show(vs.toArray.zip vs.toArray).map (·.2)=vs.toArray
  apply Array.ext'
  simp[List.map_snd_zip]
 rw[es];refine wj (seqEpoch_at (s:={s with heap:=g}) ho3 rfl ?_);refine wj (listUpdate_at (s:={s with heap:=g}) ho3 rfl ?_ (vM _) (by rw[wN,vB];lia));simp only[bne_self_eq_false,w8,if_false];have sb2:=Ws g a (vC λ_=>vs.toArray);refine wz (q _ _ (get?_update_seq ho3 λ_=>vs.toArray) λb o hb e=>(sb2.2 b hb).trans (kp b o hb e))
end
end TB
namespace L2
open PySem PySem.Spec PyProof.Rows GM
def mm(w:wR)(a:wd)(ws:List V):HO:=.ext λh=>∃es ep t,TB.oD w h a es ep t/\aC ws (es.toList.map (·.2))
def Bj(K:wa)(H:Hp)(v:V)(k:List Int):Prop:=∃q,v=.ref q/\aP K H q (k.map V.int)
theorem items_int{P:wV}{w:wR} : ∀{us:List wg}{ns:List Int},WT us ns->ItemsAre (intKind P w) ns us
 | _,_,.nil=>.nil
 | _,_,.cons n t r=>.cons (by show Qn n (Value.int n t)=true;simp[Qn]) (items_int r)
theorem Ts{P:wV}{w:wR}(k:Int)(v:wg)(h:(intKind P w).is k v=true):∃i t,v=.int i t:=by
 have h:Qn k v=true:=h;cases v with
 | int i t=>exact⟨i,t,rfl⟩
 | _=>exact absurd h (by simp[Qn])
theorem Inv.key{X:Cx}{pins:List (wd × Obj)}{σ : List (Option V)}{H:Hp}{s:wo}(I:Inv X pins σ H s){q:wd}{k:List Int}(h:aP X.K H q (k.map V.int)):vD (intKind X.prog X.w) s.heap k q:=by
 obtain⟨its,r,⟨o,e,hc,n,hd⟩,_⟩:=I.tuple h;exact⟨o,its.toArray,n,e,hc,hd,items_int (tZ r)⟩
def B0(K:wa)(w:wR):List V->Hp->VK->Prop:=λxs H Q=>∃(p:wd)(vs:List V)(key:Nat->List Int),xs=[.ref p]/\aN K H p vs/\vs.length<=999/\(∀j v,vs[j]? = some v->Bj K H v (key j)) /\
 ∀(l:wd)(ws:List V)(ks:List (List Int)),H l=none->ws.length=ks.length->(∀(i:Nat)(v:V)(k:List Int),ws[i]? = some v->ks[i]? = some k->Bj K H v k)->ks.Nodup->(∀x,x∈ks ↔ ∃j,j<vs.length/\key j=x) ->
  Q (.ref l) (upd H l (mm w l ws))
theorem Ll:∀{ws:List V}{us:List wg},aC ws us->∀{i:Nat}{q:wd},ws[i]? = some (.ref q)->us[i]? = some (.ref q)
 | _,_,.nil,i,q,h=>by simp at h
 | _,_,.cons r1 r2,0,q,h=>by
  simp only[xi,qG]at h ⊢;subst h;exact r1
 | _,_,.cons r1 r2,i+1,q,h=>by
  simp only[qE]at h ⊢;exact Ll r2 h
def lC:wg->V
 | .ref a=>.ref a
 | _=>.bM
theorem AZ:∀(us:List wg),(∀u∈us,∃a,u=.ref a)->aC (us.map lC) us
 | [],_=>.nil
 | u::us,h=>by
  obtain⟨a,rfl⟩:=h u (vc ..);exact .cons rfl (AZ us λu hu=>h u (wI _ hu))
theorem YY(es:List (Int × wg))(h:∀e∈es,∃a,e.2=.ref a):aC (es.map λe=>lC e.2) (es.map (·.2)):=by
 have:=AZ (es.map (·.2)) λu hu=>by
  obtain⟨e,he,rfl⟩:=vg.mp hu;exact h e he
 rwa[Wu]at this
theorem Bx{α : Type}[DecidableEq α]:∀{ks l:List α},ks.Nodup->(∀x∈ks,x∈l)->ks.length<=l.length
 | [],l,_,_=>vM _
 | k::ks,l,h,hs=>by
  rw[Vi]at h;have hk:=hs k (vc ..);have:=Bx (l:=l.erase k) h.2 λx hx=>(xU (λe=>h.1 (by rw[<- e];exact hx))).mpr (hs x (wI _ hx))
  rw[Q8 hk]at this;have:=xE hk;rw[wW]
  lia
theorem Paired.back{α β : Type}{R : α -> β -> Prop} : ∀{xs:List α}{us:List β},Paired R xs us->∀{i:Nat}{u : β},us[i]? = some u->∃x,xs[i]? = some x/\R x u
 | _,_,.nil,i,u,h=>by simp at h
 | _,_,.cons r1 r2,0,u,h=>by
  simp only[xi,qG]at h ⊢;subst h;exact⟨_,rfl,r1⟩
 | _,_,.cons r1 r2,i+1,u,h=>by
  simp only[qE]at h ⊢;exact Paired.back r2 h
theorem TF{X:Cx}(hu:X.A.units+64<cLine)(hc:X.calm=true):ao X (.type "set") (B0 X.K X.w):=by
 intro pins s σ H xs us Q I r h;obtain⟨p,vs,key,rfl,hq,hn,hk,q⟩:=h;obtain⟨u,rfl,rx⟩:=gi r;cases rx;obtain⟨its,r',pl,hz⟩:=I.list hq;have hlen:=r'.length
 have hx:∀j:Nat,∃ad:wd,∀v,vs[j]? = some v->v=.ref ad/\aP X.K H ad ((key j).map V.int):=λj=>by
  cases e:vs[j]? with
  | none=>exact⟨0,λv h=>by cases h⟩
  | some v =>
   obtain⟨ad,h1,h2⟩:=hk j v e;exact⟨ad,λv' h=>by cases h;exact⟨h1,h2⟩⟩
 obtain⟨ad,had⟩:∃ad:Nat->wd,∀j v,vs[j]? = some v->v=.ref (ad j)/\aP X.K H (ad j) ((key j).map V.int):=⟨λj=>(hx j).choose,λj=>(hx j).choose_spec⟩;have hg:∀j,j<its.length->∃v,vs[j]? = some v:=λj hj=>⟨vs[j]'(by lia),wb _⟩
 refine TB.Nr (knd:=intKind X.prog X.w) (U:=λa k=>aP X.K H a (k.map V.int)) Ts (key:=key) (ad:=ad) (I.ok.hd hc) hu pl.isList (λj v hv=>?_) (λj hj=>?_) (by lia) (λj hj=>?_) λg tk ks hS hm kp=>?_
 ·obtain⟨v',hv'⟩:=hg j (by rcases w9 j its.length with h | h;exact h;rw[Wh h]at hv;cases hv)
  obtain⟨rfl,_⟩:=had j v' hv';have:=Ll r' hv';rw[hv]at this;exact vo this
 ·obtain⟨v',hv'⟩:=hg j hj
  exact I.key (had j v' hv').2
 ·obtain⟨v',hv'⟩:=hg j hj
  exact(had j v' hv').2
 ·obtain⟨o,es,ep,t,e1,e2,e3,e4,e5,e6,e7,e8,e9,e10⟩:=hS
  obtain⟨f1,f2⟩:=e9
  have kl:ks.length<=999:=vd (Bx e10 (l:=(vf its.length).map key) λx hx=>by
   obtain⟨j,h1,h2⟩:=(hm x).mp hx;exact vg.mpr ⟨j,vy.mpr h1,h2⟩) (by rw[wm,WO];lia)
  have hz':es.size=ks.length:=by rw[<- f1,wG]
  have hr:∀e∈es.toList,∃a,e.2=.ref a:=λe he=>by
   obtain⟨i,hi⟩:=xF.mp he;obtain⟨k,hk'⟩:∃k,ks[i]? = some k:=⟨_,wb (by rw[<- f1];exact(wX.mp hi).1)⟩;obtain⟨a,h1,_⟩:=f2 i e k hi hk';exact⟨a,h1⟩
  refine⟨.ref s.heap.objs.size,_,I.laid (t':=tk) kp (wx _) (show cF X.prog X.w _ _ _ (mm X.w s.heap.objs.size (es.toList.map λe=>lC e.2))from⟨⟨es,ep,t,⟨⟨o,e1,e2,e3⟩,?_,?_,e4.hW,e8,e7,by lia⟩,?_⟩,⟨o,e1⟩,?_⟩),rfl,
   q _ _ ks (I.ar.fresh (wx _)) (by rw[wm];exact f1) (λi v k hv hk'=>?_) e10 λx=>by rw[hlen];exact hm x⟩
  ·have:=e4.fits
   rwa[wm,wG]at this
  ·rw[e4.size,wm,wG]
  ·exact YY _ hr
  ·rintro h1 h2 ⟨es',ep',t',a1,a2⟩ hh
   exact⟨es',ep',t',a1.same hh,a2⟩
  ·rw[wB]at hv
   cases e:es.toList[i]? with
   | none=>rw[e]at hv;cases hv
   | some x =>
    rw[e]at hv;cases hv;obtain⟨a,h1,_,_,h2⟩:=f2 i x k e hk';exact⟨a,by show lC x.2=_;rw[h1];rfl,h2⟩
def FQ(w:wR):List V->Hp->VK->Prop:=λxs H Q=>∃(p:wd)(ws:List V),xs=[.ref p]/\H p=some (mm w p ws)/\Q (.int (ws.length:Int)) H
theorem Zq{X:Cx} : ao X (.builtin "len") (FQ X.w):=by
 intro pins s σ H xs us Q I r h;obtain⟨p,ws,rfl,hp,q⟩:=h;obtain⟨u,rfl,rx⟩:=gi r;cases rx;obtain⟨⟨es,ep,t,y,r'⟩,_,_⟩:=I.ar p _ hp;obtain⟨o,h1,h2,h3⟩:=y.at';have hl:ws.length=es.size:=by have:=r'.length;simpa using this
 have:=y.iE;exact PySem.call_len_set h1 h2 h3 y.fits (by lia) ⟨.int (ws.length:Int),H,I.tok _,⟨s.toks+1,by rw[hl]⟩,q⟩
end L2
namespace TB
open PySem PySem.W PyProof.Rows MeetsSeq
section
variable{prog:wV}{w:wR}{A:vm}{s:wo}{R:Result->wo->Prop}
end
end TB
namespace L2
open PySem PySem.Spec PyProof.Rows GM
section
variable{K:wa}{w:wR}{H H':Hp}{Q:VK}{v:V}{p l:wd}{xs ys:List Rat}{us ws:List V}
end
def jf(ex:wd)(C:wg):HO:=.ext λh=>∃oe,h.get? ex=some oe/\mF C oe
def Kp(K:wa)(G:wg)(i:Nat)(tb:(St->XK)->TS)(th:wd->wg->TS):TS:=λD σ H=>∃W:St->XK,tb W D σ H /\ ∀σ' C o H',W σ' C o H'->WM K C G=some true /\
 ∀ex,H' ex=none->th ex C {nx:=λσ2 H2=>H2 ex=none->D.nx (σ2.set i none) (upd H2 ex (jf ex C)),rt:=D.rt,bk:=λσ2 H2=>D.bk (σ2.set i none) H2,ct:=λσ2 H2=>D.ct (σ2.set i none) H2} (σ'.set i (some (.ref ex))) H'
theorem Inv.adopt{X:Cx}{pins pins':List (wd × Obj)}{σ σ1:St}{H H1:Hp}{s s0:wo}{ex:wd}{oe:Obj}{C:wg}(I:Inv (X.kB (X.pn++pins) ex oe) pins' σ H s)(I1:Inv X pins σ1 H1 s0)(c:mF C oe)(hs:X.stack=X.env::X.outer)(hf:X.env.frame=some X.env.locals)
  (fresh:∀b o,s0.heap.get? b=some o->H1 b=none->b ∉ bt X.stack->b≠ex):Inv X pins σ (upd H ex (jf ex C)) s:=by
 obtain⟨he,hn,nl,nf,nc⟩:=I.pin (ex,oe) (Wl _ (vv _ (vx.mpr rfl)));have J:=Inv.oE I1.ok I;have ne:∀b u,H b=some u->b≠ex:=λb u e z=>by subst z;rw[hn]at e;cases e
 have nfr:∀b,b∈bt X.stack->b≠ex:=λb hb z=>by
  subst z;rw[hs]at hb;unfold bt at hb;rw[VL,hf]at hb;rcases wO.mp hb with z | z
  ·exact nl z
  ·exact nf z
 refine⟨I1.ok,J.os,J.bare,⟨J.base.keep,J.base.slot,λb u e z hx=>?_,J.base.there,λb xs q=>?_,λb o xs q=>?_,λb ps q=>?_⟩,J.loc,J.cell,?_,λx c' e=>?_,λp hp=>?_,λb o e=>?_,J.len⟩
 ·obtain⟨o',e1⟩:=I1.base.there b u e hx
  have z1:=I1.base.free b u e z hx
  have:b≠ex:=by
   by_cases hb:b∈bt X.stack
   ·exact nfr b hb
   ·exact fresh b o' e1 z1 hb
  rw[b9 this];exact J.base.free b u e z hx
 ·have:=J.base.eG b xs q
  rw[b9 (ne b _ this)];exact this
 ·have:=J.base.dW b o xs q
  rw[b9 (ne b _ this)];exact this
 ·obtain⟨ms,this⟩:=J.base.eH b ps q
  exact⟨ms,by rw[b9 (ne b _ this)];exact this⟩
 ·rw[b9 (qi nl)];exact J.free
 ·have:c'≠ex:=λz=>by
   subst z;obtain⟨v,o,e1,e2⟩:=J.cell x _ e;have:(some oe:Option Obj)=some o:=he.symm.trans e1;cases this;exact nc v e2
  rw[b9 this];exact J.eF x c' e
 ·obtain⟨a1,a2,a3,a4,a5⟩:=J.pin p hp
  obtain⟨b1,b2,b3,b4,b5⟩:=I1.pin p hp
  have:p.1≠ex:=by
   by_cases hb:p.1∈bt X.stack
   ·exact nfr _ hb
   ·exact fresh _ _ b1 b2 hb
  exact⟨a1,by rw[b9 this];exact a2,a3,a4,a5⟩
 ·by_cases hb:b=ex
  ·subst hb
   rw[cb]at e;cases e;exact⟨⟨oe,he,c⟩,⟨oe,he⟩,λh1 h2 ⟨o1,z1,z2⟩ k=>⟨o1,k o1 z1,z2⟩⟩
  ·rw[b9 hb]at e
   exact(J.ar b o e).gp (λ_ _ _ q=>q) (λc q=>by rw[b9 (gN q hn)];exact q) λc xs q=>by rw[b9 (gN q hn)];exact q
section
variable{X:Cx}{x n:Str}{G:wg}{i:Nat}{b₀ : vq}{body suite:List vq}{np hpos pos:Pos}{tb:(St->XK)->TS}{th:wd->wg->TS}
theorem SF(hs:X.stack=X.env::X.outer)(hf:X.env.frame=some X.env.locals)(hN:X.N.Nodup)(hi:X.N[i]? = some n)(hl:X.env.scope.names.lookup n=some .local)(hg:Gl X x)(hG:X.mg x=some G)
  (hb:∀(W:St->XK)(pn:List (wd × Obj))(E':wg->wo->Prop),Iu (bX X.prog X.w) (X.at pn E') W->cV (X.at pn E') body (tb W))
  (hh:∀(pn:List (wd × Obj))(ex:wd)(C:wg)(oe:Obj),mF C oe->cV (X.kB pn ex oe) (b₀ :: suite) (th ex C)) (hdb:(x == ("__debug__" : Str))=false:=by decide) :
  PS X (.Try body [.ExceptHandler (some (.Name x np)) (some n) (b₀ :: suite) hpos] [] [] pos) (Kp X.K G i tb th):=by
 intro pins s σ H D I h;obtain⟨W,hB,hH⟩:=h;refine wpAny_Try_except ?_;have I':=I.Fs λe s1=>∃σ1 H1 s0,Inv X pins σ1 H1 s0/\bX X.prog X.w X.stack H1 s0 (W σ1) e s1
 have key:=hb W (X.pn++pins) (λe s1=>∃σ1 H1 s0,Inv X pins σ1 H1 s0/\bX X.prog X.w X.stack H1 s0 (W σ1) e s1) (λpins1 σ1 H1 s0 e s1 I1 q=>⟨σ1,H1,s0,I1.jX,q⟩) [] s σ H D I' hB;refine vU key (λf s1 hq=>?_) λe s1 he=>?_
 ·cases f with
  | next=>obtain⟨σ',H',J,q⟩:=hq;exact qq ⟨σ',H',J.jX,q⟩
  | brk=>obtain⟨σ',H',J,q⟩:=hq;exact⟨σ',H',J.jX,q⟩
  | cont=>obtain⟨σ',H',J,q⟩:=hq;exact⟨σ',H',J.jX,q⟩
  | ret u=>obtain⟨v,σ',H',J,r,q⟩:=hq;exact⟨v,σ',H',J.jX,r,q⟩
 obtain⟨σ1,H1,s0,I1,ex,C,H',B,rfl,os,bare,un,ar,F,ov,q⟩:=he;obtain⟨hm,hS⟩:=hH σ1 C none H' q;have hfs:∀b∈bt X.stack,H1 b=none /\ ∃o,s0.heap.get? b=some o /\ ∀vs,o.data≠.fields vs:=λb hb=>⟨I1.mh b hb,(I1.stack.mem hb).2⟩
 have hfr:=I.ok.frames.trans (congrArg some hs)
 have hex:H' ex=none:=by
  obtain⟨_,_,_,_,_,_,_,_,_,_,_,_,_,be,_⟩:=F;cases z:H' ex with
  | none=>rfl
  | some o =>
   obtain⟨u,e1⟩:=ov.ff ex o z;rw[be]at e1;cases e1
 have fresh:∀b o,s0.heap.get? b=some o->H1 b=none->b ∉ bt X.stack->b≠ex:=λb o e z nf q=>by
  obtain⟨_,_,_,_,_,_,_,_,_,_,_,_,_,be,_⟩:=F;subst q;rw[ov.old b o e z nf]at be;cases be
 have st1:=F.st;rw[hs]at F
 have exc:∀{h4:wK},bJ B (X.env::X.outer) ex C .none h4->s1.heap.UpToSlots h4->∃oe,h4.get? ex=some oe/\mF C oe/\Inv (X.kB (X.pn++pins) ex oe) [] σ1 H' {s1 with heap:=h4}:=λ{h4} F4 sm=>by
  have J:Inv X pins σ1 H' {s1 with heap:=h4}:=I1.yU (s':={s1 with heap:=h4}) (ch:=[]) os (ov.un un hfs F4.st sm) (ov.ar ar st1 F4.st) bare (λ_ z=>nomatch z);obtain⟨_,_,oe,vs,T,oT,ts,he,hc,hd,h1,h2,hdi,_⟩:=F4;refine⟨oe,he,⟨hc,⟨vs,hd,h2⟩,hdi⟩,J.NV he hex (λz=>?_) (λz=>?_) λv z=>?_⟩
  ·obtain⟨m,⟨o,es,ep,ho,hdd,_⟩,_⟩:=J.loc
   rw[<- z]at ho;have:(some oe:Option Obj)=some o:=he.symm.trans ho;cases this;rw[hd]at hdd;cases hdd
  ·obtain⟨_,o,ho,nr⟩:=J.dw.mem z
   have:(some oe:Option Obj)=some o:=he.symm.trans ho;cases this;exact nr vs hd
  ·rw[hd]at z;cases z
 refine F.note hfr hf λh2 F2 sm2=>F2.land λh3 F3 sm3=>?_
 obtain⟨oe3,g3,x3,K3⟩:=exc F3 (sm2.trans sm3);refine wpAny_handleBy_cons (codeAny_handlers_test (rL K3 hg hG ?_ hdb)) (by intro z;cases z);have LT:QK (model X.prog X.w) h3 (typeOf (.ref ex)) C:=x3.cls ▸ (u9 g3).andThen .now;refine(PySem.W.exm_one (h:=h3) K3.cq LT hm).here ?_;refine codeAny_handlers_suite_as ?_;refine F3.land λh4 F4 sm4=>?_
 obtain⟨oe,g4,x4,K4⟩:=exc F4 ((sm2.trans sm3).trans sm4);refine mQ (X:=X.kB (X.pn++pins) ex oe) K4 hN hi (.inl hl) (v:=.ref ex) rfl (λs5 K5=>?_) (.inr hl);refine vU (hh _ ex C oe x4 [] s5 _ H' _ K5 (hS ex hex)) (λf s6 h6=>?_) λ_ _ z=>z.elim
 show wA (model X.prog X.w) X.A (do bindName X.env n .none;unbindBehindTheSuite X.env n hpos) _ _ _
 cases f with
 | next=>obtain⟨σ',H6,J,q6⟩:=h6;exact(J.adopt I1 x4 hs hf fresh).gone hN hi hl λs7 J7=>⟨_,_,J7,q6 (J.pin (ex,oe) (Wl _ (vv _ (vx.mpr rfl)))).2.1⟩
 | brk=>obtain⟨σ',H6,J,q6⟩:=h6;exact(J.oE I.ok).gone hN hi hl λs7 J7=>⟨_,H6,J7,q6⟩
 | cont=>obtain⟨σ',H6,J,q6⟩:=h6;exact(J.oE I.ok).gone hN hi hl λs7 J7=>⟨_,H6,J7,q6⟩
 | ret u=>obtain⟨v,σ',H6,J,r,q6⟩:=h6;exact(J.oE I.ok).gone hN hi hl λs7 J7=>⟨v,_,H6,J7,r,q6⟩
end
def iB(K:wa):List V->Hp->VK->Prop:=λxs H Q=>∃(ex C':wd)(b:Bool),H ex=some (jf ex (.ref C'))/\du K C' /\
 ((∃D,xs=[.ref ex,.ref D]/\wt K (.ref C') (.ref D)=some b)\/(∃T,xs=[.ref ex,.ty T]/\wt K (.ref C') (.type T)=some b) \/
  ∃(tp:wd)(cs:List wd),xs=[.ref ex,.ref tp]/\aP K H tp (cs.map V.ref)/\qa K (.ref C') (cs.map Value.ref)=some b)/\Q (.bl b) H
theorem FP:∀{cs:List wd}{us:List wg},aC (cs.map V.ref) us->us=cs.map Value.ref
 | [],_,.nil=>rfl
 | c::cs,_,.cons r1 r2=>by rw[FP r2,wU,show _=Value.ref c from r1]
theorem lE{X:Cx} : ao X (.builtin "isinstance") (iB X.K):=by
 intro pins s σ H xs us Q I r h;obtain⟨ex,C',b,hx,c,h,q⟩:=h;obtain⟨⟨oe,e,oc⟩,_,_⟩:=I.ar ex _ hx;obtain⟨vs,d,_⟩:=oc.fld;have J:xH s.heap ex oe C' none:=⟨e,oc.cls,by unfold PySem.W.notCls;rw[d],by rw[oc.dict];trivial⟩;have fin:∀tk,EP X pins σ Q (.bool b) {s with toks:=tk}:=λtk=>⟨.bl b,H,I.tok _,rfl,q⟩
 rcases h with⟨D,rfl,k⟩ | ⟨T,rfl,k⟩ | ⟨tp,cs,rfl,ht,k⟩
 ·obtain⟨u,w',rfl,rx,rt⟩:=iQ r
  cases (show u=Value.ref ex from rx);cases (show w'=Value.ref D from rt);exact WQ (A8 c) I.cq J k (λz=>nomatch z) fin
 ·obtain⟨u,w',rfl,rx,rt⟩:=iQ r
  cases (show u=Value.ref ex from rx);cases (show w'=Value.type T from rt);exact WQ (A8 c) I.cq J k (λz=>nomatch z) fin
 ·obtain⟨u,w',rfl,rx,rt⟩:=iQ r
  cases (show u=Value.ref ex from rx);cases (show w'=Value.ref tp from rt);obtain⟨its,rv,⟨ot,ht1,ht2,n,ht3⟩,_⟩:=I.tuple ht;have:=FP rv;subst this;obtain⟨cl,dd,da,sl⟩:=ot;cases ht2;cases ht3;exact WR (A8 c) I.cq J ht1 k (λz=>nomatch z) fin
section
variable{K:wa}{G:wg}{i:Nat}{tb:(St->XK)->TS}{th:wd->wg->TS}{D:ck}{σ : St}{H:Hp}{Q:VK}{ex C' tp:wd}{b:Bool}{cs:List wd}
theorem Yg(W:St->XK)(h:tb W D σ H) (k:∀σ' C o H',W σ' C o H'->WM K C G=some true /\
  ∀ex,H' ex=none->th ex C {nx:=λσ2 H2=>H2 ex=none->D.nx (σ2.set i none) (upd H2 ex (jf ex C)),rt:=D.rt,bk:=λσ2 H2=>D.bk (σ2.set i none) H2,ct:=λσ2 H2=>D.ct (σ2.set i none) H2} (σ'.set i (some (.ref ex))) H'):Kp K G i tb th D σ H:=⟨W,h,k⟩
theorem tY{D':wd}(h:H ex=some (jf ex (.ref C')))(c:du K C')(k:wt K (.ref C') (.ref D')=some b)(q:Q (.bl b) H):iB K [.ref ex,.ref D'] H Q:=⟨ex,C',b,h,c,.inl ⟨D',rfl,k⟩,q⟩
theorem zqV{T:String}(h:H ex=some (jf ex (.ref C')))(c:du K C')(k:wt K (.ref C') (.type T)=some b)(q:Q (.bl b) H):iB K [.ref ex,.ty T] H Q:=⟨ex,C',b,h,c,.inr (.inl ⟨T,rfl,k⟩),q⟩
theorem Ld:∀{cs:List wd},(∀c∈cs,wt K (.ref C') (.ref c)=some false)->qa K (.ref C') (cs.map Value.ref)=some false
 | [],_=>rfl
 | c::cs,h=>by
  rw[wU,qa,h c (vc ..)];exact Ld λc hc=>h c (wI _ hc)
theorem Oe(h:H ex=some (jf ex (.ref C')))(c:du K C')(t:aP K H tp (cs.map V.ref))(k:∀c∈cs,wt K (.ref C') (.ref c)=some false)(q:Q (.bl false) H):iB K [.ref ex,.ref tp] H Q:=⟨ex,C',false,h,c,.inr (.inr ⟨tp,cs,rfl,t,Ld k⟩),q⟩
end
section
variable{K:wa}{H:Hp}{Q:VK}{v:V}{d:wu}{x y:Str}
end
section
variable{K:wa}{H:Hp}{Q:VK}{v:V}{ds:List wu}{k:Int}
end
end L2
namespace TB
open PySem PySem.W PyProof.Rows
section
variable{prog:wV}{w:wR}{A:vm}{E:wg->wo->Prop}{s:wo}
end
end TB
namespace L2
open PySem PySem.Spec PyProof.Rows GM
def JU(K:wa)(ta:TA):TI:=λσ H R=>ta σ H λvs H1=>∃t u a b,vs=[.ref a,.ref b]/\(∃xs,cf t K H1 a xs)/\(∃ys,cf u K H1 b ys)/\R (nJ t u K a b) H1
theorem JZ{X:Cx}{elts:List Expr}{k1}{tpos p pos:Pos}{l m:Expr}{ta:TA}(hg:Gl X "zip")(hm:X.mg "zip"=none)(ha:PA X [l,m] ta)(hs:w5 [l,m] X.env=[(false,eval l X.env),(false,eval m X.env)]:=by rfl)(hs2:w5 [m] X.env=[(false,eval m X.env)]:=by rfl) :
  PI X (.Tuple elts k1 tpos) (.Call (.Name "zip" p) [l,m] [] pos) (JU X.K ta):=by
 intro pins s σ H R I h;refine Call_ (mJ I hg hm zyc (qb (aq (ha pos pins s σ H _ I h) λus s1 ⟨vs,H1,I1,r1,q1⟩=>?_) (by rw[hs,hs2]) (by rw[hs2];rfl)));obtain⟨t,u,a,b,rfl,⟨xs,hq1⟩,⟨ys,hq2⟩,q⟩:=q1;obtain⟨u',v,rfl,ru,rv⟩:=iQ r1;cases ru;cases rv;obtain⟨its,_,p1⟩:=I1.kC hq1;obtain⟨jts,_,p2⟩:=I1.kC hq2;cases t with
 | true =>
  have la:a<s1.heap.objs.size:=by obtain⟨o,e,_⟩:=(show s1.heap.IsTuple a its.toArray from p1);exact wH e
  cases u with
  | true =>
   have lb:b<s1.heap.objs.size:=by obtain⟨o,e,_⟩:=(show s1.heap.IsTuple b jts.toArray from p2);exact wH e
   exact PC p1 p2 λh' hz hi ho t1 t2 kp=>tU (t:=true) (u:=true) I1 la lb hz hi ho t1 t2 kp q
  | false =>
   have lb:b<s1.heap.objs.size:=by obtain⟨o,e,_⟩:=(show s1.heap.IsList b jts.toArray from p2);exact wH e
   exact OM p1 p2 λh' hz hi ho t1 t2 kp=>tU (t:=true) (u:=false) I1 la lb hz hi ho t1 t2 kp q
 | false =>
  have la:a<s1.heap.objs.size:=by obtain⟨o,e,_⟩:=(show s1.heap.IsList a its.toArray from p1);exact wH e
  cases u with
  | true =>
   have lb:b<s1.heap.objs.size:=by obtain⟨o,e,_⟩:=(show s1.heap.IsTuple b jts.toArray from p2);exact wH e
   exact SS p1 p2 λh' hz hi ho t1 t2 kp=>tU (t:=false) (u:=true) I1 la lb hz hi ho t1 t2 kp q
  | false =>
   have lb:b<s1.heap.objs.size:=by obtain⟨o,e,_⟩:=(show s1.heap.IsList b jts.toArray from p2);exact wH e
   exact call_zip_2 p1 p2 λh' hz hi ho t1 t2 _ kp=>tU (t:=false) (u:=false) I1 la lb hz hi ho t1 t2 kp q
section
variable{K:wa}{g:TG}{tt:TT}{te:TE}{tb:TS}{ta:TA}{D:ck}{src:List (Option Nat)}{σ : L2.St}{H:Hp}{Q:VK}
theorem Zi(h:ta σ H λvs H1=>∃t u,tO t u K g tt te src σ vs H1 Q):jG src (JU K ta) g tt te σ H Q:=by
 refine(show ta σ H _ from ?_);have e:(λvs H1=>∃t u,tO t u K g tt te src σ vs H1 Q)=λvs H1=>∃t u a b,vs=[.ref a,.ref b]/\(∃xs,cf t K H1 a xs)/\(∃ys,cf u K H1 b ys) /\ ∀D,H1 D=none->iV g tt te (nJ t u K a b) D (cJ src σ) (upd H1 D (.lst [])) (λH'=>Q (.ref D) H'):=rfl
 rw[e]at h;exact h
theorem Iq{v:V}{ds:List wu}(h:Is K H v (.list ds)\/Is K H v (.tuple ds)):∃t a us,v=.ref a/\cf t K H a us/\ay K H us ds:=by
 rcases h with h | h
 ·obtain⟨a,xs,e,hs,t⟩:=bO.mp h
  exact⟨false,a,xs,e,hs,t⟩
 ·obtain⟨a,xs,e,hs,t⟩:=bV.mp h
  exact⟨true,a,xs,e,hs,t⟩
end
end L2
namespace GM
def FH(c:Int)(u:List Int):Nat->Int->Int
 | 0,p=>p
 | k+1,p=>if c<=p then p else FH c u k (p+u.getD p.toNat 0)
def Mo(n:Nat)(t:List Int):Prop:=∃a b d:Nat,t=[(a:Int),(b:Int),(d:Int)]/\a<n/\b<n/\a≠b/\d<=4
structure jq(rs:List Int)(us ts:List (List Int)):Prop where
 n1:1<=rs.length
 n8:rs.length<=8
 r:∀r∈rs,1<=r/\r<=60
 ul:us.length=rs.length
 u:∀i,i<rs.length->((us.getD i []).length:Int)=rs.getD i 0 /\ ∀x∈us.getD i [],0<=x/\x<=60
 tl:ts.length<=60
 t:∀t∈ts,Mo rs.length t
 nd:ts.Nodup
theorem jq.ri{rs:List Int}{us ts:List (List Int)}(w:jq rs us ts){i:Nat}(h:i<rs.length):1<=rs.getD i 0/\rs.getD i 0<=60:=by
 rw[wf,wb h];exact w.r _ (vn h)
def Yw(g:List Nat)(w d:Nat)(t:List Int):Bool:=decide ((t.getD 0 0).toNat∈g)&&(decide (t.getD 1 0=(w:Int))&&decide (t.getD 2 0=(d:Int)))
def RK(ts:List (List Int))(g:List Nat)(w d:Nat):Nat:=(ts.filter (Yw g w d)).length
section
variable(rs:List Int)(us ts:List (List Int))(ps cs:List Int)
def RN(g:List Nat)(w:Nat):Int:=FH (rs.getD w 0) (us.getD w []) ((cs.getD w 0).toNat+RK ts g w 0) (ps.getD w 0+1)
def fresh(g:List Nat):List Nat:=(vf rs.length).filter λw=>!decide (w∈g)&&decide (rs.getD w 0<=RN rs us ts ps cs g w)
end
section
variable{rs:List Int}{us ts:List (List Int)}{ps cs:List Int}
theorem BY:∀(n:Nat)(g:List Nat),g.Nodup->(∀w∈g,w<n)->g.length<=n
 | 0,[],_,_=>wx _
 | 0,w::g,_,h=>absurd (h w (vc ..)) (Wn _)
 | n+1,g,nd,h=>by
  have h1:=BY n (g.erase n) (nd.erase n) λw hw=>by
   have hm:=nd.mem_erase_iff.mp hw;have:=h w hm.2;have:w≠n:=hm.1
   lia
  have h2:g.length<=(g.erase n).length+1:=by
   rw[List.length_erase]
   split<;>lia
  lia
end
section
variable(rs:List Int)(us ts:List (List Int))(ps cs:List Int)
end
section
variable{rs:List Int}{us ts:List (List Int)}{ps cs:List Int}{f:Nat}{g:List Nat}{acc:List (List Nat)}
end
section
variable(rs:List Int)(us ts:List (List Int))(ps:List Int)(cm:List (List Int))
end
section
variable{rs:List Int}{us ts:List (List Int)}{ps:List Int}{cm:List (List Int)}
end
end GM
namespace L2
open PySem PySem.Spec PyProof.Rows GM
def oJ(rows:List (List Int)):wu:=.tuple (rows.map TZ)
def Av(rs:List Int)(us ts:List (List Int)):wu:=.tuple [TZ rs,oJ us,oJ ts]
theorem GA:∀rows:List (List Int),cE (rows.map TZ)=true
 | []=>by simp[cE]
 | x::xs=>by rw[wU,cE,oX,GA xs];rfl
section
variable{K:wa}{H H':Hp}{Q:VK}{v:V}{rs ps:List Int}{us ts cm rows:List (List Int)}{m:Int}{ws:List (List Nat)}
end
theorem Y0{α : Type}{l:List α}{x : α}(d : α)(h:x∈l):∃i,i<l.length/\l.getD i d=x:=by
 obtain⟨i,hi,e⟩:=Wg h;exact⟨i,hi,by rw[wf,wb hi];exact e⟩
end L2
namespace TB
open PySem PySem.W PyProof.Rows
def bw{α : Type}(o:Nat->Nat->Bool):KasT α -> α
 | .ret a=>a
 | .ask i j k=>bw o (k (o i j))
theorem kK{α β : Type}(o:Nat->Nat->Bool)(f : α -> KasT β):∀t:KasT α,bw o (t.bind f)=bw o (f (bw o t))
 | .ret _=>rfl
 | .ask i j k=>kK o f (k (o i j))
theorem d_.wpO{α : Type}{n:Nat}{φ : α -> Prop}{t:KasT α}(h:d_ n φ t){o:Nat->Nat->Bool}{cmp:Nat->Nat->(Bool->wo->Prop)->wo->Prop}{s:wo}(hc:∀i j C,i<n->j<n->C (o i j) s->cmp i j C s){Q : α -> wo->Prop}(q:Q (bw o t) s):t.kasWp cmp Q s:=by
 induction h with
 | ret h=>exact q
 | ask h1 h2 _ ih=>exact hc _ _ _ h1 h2 (ih _ q)
structure gZ(n:Nat)(o:Nat->Nat->Bool):Prop where
 rC:∀i j,i<n->j<n->i≠j->o i j=false->o j i=true
 tr:∀i j k,i<n->j<n->k<n->o i j=true->o j k=true->o i k=true
section
variable{n:Nat}{o:Nat->Nat->Bool}{p:Array Nat}
theorem Pm.size(h:Pm n p):p.size=n:=by rw[<- wG,h.length_eq,WO]
theorem Pm.lt(h:Pm n p){i:Nat}(hi:i<n):p.getD i 0<n:=h.get (by omega) i
theorem Pm.ne(h:Pm n p){i j:Nat}(hi:i<n)(hj:j<n)(e:i≠j):p.getD i 0≠p.getD j 0:=by
 have hs:=h.size;have nd:p.toList.Nodup:=h.nodup_iff.mpr X6;intro z;rw[wL,wL,vw (by omega),vw (by omega)]at z;have z:p.toList[i]'(by rw[wG];omega)=p.toList[j]'(by rw[wG];omega):=z;exact e ((Q1 nd).mp z)
def fw(o:Nat->Nat->Bool)(p:Array Nat)(m:Nat):Prop:=∀i j,i<j->j<m->o (p.getD i 0) (p.getD j 0)=true
theorem Gr(T:gZ n o)(h:Pm n p){m:Nat}(hm:m<=n)(a:∀i,i+1<m->o (p.getD i 0) (p.getD (i+1) 0)=true):fw o p m:=by
 intro i j hij hj
 induction j with
 | zero=>omega
 | succ j ih =>
  rcases w9 i j with z | z
  ·exact T.tr _ _ _ (h.lt (by omega)) (h.lt (by omega)) (h.lt (by omega)) (ih z (by omega)) (a j hj)
  ·have:i=j:=by omega
   subst this;exact a i hj
theorem zZ(T:gZ n o)(h:Pm n p):∀f m,1<=m->m+f<=n->m<=bw o (kas_asc p f m)/\bw o (kas_asc p f m)<=m+f/\(∀i,m<=i+1->i+1<bw o (kas_asc p f m)->o (p.getD i 0) (p.getD (i+1) 0)=true)/\(bw o (kas_asc p f m)<m+f->o (p.getD (bw o (kas_asc p f m)) 0) (p.getD (bw o (kas_asc p f m)-1) 0)=true)
 | 0,m,h1,hm=>⟨wx _,wx _,λi a b=>by(have:i+1<m:=b);omega,λa=>by(have:m<m+0:=a);omega⟩
 | f+1,m,h1,hm=>by
  have e:bw o (kas_asc p (f+1) m)=if o (p.getD m 0) (p.getD (m-1) 0)=true then m else bw o (kas_asc p f (m+1)):=by
   show bw o (if o (p.getD m 0) (p.getD (m-1) 0)=true then .ret m else kas_asc p f (m+1))=_
   split<;>rfl
  rw[e]
  split
  ·rename_i c
   exact⟨wx _,by omega,λi a b=>by omega,λ_=>c⟩
  ·rename_i c
   obtain⟨i1,i2,i3,i4⟩:=zZ T h f (m+1) (by omega) (by omega);refine⟨by omega,by omega,λi a b=>?_,λa=>i4 (by omega)⟩;rcases w9 m (i+1)with z | z
   ·exact i3 i (by omega) b
   ·have:m=i+1:=by omega
    subst this;have:=T.rC _ _ (h.lt (i:=i+1) (by omega)) (h.lt (i:=i) (by omega)) (h.ne (by omega) (by omega) (by omega)) (by simpa using c);exact this
theorem Md(T:gZ n o)(h:Pm n p):∀f m,1<=m->m+f<=n->∃r,bw o (kas_desc f p m 0)=(p,r,0)/\m<=r/\r<=m+f /\ ∀i,m<=i+1->i+1<r->o (p.getD (i+1) 0) (p.getD i 0)=true
 | 0,m,h1,hm=>⟨m,rfl,wx _,wx _,λi a b=>by omega⟩
 | f+1,m,h1,hm=>by
  by_cases c:o (p.getD m 0) (p.getD (m-1) 0)=true
  ·obtain⟨r,e,a,b,d⟩:=Md T h f (m+1) (by omega) (by omega)
   refine⟨r,?_,by omega,by omega,λi x y=>?_⟩
   ·rw[<- e]
    show bw o (if o (p.getD m 0) (p.getD (m-1) 0)=true then(if 0 > 0 then _ else kas_desc f p (m+1) 0)else _)=_
    rw[if_pos c,if_neg (by omega)]
   ·rcases w9 m (i+1)with z | z
    ·exact d i (by omega) y
    ·have:m=i+1:=by omega
     subst this;exact c
  ·refine⟨m,?_,wx _,by omega,λi a b=>by omega⟩
   have d:=T.rC _ _ (h.lt (i:=m) (by omega)) (h.lt (i:=m-1) (by omega)) (h.ne (by omega) (by omega) (by omega)) (by simpa using c)
   show bw o (if o (p.getD m 0) (p.getD (m-1) 0)=true then _ else .ask (p.getD (m-1) 0) (p.getD m 0) λd=>if d=true then .ret (p,m,0)else kas_desc f p (m+1) (0+1))=_
   rw[if_neg c]
   show bw o (if o (p.getD (m-1) 0) (p.getD m 0)=true then .ret (p,m,0)else kas_desc f p (m+1) (0+1))=_
   rw[if_pos d]
   rfl
theorem Ig(h:Pm n p){m:Nat}(hm:m<=n)(k:Nat):(kas_rev p 0 m).getD k 0=if k<m then p.getD (m-1-k) 0 else p.getD k 0:=by
 unfold kas_rev;rw[wL,getElem?_mirror_all (by rw[h.size];exact hm)]
 split
 ·rename_i z
  rw[if_pos z.2,wL]
  congr 2
  omega
 ·rename_i z
  rw[if_neg (by omega),wL]
theorem zsB(T:gZ n o)(h:Pm n p){m:Nat}(h1:1<=m)(hm:m<=n)(a:∀i,i+1<m->o (p.getD (i+1) 0) (p.getD i 0)=true):∃r q,bw o (kas_tail3 m n p)=(r,q)/\1<=r/\r<=n/\fw o q r/\Pm n q:=by
 have hq:=h.rev 0 m;obtain⟨i1,i2,i3,_⟩:=zZ T hq (n-m) m h1 (by omega);refine⟨_,_,by unfold kas_tail3;rw[kK];rfl,by omega,by omega,Gr T hq (by omega) λi hi=>?_,hq⟩;rcases w9 (i+1) m with z | z
 ·rw[Ig h hm,Ig h hm,if_pos (by omega),if_pos z]
  have:=a (m-1-(i+1)) (by omega);rw[show m-1-(i+1)+1=m-1-i by omega]at this;exact this
 ·exact i3 i z hi
theorem Ra(T:gZ n o)(h:Pm n p)(hn:2<=n)(a:o (p.getD 1 0) (p.getD 0 0)=true):∃r q,bw o (kas_descPart 1 n p)=(r,q)/\1<=r/\r<=n/\fw o q r/\Pm n q:=by
 obtain⟨m,e,m1,m2,d⟩:=Md T h (n-2) 2 (by omega) (by omega)
 obtain⟨r,q,e2,aO⟩:=zsB T h (m:=m) (by omega) (by omega) λi hi=>by
  rcases w9 i 1 with z | z
  ·have:i=0:=by omega
   subst this;exact a
  ·exact d i (by omega) hi
 refine⟨r,q,?_,aO⟩;unfold kas_descPart;rw[kK,show n-(1+1)=n-2 from rfl,e];exact e2
theorem UA(T:gZ n o)(h:Pm n p)(hn:2<=n):∃r q,bw o (kas_count n p)=(r,q)/\1<=r/\r<=n/\fw o q r/\Pm n q:=by
 obtain⟨i1,i2,i3,i4⟩:=zZ T h (n-1) 1 (wx 1) (by omega);unfold kas_count;rw[kK];generalize bw o (kas_asc p (n-1) 1)=m at *;have hs:fw o p m:=Gr T h (by omega) λi hi=>i3 i (by omega) hi
 by_cases c:m=n
 ·refine⟨m,p,?_,by omega,by omega,hs,h⟩
  rw[if_pos (by simpa using c)];rfl
 ·rw[if_neg (by simpa using c)]
  by_cases c1:m > 1
  ·refine⟨m,p,?_,by omega,by omega,hs,h⟩
   rw[if_pos c1]
   show bw o (if o (p.getD 0 0) (p.getD (m-1) 0)=true then .ret (m,p)else _)=_
   rw[if_pos (hs 0 (m-1) (by omega) (by omega))]
   rfl
  ·rw[if_neg c1]
   have:m=1:=by omega
   subst this;exact Ra T h hn (i4 (by omega))
theorem Cs(T:gZ n o)(h:Pm n p){k:Nat}(hk:k<n)(hs:fw o p k):∀f l r,l<=r->r<=k->r-l<=f->(∀i,i<l->o (p.getD i 0) (p.getD k 0)=true)->(∀i,r<=i->i<k->o (p.getD k 0) (p.getD i 0)=true) ->
  bw o (kas_place p k f l r)<=k/\(∀i,i<bw o (kas_place p k f l r)->o (p.getD i 0) (p.getD k 0)=true)/\(∀i,bw o (kas_place p k f l r)<=i->i<k->o (p.getD k 0) (p.getD i 0)=true)
 | 0,l,r,lr,rk,hf,a,b=>⟨by show l<=k;omega,a,λi hi=>b i (by have:l<=i:=hi;omega)⟩
 | f+1,l,r,lr,rk,hf,a,b=>by
  unfold kas_place
  split
  ·exact⟨by show l<=k;omega,a,λi hi=>b i (by have:l<=i:=hi;omega)⟩
  ·rename_i z
   have hm:(l+r) / 2<r/\l<=(l+r) / 2:=by omega
   generalize (l+r) / 2=m at *
   show bw o (if o (p.getD k 0) (p.getD m 0)=true then kas_place p k f l m else kas_place p k f (m+1) r)<=k/\(∀i,i<bw o (if o (p.getD k 0) (p.getD m 0)=true then kas_place p k f l m else kas_place p k f (m+1) r)->_)/\(∀i,bw o (if o (p.getD k 0) (p.getD m 0)=true then kas_place p k f l m else kas_place p k f (m+1) r)<=i->_)
   split
   ·rename_i c
    refine Cs T h hk hs f l m (by omega) (by omega) (by omega) a λi hi hik=>?_
    rcases w9 m i with y | y
    ·exact T.tr _ _ _ (h.lt hk) (h.lt (by omega)) (h.lt (by omega)) c (hs m i y hik)
    ·have:i=m:=by omega
     subst this;exact c
   ·rename_i c
    have d:=T.rC _ _ (h.lt (i:=k) hk) (h.lt (i:=m) (by omega)) (h.ne hk (by omega) (by omega)) (by simpa using c);refine Cs T h hk hs f (m+1) r (by omega) rk (by omega) (λi hi=>?_) b;rcases w9 i m with y | y
    ·exact T.tr _ _ _ (h.lt (by omega)) (h.lt (by omega)) (h.lt hk) (hs i m y (by omega)) d
    ·have:i=m:=by omega
     subst this;exact d
theorem HH(h:Pm n p){k l:Nat}(hk:k<n)(hl:l<=k)(i:Nat):(bubble p k (k-l)).getD i 0=if i=l then p.getD k 0 else if l<i/\i<=k then p.getD (i-1) 0 else p.getD i 0:=by
 rw[wL,getElem?_bubble (by rw[h.size];exact hk) _ (by omega),show k-(k-l)=l by omega]
 split
 ·rw[wL]
 ·split
  ·rw[wL]
  ·rw[wL]
theorem Mf(T:gZ n o):∀f (p:Array Nat) k,Pm n p->1<=k->k+f=n->fw o p k->fw o (bw o (kas_bin f p k)) n/\Pm n (bw o (kas_bin f p k))
 | 0,p,k,h,_,e,hs=>by
  have:k=n:=by omega
  subst this;exact⟨hs,h⟩
 | f+1,p,k,h,h1,e,hs=>by
  have hk:k<n:=by omega
  obtain⟨a,b,c⟩:=Cs T h hk hs k 0 k (by omega) (wx _) (by omega) (λi hi=>by omega) (λi hi hik=>by omega)
  show fw o (bw o ((kas_place p k k 0 k).bind λl=>kas_bin f (bubble p k (k-l)) (k+1))) n/\Pm n (bw o ((kas_place p k k 0 k).bind λl=>kas_bin f (bubble p k (k-l)) (k+1)))
  rw[kK];generalize bw o (kas_place p k k 0 k)=l at *;refine Mf T f _ (k+1) (h.KH _ _) (by omega) (by omega) λi j hij hj=>?_
  rw[HH h hk a,HH h hk a]
  by_cases i1:i=l
  ·rw[if_pos i1,if_neg (by omega),if_pos (by omega)]
   exact c (j-1) (by omega) (by omega)
  ·rw[if_neg i1]
   by_cases i2:l<i/\i<=k
   ·rw[if_pos i2,if_neg (by omega),if_pos (by omega)]
    exact hs _ _ (by omega) (by omega)
   ·rw[if_neg i2]
    have hil:i<l:=by omega
    by_cases j1:j=l
    ·rw[if_pos j1]
     exact b i hil
    ·rw[if_neg j1]
     by_cases j2:l<j/\j<=k
     ·rw[if_pos j2]
      exact hs _ _ (by omega) (by omega)
     ·rw[if_neg j2]
      exact hs _ _ hij (by omega)
theorem OQ(T:gZ n o)(hn:2<=n):fw o (bw o (kas_sort n)) n/\Pm n (bw o (kas_sort n)):=by
 obtain⟨r,q,e,r1,r2,hs,hq⟩:=UA (p:=(vf n).toArray) T (by unfold Pm;simp) hn;unfold kas_sort;rw[kK,e]
 show fw o (bw o (if r<n then kas_bin (n-max r 1) q (max r 1)else .ret q)) n/\Pm n (bw o (if r<n then kas_bin (n-max r 1) q (max r 1)else .ret q))
 rw[show max r 1=r by omega]
 split
 ·exact Mf T _ q r hq r1 (by omega) hs
 ·have:r=n:=by omega
  subst this;exact⟨hs,hq⟩
end
def bW:List Int->List Int->Bool
 | [],[]=>false
 | [],_::_=>true
 | _::_,[]=>false
 | a::as,b::bs=>if a=b then bW as bs else decide (a<b)
theorem GX:∀{as bs:List Int},as≠bs->bW as bs=false->bW bs as=true
 | [],[],h,_=>absurd rfl h
 | [],_::_,_,e=>by cases e
 | _::_,[],_,_=>rfl
 | a::as,b::bs,h,e=>by
  unfold bW at e ⊢
  by_cases z:a=b
  ·subst z
   rw[if_pos rfl]at e ⊢;exact GX (λy=>h (by rw[y])) e
  ·rw[if_neg z]at e
   rw[if_neg (λy=>z y.symm)];have:=of_decide_eq_false e;exact decide_eq_true (by omega)
theorem yQ:∀{as bs cs:List Int},bW as bs=true->bW bs cs=true->bW as cs=true
 | [],[],_,e,_=>by cases e
 | _::_,[],_,e,_=>by cases e
 | [],_::_,[],_,e=>by cases e
 | [],_::_,_::_,_,_=>rfl
 | _::_,_::_,[],_,e=>by cases e
 | a::as,b::bs,c::cs,e,f=>by
  unfold bW at e f ⊢
  by_cases z:a=b
  ·subst z
   rw[if_pos rfl]at e
   by_cases y:a=c
   ·subst y
    rw[if_pos rfl]at f ⊢;exact yQ e f
   ·rw[if_neg y]at f ⊢
    exact f
  ·rw[if_neg z]at e
   have e:=of_decide_eq_true e
   by_cases y:b=c
   ·subst y
    rw[if_neg z];exact decide_eq_true e
   ·rw[if_neg y]at f
    have f:=of_decide_eq_true f;rw[if_neg (by omega)];exact decide_eq_true (by omega)
theorem Rz{ks:List (List Int)}(nd:ks.Nodup):gZ ks.length λi j=>bW (ks.getD i []) (ks.getD j []) where
 rC i j hi hj e h:=GX (λz=>e (by
  rw[wf,wf,wb hi,wb hj]at z;exact(Q1 nd).mp z)) h
 tr _ _ _ _ _ _ h k:=yQ h k
section
variable{prog:wV}{w:wR}{A:vm}{E:wg->wo->Prop}{s:wo}
def gI(h:wK)(v:wg)(k:List Int):Prop:=∃a o its n,v=.ref a/\h.get? a=some o/\o.cls=.type "tuple"/\o.data=.seq its n/\WT its.toList k/\k≠[]
theorem gI.grow{h g:wK}{v:wg}{k:List Int}(x:gI h v k)(e:∀b o,o.cls=.type "tuple" -> h.get? b=some o->g.get? b=some o):gI g v k:=by
 obtain⟨a,o,its,n,h1,h2,h3,r⟩:=x;exact⟨a,o,its,n,h1,e a o h3 h2,h3,r⟩
theorem zA{us:List wg}{ns:List Int}(h:WT us ns):∀y∈us,∃i u,y=Value.int i u:=by
 induction h with
 | nil=>intro y hy;cases hy
 | cons n t _ ih =>
  intro y hy;rcases wO.mp hy with e | hy
  ·exact⟨n,t,e⟩
  ·exact ih y hy
theorem gI.tw{h:wK}{v:wg}{k:List Int}(x:gI h v k):Tw h v:=by
 obtain⟨a,o,its,n,h1,h2,h3,h4,h5,h6⟩:=x;generalize e:its.toList=l at h5;cases h5 with
 | nil=>exact absurd rfl h6
 | cons x t r=>exact⟨a,o,its,n,x,t,_,h1,h2,h3,h4,e,zA r⟩
theorem F6{b fin:Bool}{Q:Bool->wo->Prop} : ∀{xs ys:List wg}{ks js:List Int},WT xs ks->WT ys js->fin=decide (ks.length<js.length)->∀i,Q (bW ks js) s->KatLex prog w A b fin Q (xs.zip ys) i s
 | _,_,_,_,.nil,.nil,e,_,q=>by subst e;exact q
 | _,_,_,_,.nil,.cons _ _ _,e,_,q=>by
  subst e
  show Q (decide (0<_+1)) s
  rw[decide_eq_true (by omega)];exact q
 | _,_,_,_,.cons _ _ _,.nil,e,_,q=>by
  subst e
  show Q (decide (_+1<0)) s
  rw[decide_eq_false (by omega)];exact q
 | _,_,_,_,.cons x t (ns:=ks) r,.cons y u (ns:=js) r',e,i,q=>by
  rw[Qp];refine kat_cons (wpAny_eqBool_int ?_);refine kat_go (λz=>kat_yes (F6 r r' (by rw[e,wW,wW];exact decide_eq_decide.mpr (by omega)) (i+1) ?_)) λz=>kat_no ?_
  ·have z:x=y:=by simpa using z
   subst z;rw[bW,if_pos rfl]at q;exact q
  ·have z:¬ x=y:=by simpa using z
   rw[bW,if_neg z]at q;cases b&&i == 0
   ·exact kat_one _ _ (wpAny_lt_int q)
   ·exact oneLt_int q
theorem Ri{ks:List (List Int)}{a:wd}{vs:List wg}{n:Nat}{P:Xn->wo->Prop}(ho:s.heap.get? a=some (vH "list" vs.toArray n))(h2:2<=vs.length)(h64:vs.length<64)(hkl:ks.length=vs.length)(nd:ks.Nodup)(ht:∀i,i<vs.length->gI s.heap (vs.getD i Value.none) (ks.getD i []))
  (q:∀(g:wK)(p:Array Nat)(c:Nat),Pm vs.length p->fw (λi j=>bW (ks.getD i []) (ks.getD j [])) p vs.length->g.get? a=some (vH "list" (Qa (p.toList.map λi=>vs.getD i Value.none)) c)->(∀b o,b≠a->s.heap.get? b=some o->g.get? b=some o)->P (.done (.ret .none)) {s with heap:=g}) :
  wA (model prog w) A (Builtin.«list.sort» ⟨[.ref a],[]⟩) P E s:=by
 have al:a<s.heap.objs.size:=wH ho;have sb:=Ws s.heap a (vC λ_=>(#[]:Array wg));obtain⟨e1,ho1⟩:∃e1,(s.heap.update a (vC λ_=>(#[]:Array wg))).get? a=some (vH "list" #[] e1):=⟨_,get?_update_seq ho λ_=>#[]⟩
 have kp:∀b o,b≠a->s.heap.get? b=some o->(((s.heap.update a (vC λ_=>(#[]:Array wg))).push (vH "tuple" vs.toArray 0)).push (vH "list" #[] 0)).get? b=some o:=λb o hb e =>
  wk _ (wk _ ((sb.2 b hb).trans e))
 have ho3:(((s.heap.update a (vC λ_=>(#[]:Array wg))).push (vH "tuple" vs.toArray 0)).push (vH "list" #[] 0)).get? a=some (vH "list" #[] e1):=wk _ (wk _ ho1)
 have kt:∀b o,o.cls=.type "tuple" -> s.heap.get? b=some o->(((s.heap.update a (vC λ_=>(#[]:Array wg))).push (vH "tuple" vs.toArray 0)).push (vH "list" #[] 0)).get? b=some o:=λb o hc e=>by
  refine kp b o (λz=>?_) e;subst z;rw[ho]at e;cases e;exact absurd (uE hc) (by decide)
 have ht3:∀i,i<vs.length->gI (((s.heap.update a (vC λ_=>(#[]:Array wg))).push (vH "tuple" vs.toArray 0)).push (vH "list" #[] 0)) (vs.getD i Value.none) (ks.getD i []):=λi hi=>(ht i hi).grow kt
 have nz:¬ vs.toArray.size<2:=by rw[wN];omega
 rw[list_sort_plain];refine wj (listItems_at ho rfl ?_);refine wj (listUpdate_at ho rfl ?_ (by rw[wN,vB];omega) (vM _));refine wj (seqEpoch_at ho1 rfl ?_);refine wj (wpAny_newTuple ?_ (by show vs.length<=_;rw[vB];omega));refine wj (wpAny_newList ?_ (vM _));refine Wa ?_
 show wA (model prog w) A _ P E {s with heap:=((s.heap.update a (vC λ_=>(#[]:Array wg))).push (vH "tuple" vs.toArray 0)).push (vH "list" #[] 0)}
 dsimp only;rw[if_neg nz,if_neg nz];generalize ((s.heap.update a (vC λ_=>(#[]:Array wg))).push (vH "tuple" vs.toArray 0)).push (vH "list" #[] 0)=g at *
 obtain⟨fs,f1,f2,f3⟩:=JK vs λv hv=>by
  obtain⟨i,hi,rfl⟩:=Wg hv;have:=(ht3 i hi).tw;rw[wf,wb hi]at this;exact this
 refine wj (kat_kind (s:={s with heap:=g}) (T:=.type "int") f1 (by omega) (λv hv=>?_) (by decide) ?_)
 ·obtain⟨i,t,rfl⟩:=f3 v hv
  exact .now
 ·refine wj (vU (kat_run (s:={s with heap:=g}) (Q:=λst' s'=>∃p:Array Nat,s' = {s with heap:=g}/\(fw (λi j=>bW (ks.getD i []) (ks.getD j [])) p vs.length/\Pm vs.length p)/\arrOf st'=p.map (kas_item (vs.toArray.zip vs.toArray))/\failedOf st'=none)
   rfl h2 h64 (λp st' s' a1 a2 a3 a4=>⟨p,a4.1,a4.2,a2,a3⟩) (G:=λp s'=>s' = {s with heap:=g}/\(fw (λi j=>bW (ks.getD i []) (ks.getD j [])) p vs.length/\Pm vs.length p)) ?_) ?_ λ_ _ e=>e)
  ·refine(Uv (n:=vs.length) (by omega)).wpO (o:=λi j=>bW (ks.getD i []) (ks.getD j [])) (λi j C hi hj hc=>?_) ⟨rfl,by rw[<- hkl];exact OQ (Rz nd) (by omega)⟩
   obtain⟨x,ox,xs,nx,x1,x2,_,x3,x4,_⟩:=ht3 i hi;obtain⟨y,oy,ys,ny,y1,y2,_,y3,y4,_⟩:=ht3 j hj;unfold kas_ask;rw[x1,y1];refine kat_lt (s:={s with heap:=g}) x2 x3 y2 y3 (F6 x4 y4 ?_ 0 hc);rw[<- wG,<- wG,x4.length,y4.length]
  ·rintro ⟨⟨⟩,st'⟩ s' ⟨p,rfl,⟨hso,hp⟩,har,hf⟩
   dsimp only;have ps:p.size=vs.length:=by rw[<- wG,hp.length_eq,WO]
   rw[kat_snds rfl har];refine wj (seqEpoch_at (s:={s with heap:=g}) ho3 rfl ?_);refine wj (listUpdate_at (s:={s with heap:=g}) ho3 rfl ?_ (vM _) (by rw[wN,wm,wG,ps,vB];omega));rw[hf];simp only[bne_self_eq_false,w8,if_false];have sb2:=Ws g a (vC λ_=>Qa (p.toList.map λi=>vs.getD i Value.none));refine wz (q _ p _ hp hso (get?_update_seq ho3 λ_=>Qa (p.toList.map λi=>vs.getD i Value.none)) λb o hb e=>(sb2.2 b hb).trans (kp b o hb e))
theorem Ti{ks:List (List Int)}{a:wd}{vs:List wg}{n:Nat}{P:Xn->wo->Prop}(ho:s.heap.get? a=some (vH "list" vs.toArray n))(h64:vs.length<64)(hkl:ks.length=vs.length)(nd:ks.Nodup)(ht:∀i,i<vs.length->gI s.heap (vs.getD i Value.none) (ks.getD i []))
  (q:∀(g:wK)(ps:List Nat)(c:Nat),ps.Perm (vf vs.length)->(ps.map λi=>ks.getD i []).Pairwise (λx y=>bW x y=true)->g.get? a=some (vH "list" (Qa (ps.map λi=>vs.getD i Value.none)) c)->(∀b o,b≠a->s.heap.get? b=some o->g.get? b=some o)->P (.done (.ret .none)) {s with heap:=g}) :
  wA (model prog w) A (Builtin.«list.sort» ⟨[.ref a],[]⟩) P E s:=by
 rcases w9 vs.length 2 with h | h
 ·refine zt5 ho h λg c h1 h2=>q g (vf vs.length) c (.refl _) ?_ (by rw[Ir];exact h1) h2
  match ks,hkl with
  | [],e=>rw[<- e];exact .nil
  | [k],e=>rw[<- e];exact xj _ _
  | _::_::_,e=>rw[wW,wW]at e;omega
 ·refine Ri ho h h64 hkl nd ht λg p c h1 hs h2 h3=>q g p.toList c h1 ?_ h2 h3
  rw[XF,QY];intro i j hi hj hij;have sz:=h1.size;have:=hs i j hij (by rw[wG]at hj;omega);rw[wL,wL,vw (by rw[wG]at hi;omega),vw (by rw[wG]at hj;omega)]at this;exact this
theorem SO{l:wd}{o:Obj}{T:String}{n:Nat}{vs:List wg}{Q:List wg->wo->Prop}(hT:T="list"\/T="tuple")(ho:s.heap.get? l=some o)(hc:o.cls=.type T)(hd:o.data=.seq vs.toArray n)
  (h:Q vs {s with heap:=(s.heap.push (vH "list" #[] 0)).update s.heap.objs.size (vC (· ++ vs.toArray))}) (hsz:vs.length<=wC) :
  wA (model prog w) A (collect (.ref l)) Q E s:=by
 unfold collect;refine wj (wpAny_runValue (W6 PySem.F.entry_proto_collect ?_));rw[WL PySem.F.plain_proto_collect _]
 show wA _ A.in1 (newList [] >>= λx=>again (.builtin "list.__iadd__" ⟨[x,.ref l],[]⟩)) _ _ s
 refine wj (wpAny_newList (wz ⟨plainId_quiet xk _,W6 PySem.F.entry_list_iadd ?_⟩));rw[WL xk _]
 show wA _ A.in1 (Qw (.ref s.heap.objs.size) (.ref l) (.ref s.heap.objs.size)) _ _ {s with heap:=s.heap.push (vH "list" #[] 0)}
 unfold Qw;have ho':(s.heap.push (vH "list" #[] 0)).get? l=some o:=wk _ ho;refine wj (wpAny_typeOf (T:=T) ⟨o,ho',hc⟩ ?_);have hT2:(Value.type T == Value.type "list" || Value.type T == Value.type "tuple")=true:=by rcases hT with rfl | rfl<;>rfl
 rw[if_pos (by rw[Bool.or_assoc,hT2,Qb])];refine wj (listItems_at ho' hd ?_);refine wj (listItems_at (xs:=#[]) (n:=0) (wE _ rfl) rfl ?_);rw[if_neg (by simp)];refine wj (listUpdate_at (xs:=#[]) (n:=0) (wE _ rfl) rfl ?_ (vM _) (by show(#[]++vs.toArray).size<=wC+1;simp only[Array.size_append,wN,WD];omega));refine wz ?_
 show wA (model prog w) A (load s.heap.objs.size >>= _) Q E {s with heap:=(s.heap.push (vH "list" #[] 0)).update s.heap.objs.size (vC (· ++ vs.toArray))}
 refine wj (wpAny_load (get?_update_seq (wE _ rfl) _) ?_)
 show wA _ _ (pure ((#[]:Array wg)++vs.toArray).toList) Q E _
 rw[show((#[]:Array wg)++vs.toArray).toList=vs by simp];exact wz h
theorem Na{ks:List (List Int)}{a:wd}{o:Obj}{T:String}{m:Nat}{vs:List wg}(hT:T="list"\/T="tuple")(ho:s.heap.get? a=some o)(hc:o.cls=.type T)(hd:o.data=.seq vs.toArray m)(h64:vs.length<64)(hkl:ks.length=vs.length)(nd:ks.Nodup)(ht:∀i,i<vs.length->gI s.heap (vs.getD i Value.none) (ks.getD i [])){Q:wg->wo->Prop}
  (q:∀(l:wd)(g:wK)(ps:List Nat)(c:Nat),ps.Perm (vf vs.length)->(ps.map λi=>ks.getD i []).Pairwise (λx y=>bW x y=true)->s.heap.objs.size<=l->g.get? l=some (vH "list" (Qa (ps.map λi=>vs.getD i Value.none)) c)->(∀b o,s.heap.get? b=some o->g.get? b=some o)->Q (.ref l) {s with heap:=g}) :
  wA (model prog w) A (call (.builtin "sorted") [.ref a]) Q E s:=by
 refine Calls.call_function_entry kind_sorted plain_sorted entry_sorted (args_sorted1 _) ?_;unfold Builtin.«sorted»;refine wj (m:=checkCount "sorted" 1 1 _) (wz ?_);refine wj (SO hT ho hc hd ?_ (by rw[vB];omega))
 have kp:∀b o,s.heap.get? b=some o->((s.heap.push (vH "list" #[] 0)).update s.heap.objs.size (vC (· ++ vs.toArray))).get? b=some o:=λb o e =>
  ((Ws (s.heap.push (vH "list" #[] 0)) s.heap.objs.size (vC (· ++ vs.toArray))).2 b (wZ (wH e))).trans (wk _ e)
 have sz:((s.heap.push (vH "list" #[] 0)).update s.heap.objs.size (vC (· ++ vs.toArray))).objs.size=s.heap.objs.size+1:=by
  rw[Heap.size_update,vS]
 show wA (model prog w) A.in1 _ _ E {s with heap:=(s.heap.push (vH "list" #[] 0)).update s.heap.objs.size (vC (· ++ vs.toArray))}
 generalize (s.heap.push (vH "list" #[] 0)).update s.heap.objs.size (vC (· ++ vs.toArray))=h' at *;have tw:∀i,i<vs.length->gI (h'.push (vH "list" vs.toArray 0)) (vs.getD i Value.none) (ks.getD i []):=λi hi=>(ht i hi).grow λb o _ ho=>wk _ (kp b o ho)
 refine wj (wpAny_newList ?_ (by rw[vB];omega));have hoL:(h'.push (vH "list" vs.toArray 0)).get? h'.objs.size=some (vH "list" vs.toArray 0):=wE _ rfl;refine wj (Wa (VJ slot_list_sort ⟨_,hoL,rfl⟩ entry_list_sort (Ti (s:={s with heap:=h'.push (vH "list" vs.toArray 0)}) hoL h64 hkl nd tw λg ps c h1 hs h2 h3=>⟨_,rfl,?_⟩) (args_list_sort _)));exact wz ⟨_,rfl,q _ g ps c h1 hs (by show s.heap.objs.size<=h'.objs.size;omega) h2 λb o e=>h3 b o (wZ (wH (kp b o e))) (wk _ (kp b o e))⟩
end
end TB
namespace L2
open PySem PySem.Spec PyProof.Rows GM
def zk(K:wa):List V->Hp->VK->Prop:=λxs H Q=>∃(p:wd)(ws:List V)(ks:List (List Int)),xs=[.ref p]/\(aN K H p ws\/aP K H p ws)/\ws.length<64/\ks.Nodup/\(∀k∈ks,k≠[])/\ay K H ws (ks.map TZ) /\ ∀(l:wd)(ps:List Nat),H l=none->ps.Perm (vf ws.length)->(ps.map λi=>ks.getD i []).Pairwise (λx y=>TB.bW x y=true)->Q (.ref l) (upd H l (.lst (ps.map λi=>ws.getD i .bM)))
theorem Inv.YU{X:Cx}{pins:List (wd × Obj)}{σ : List (Option V)}{H:Hp}{s:wo}(I:Inv X pins σ H s){q:wd}{k:List Int}(h:aP X.K H q (k.map V.int))(hk:k≠[]):TB.gI s.heap (.ref q) k:=by
 obtain⟨its,r,⟨o,e,hc,n,hd⟩,_⟩:=I.tuple h;exact⟨q,o,its.toArray,n,rfl,e,hc,hd,by simpa using tZ r,hk⟩
theorem PN{X:Cx} : ao X (.builtin "sorted") (zk X.K):=by
 intro pins s σ H xs us Q I r h;obtain⟨p,ws,ks,rfl,hp,h64,nd,hk,t,q⟩:=h;obtain⟨u,rfl,rx⟩:=gi r;cases rx;have hkl:ks.length=ws.length:=by rw[t.length,wm]
 obtain⟨its,r',o,T,m,hT,ho,hc,hd⟩:∃(its:List wg),aC ws its /\ ∃(o:Obj)(T:String)(m:Nat),(T="list"\/T="tuple")/\s.heap.get? p=some o/\o.cls=.type T/\o.data=.seq its.toArray m:=by
  rcases hp with hp | hp
  ·obtain⟨its,r',pl,_⟩:=I.list hp
   obtain⟨o,ho,hc,n,hd⟩:=pl.isList;exact⟨its,r',o,"list",n,.inl rfl,ho,hc,hd⟩
  ·obtain⟨its,r',⟨o,ho,hc,n,hd⟩,_⟩:=I.tuple hp
   exact⟨its,r',o,"tuple",n,.inr rfl,ho,hc,hd⟩
 have hl:=r'.length
 have at_:∀i,i<its.length->∃a,its.getD i Value.none=.ref a/\ws.getD i .bM=.ref a/\aP X.K H a ((ks.getD i []).map V.int)/\ks.getD i []≠[]:=λi hi=>by
  obtain⟨x,hx,hxr⟩:=Paired.back r' (wb hi);obtain⟨hj,ix⟩:=dz t hx;rw[wm]at hj;have ek:ks.getD i []=ks[i]:=by rw[wf,wb hj];rfl
  rw[wf,wB,wb hj]at ix;obtain⟨a,rfl,hs⟩:=jI.mp (show Is X.K H x (TZ ks[i])from ix);refine⟨a,?_,?_,by rw[ek];exact hs,by rw[ek];exact hk _ (vn hj)⟩
  ·rw[wf,wb hi]
   exact hxr
  ·rw[wf,hx];rfl
 refine TB.Na hT ho hc hd (by omega) (by omega) nd (λi hi=>?_) λl g ps c pm so hle hg kp=>?_
 ·obtain⟨a,e1,_,hs,h0⟩:=at_ i hi
  rw[e1];exact I.YU hs h0
 ·have hm:∀i∈ps,i<its.length:=λi hi=>vy.mp (pm.mem_iff.mp hi)
  have hu:∀u∈ps.map (λi=>its.getD i Value.none),∃a,u=.ref a:=λu hu=>by
   obtain⟨i,hi,rfl⟩:=vg.mp hu;obtain⟨a,e1,_⟩:=at_ i (hm i hi);exact⟨a,e1⟩
  have ew:(ps.map λi=>its.getD i Value.none).map lC=ps.map λi=>ws.getD i .bM:=by
   rw[Wu];refine VM λi hi=>?_
   obtain⟨a,e1,e2,_⟩:=at_ i (hm i hi)
   show lC (its.getD i Value.none)=ws.getD i .bM
   rw[e1,e2];rfl
  have hpl:ps.length=its.length:=by rw[pm.length_eq,WO]
  refine⟨.ref l,_,I.laid (t':=s.toks) kp hle (show cF X.prog X.w _ _ _ (.lst (ps.map λi=>ws.getD i .bM))from⟨?_,_,c,?_,hg⟩),rfl,q l ps (I.ar.fresh hle) (by rw[hl];exact pm) so⟩
  ·rw[wm,hpl]
   exact qr (lg (by omega))
  ·rw[<- ew]
   exact AZ _ hu
def i_(ks:List (List Int)):Prop:=ks.Pairwise λx y=>TB.bW x y=true
theorem Me:∀x:List Int,TB.bW x x=false
 | []=>rfl
 | a::as=>by rw[TB.bW,if_pos rfl];exact Me as
theorem i_.uniq:∀{xs ys:List (List Int)},i_ xs->i_ ys->xs.Perm ys->xs=ys
 | [],ys,_,_,p=>by rw[List.nil_perm.mp p]
 | x::xs,[],_,_,p=>absurd p.length_eq (by simp)
 | x::xs,y::ys,hx,hy,p=>by
  obtain⟨x1,x2⟩:=Xo.mp hx;obtain⟨y1,y2⟩:=Xo.mp hy
  have e:x=y:=by
   rcases wO.mp (p.mem_iff.mp (vc ..):x∈y::ys)with z | z
   ·exact z
   ·rcases wO.mp (p.mem_iff.mpr (vc ..):y∈x::xs)with w | w
    ·exact w.symm
    ·have:=TB.yQ (x1 y w) (y1 x z)
     rw[Me]at this;cases this
  subst e;rw[i_.uniq x2 y2 (List.perm_cons x |>.mp p)]
theorem UZ{α : Type}{ks:List α}{d : α}{ps:List Nat}{n:Nat}(h:ps.Perm (vf n))(hn:ks.length=n):(ps.map λi=>ks.getD i d).Perm ks:=by
 have:=h.map λi=>ks.getD i d
 rw[show(vf n).map (λi=>ks.getD i d)=ks from vF (by rw[wm,WO,hn]) λi h1 h2=>by
  rw[vt,Qv,wf,wb h2];rfl]at this
 exact this
theorem RG{K:wa}{H:Hp}{Q:VK}{v:V}{ks:List (List Int)}(h:Is K H v (.list (ks.map TZ))\/Is K H v (.tuple (ks.map TZ)))(z:ks.length<64)(nd:ks.Nodup)(hk:∀k∈ks,k≠[])(q:∀(l:wd)(H':Hp)(us:List V)(js:List (List Int)),H l=none->af H H'->H' l=some (.lst us)->js.Perm ks->i_ js->ay K H' us (js.map TZ)->Q (.ref l) H'):zk K [v] H Q:=by
 have h:∃p ws,v=.ref p/\(aN K H p ws\/aP K H p ws)/\ay K H ws (ks.map TZ):=by
  rcases h with h | h
  ·obtain⟨p,ws,rfl,hs,t⟩:=bO.mp h
   exact⟨p,ws,rfl,.inl hs,t⟩
  ·obtain⟨p,ws,rfl,hs,t⟩:=bV.mp h
   exact⟨p,ws,rfl,.inr hs,t⟩
 obtain⟨p,ws,rfl,hs,t⟩:=h;have hl:=t.length;rw[wm]at hl;refine⟨p,ws,ks,rfl,hs,by omega,nd,hk,t,λl ps hn pm so=>?_⟩;refine q l _ _ (ps.map λi=>ks.getD i []) hn (af.upd hn) cb (UZ pm hl.symm) so (ay.same (af.upd hn) _ _ ?_);rw[Wu];have hm:∀i∈ps,i<ks.length:=λi hi=>by have:=vy.mp (pm.mem_iff.mp hi);omega
 clear pm so
 induction ps with
 | nil=>exact .nil
 | cons i ps ih =>
  refine .cons ?_ (ih λj hj=>hm j (wI _ hj));have hi:=hm i (vc ..);obtain⟨_,ix⟩:=dz t (show ws[i]? = some (ws.getD i .bM) by rw[wf,wb (by omega)];rfl);rw[wf (l:=uZ _ _),wB,wb hi]at ix
  show Is K H _ (TZ (ks.getD i []))
  rw[wf (l:=ks),wb hi];exact ix
theorem La:∀{ts:List Str}{us:List wg},aC (ts.map V.str) us->∃l:List (Str × Tok),us=strValues l/\l.map (·.1)=ts
 | [],us,h=>by
  cases h;exact⟨[],rfl,rfl⟩
 | t::ts,us,h=>by
  cases h with
  | cons r rr =>
   obtain⟨tk,rfl⟩:=r;obtain⟨l,e1,e2⟩:=La rr;exact⟨(t,tk)::l,by rw[e1];rfl,by rw[wU,e2]⟩
section
variable{K:wa}{H H':Hp}{Q:VK}{D:ck}{σ : St}{g:TG}{tb:TS}{ta td ty:TE}{tA:TA}{v:V}{d:wu}{a:wd}{kvs:List (Key × V)}{x:Str}{i:Int}{xs:List V}
theorem eI{R:Prop}(q:R):kD K "str" (.str x) H/\R:=⟨rfl,q⟩
end
def cN(ds:List Nat):Nat:=ds.foldl (λacc d=>acc*10+d) 0
def aZ(n:Nat):List Nat:=if h:n<10 then [n]else aZ (n / 10)++[n % 10]
termination_by n
decreasing_by omega
theorem iF{n:Nat}(h:n<10):aZ n=[n]:=by rw[aZ,dif_pos h]
theorem j7{n:Nat}(h:10<=n):aZ n=aZ (n / 10)++[n % 10]:=by rw[aZ,dif_neg (by omega)]
theorem HE:∀d,d<10->(Nat.digitChar d).toNat=48+d:=by decide
theorem ZI(n:Nat):(Nat.toDigits 10 n).map Char.toNat=(aZ n).map (48 + ·):=by
 induction n using VT with
 | ind n ih =>
  by_cases h:n<10
  ·rw[Nat.toDigits_of_lt_base h,iF h,wU,WG,HE n h]
   rfl
  ·rw[Nat.toDigits_of_base_le (by decide) (by omega),j7 (by omega),Wo,Wo,ih (n / 10) (by omega),wU,WG,HE _ (by omega)]
   rfl
theorem rn(n:Nat):aZ n≠[]:=by
 by_cases h:n<10
 ·rw[iF h];simp
 ·rw[j7 (by omega)];simp
theorem CG(n:Nat):∀d∈aZ n,d<10:=by
 induction n using VT with
 | ind n ih =>
  intro d hd
  by_cases h:n<10
  ·rw[iF h,vx]at hd;omega
  ·rw[j7 (by omega),Wf,vx]at hd
   rcases hd with z | z
   ·exact ih _ (by omega) d z
   ·omega
theorem LV(n:Nat):cN (aZ n)=n:=by
 induction n using VT with
 | ind n ih =>
  by_cases h:n<10
  ·rw[iF h];simp[cN]
  ·rw[j7 (by omega)]
   unfold cN;rw[XG];have:=ih (n / 10) (by omega);unfold cN at this;rw[this]
   show n / 10*10+n % 10=n
   omega
theorem ZR{l m:List Nat}(h:l≠[]):(l++m).head? = l.head?:=by
 cases l with
 | nil=>exact absurd rfl h
 | cons a l=>rfl
theorem F8{α β : Type}{f : α -> β}(hf:∀a b,f a=f b->a=b):∀{l m:List α},l.map f=m.map f->l=m
 | [],[],_=>rfl
 | [],_::_,h=>by simp at h
 | _::_,[],h=>by simp at h
 | a::l,b::m,h=>by
  rw[wU,wU]at h;rw[hf _ _ (qh h).1,F8 hf (qh h).2]
theorem zrV(n:Nat):(aZ n).head? = some 0->n=0:=by
 induction n using VT with
 | ind n ih =>
  intro hz
  by_cases h:n<10
  ·rw[iF h]at hz
   simpa using hz
  ·rw[j7 (by omega),ZR (rn _)]at hz
   have:=ih (n / 10) (by omega) hz;omega
theorem IK(n:Nat)(h:(aZ n).head? = some 0):(aZ n).length=1:=by
 rw[zrV n h,iF (by decide)];rfl
def bu(n:Nat):Str:=⟨((aZ n).map (48 + ·)).toArray⟩
theorem KR(n:Nat):VD (V2 (n:Int))=bu n:=by
 have e:V2 (n:Int)=V2 n:=rfl;rw[e,V0,Nat.toString_eq_ofList_toDigits];unfold bu;rw[String.toList_ofList,ZI]
def fj(c:Nat):List (List Nat)->List Nat
 | []=>[]
 | [x]=>x
 | x::y::r=>x++c::fj c (y::r)
theorem rN(c:Nat):∀ts:List Str,(qy ⟨#[c]⟩ ts).cps.toList=fj c (ts.map λt=>t.cps.toList)
 | []=>rfl
 | [x]=>rfl
 | x::y::r=>by
  have ih:=rN c (y::r)
  show(x++⟨#[c]⟩++qy ⟨#[c]⟩ (y::r)).cps.toList=_
  show(x.cps ++ #[c]++(qy ⟨#[c]⟩ (y::r)).cps).toList=_
  rw[x6,x6,ih];simp[fj]
theorem ph{c:Nat} : ∀{a b x y:List Nat},c ∉ a->c ∉ b->a++c::x=b++c::y->a=b/\x=y
 | [],[],x,y,_,_,h=>⟨rfl,by simpa using h⟩
 | [],b::bs,x,y,_,hb,h=>by
  have:c=b:=by simpa using (qh h).1
  exact absurd (by rw[this];simp) hb
 | a::as,[],x,y,ha,_,h=>by
  have:a=c:=by simpa using (qh h).1
  exact absurd (by rw[this];simp) ha
 | a::as,b::bs,x,y,ha,hb,h=>by
  have h1:=(qh h).1;have h2:as++c::x=bs++c::y:=(qh h).2;have:=ph (λz=>ha (wI _ z)) (λz=>hb (wI _ z)) h2;exact⟨by rw[h1,this.1],this.2⟩
theorem L6{c:Nat} : ∀{xs ys:List (List Nat)},xs≠[]->ys≠[]->(∀x∈xs,c ∉ x)->(∀y∈ys,c ∉ y)->fj c xs=fj c ys->xs=ys
 | [],_,h,_,_,_,_=>absurd rfl h
 | _,[],_,h,_,_,_=>absurd rfl h
 | [x],[y],_,_,_,_,h=>by rw[show x=y from h]
 | [x],y::z::r,_,_,hx,_,h=>by
  have h:x=y++c::fj c (z::r):=h;exact absurd (by rw[h];simp) (hx x (by simp))
 | x::z::r,[y],_,_,_,hy,h=>by
  have h:x++c::fj c (z::r)=y:=h;exact absurd (by rw[<- h];simp) (hy y (by simp))
 | x::z::r,y::w::s,_,_,hx,hy,h=>by
  have h:x++c::fj c (z::r)=y++c::fj c (w::s):=h;obtain⟨h1,h2⟩:=ph (hx x (by simp)) (hy y (by simp)) h;rw[h1,L6 (by simp) (by simp) (λv hv=>hx v (wI _ hv)) (λv hv=>hy v (wI _ hv)) h2]
theorem kJ(x y:Str):wM x y≠[]:=by
 unfold wM
 split
 ·simp
 ·split
  ·simp
  ·rw[ut]
   obtain⟨p,r,e⟩:=uT x y.length 0 (vE x y 0 x.length (x.length+1));rw[e];simp
theorem N7{c:Nat}{ts:List Str}(ne:ts≠[])(h:∀t∈ts,c ∉ t.cps.toList):wM (qy ⟨#[c]⟩ ts) ⟨#[c]⟩=ts:=by
 have e1:=VI (qy ⟨#[c]⟩ ts) ⟨#[c]⟩;have e2:=congrArg (λs:Str=>s.cps.toList) e1;simp only[rN]at e2
 have e3:=L6 (by simpa using kJ _ _) (by simpa using ne) (λx hx=>by
  obtain⟨t,ht,rfl⟩:=vg.mp hx;exact u3 _ c t ht) (λx hx=>by
  obtain⟨t,ht,rfl⟩:=vg.mp hx;exact h t ht) e2
 exact F8 (λa b z=>V1 (Wp.mp z)) e3
set_option maxHeartbeats 2000000
theorem Lz:typeLookup (.type "str") "__int__"=pure none:=by rw[typeLookup_type,builtinLookup_eq_fast];kernel_rfl
theorem GW:typeLookup (.type "str") "__index__"=pure none:=by rw[typeLookup_type,builtinLookup_eq_fast];kernel_rfl
theorem Kw:typeLookup (.type "str") "__trunc__"=pure none:=by rw[typeLookup_type,builtinLookup_eq_fast];kernel_rfl
theorem Cv{α : Type}{p : α -> Bool} : ∀{l:List α},(∀c∈l,p c=true)->l.takeWhile p=l
 | [],_=>rfl
 | c::l,h=>by rw[List.takeWhile_cons,if_pos (h c (vc ..)),Cv λd hd=>h d (wI _ hd)]
theorem nG{f:Array Nat × Bool->Nat->Option (Array Nat × Bool)}(hf:∀a b d,d<10->f (a,b) (48+d)=some (a.push d,true)):∀(ds:List Nat)(a:Array Nat)(b:Bool),(∀d∈ds,d<10)->List.foldlM f (a,b) (ds.map (48 + ·))=some (a++ds.toArray,b || !ds.isEmpty)
 | [],a,b,_=>by simp
 | d::ds,a,b,h=>by
  rw[wU,List.foldlM_cons,hf a b d (h d (vc ..))]
  show List.foldlM f (a.push d,true) (ds.map (48 + ·))=_
  rw[nG hf ds _ _ λe he=>h e (wI _ he)];simp
theorem HC{p:Nat->Bool}(hp:∀d,d<10->p (48+d)=false)(ds:List Nat)(h:∀d∈ds,d<10)(pre:List Nat)(ne:ds≠[]):((pre++ds.map (48 + ·)).reverse.dropWhile p).reverse=pre++ds.map (48 + ·):=by
 obtain⟨l,d,rfl⟩:∃l d,ds=l++[d]:=⟨ds.dropLast,ds.getLast ne,(List.dropLast_concat_getLast ne).symm⟩;rw[Wo,wU,WG,<- V5,List.reverse_append,List.reverse_singleton,List.singleton_append,x8,hp d (h d (by simp))];simp
theorem Cd:∀d,d<10->(48+d == 32 || decide (9<=48+d)&&decide (48+d<=13))=false:=by decide
theorem YF(x:Str)(u:Tok)(ds:List Nat)(ne:ds≠[])(hd:∀d∈ds,d<10)(hlead:ds.head? = some 0->ds.length=1)(hx:x.cps.toList=ds.map (48 + ·))(hl:ds.length<=640) :
  Meets (Builtin.«int.__new__» ⟨[.type "int",.str x u],[]⟩) (Made.int (cN ds)).spec :=
 u6 λprog w A R s hs=>by
  have hasc:x.cps.all (· < 128)=true:=by
   rw[<- Vd,hx,wv];intro c hc;obtain⟨d,h1,rfl⟩:=vg.mp hc;have:=hd d h1;exact decide_eq_true (by omega)
  have h0:∀c∈ds.map (48 + ·),(c != 0)=true:=λc hc=>by
   obtain⟨d,h1,rfl⟩:=vg.mp hc;simp
  obtain⟨hp,g,d,tk,os⟩:=s;have f1:=F.conv_sub_int;have f2:=F.madeHere_int;have f3:=Lz;have f4:=GW;have f5:=Kw
  iterate 48 (any_goals(first | assumption | wp_step))
  show wA _ _ (pure (some (if(x.cps.all λx=>decide (x<128))=true then x.cps.toList else Xp x.cps.toList))) _ _ _
  rw[if_pos hasc,hx];refine wz ?_;dsimp only
  k_delta "intFromText"
  have hseen:(ds.map (48 + ·)).takeWhile (λc=>c != 0)=ds.map (48 + ·):=Cv h0;dsimp only;rw[hseen,if_pos (by rw[wm];exact hl)];refine wj (wz ?_)
  show wA _ _ _ _ _ _
  k_delta "readNumeral"
  k_delta "isBlank"
  k_delta "prefixBase?"
  k_delta "numeralDigits?"
  k_delta "digitValue?"
  have hdw:Qk (λc=>c == 32 || decide (9<=c)&&decide (c<=13)) (ds.map (48 + ·))=ds.map (48 + ·):=by
   cases ds with
   | nil=>rfl
   | cons d ds=>rw[wU,x8,Cd d (hd d (vc ..))];rfl
  rw[hdw];have hbr:=HC (p:=λc=>c == 32 || decide (9<=c)&&decide (c<=13)) Cd ds hd [] ne;rw[xo]at hbr;cases ds with
  | nil=>exact absurd rfl ne
  | cons d0 aO =>
   have hd0:=hd d0 (vc ..);have hsz:¬ ((#[]++(d0::aO).toArray).size > 6000):=by simp;simp at hl;omega
   have fin:wA (model prog w) A.in1 (mkInt ((cN (d0::aO):Nat):Int)) (λa s'=>wA (model prog w) A.in1 (ret a) (λfin s'=>∃v,fin=Fin.done (Flow.ret v)/\R (Except.ok (Flow.ret v)) s') (λe s'=>R (Except.error e) s') s') (λe s'=>R (Except.error e) s') {heap:=hp,gens:=g,drawn:=d,toks:=tk,os:=os}:=by
    repeat(any_goals(first | assumption | wp_step))
    exact⟨_,rfl,hs⟩
   have hval:u7 (λacc d=>acc*10+d) 0 (#[]++(d0::aO).toArray)=cN (d0::aO):=by simp[cN]
   have hbr2:((Qk (λc=>c == 32 || decide (9<=c)&&decide (c<=13)) ((48+d0)::aO.map (48 + ·)).reverse).reverse)=(d0::aO).map (48 + ·):=hbr;clear h0 hx hasc hseen hdw hs f1 f2 f3 f4 f5 hbr;rw[wU]
   by_cases hz:d0=0
   ·have hr:aO=[]:=by
     have:=hlead (by rw[hz];rfl);cases aO with
     | nil=>rfl
     | cons _ _=>simp at this
    subst hr hz;dsimp only[QN]at hbr2 ⊢;simp only[beq_iff_eq,qR,Q9,w8,if_false,ite_false,WG]at hbr2 ⊢;rw[hbr2,nG ?hf [0] #[] false hd]
    case hf =>
     intro a b d h;rcases (show d=0\/d=1\/d=2\/d=3\/d=4\/d=5\/d=6\/d=7\/d=8\/d=9 by omega)with rfl | rfl | rfl | rfl | rfl | rfl | rfl | rfl | rfl | rfl<;>rfl
    simp only[qk,VF,qI,qC,Qb,if_true,if_pos,bne_self_eq_false,We,vi,w8,if_false,decide_eq_false hsz,We];rw[hval];exact fin
   ·rcases (show d0=1\/d0=2\/d0=3\/d0=4\/d0=5\/d0=6\/d0=7\/d0=8\/d0=9 by omega)with rfl | rfl | rfl | rfl | rfl | rfl | rfl | rfl | rfl
    all_goals
     dsimp only[QN]at hbr2 ⊢;simp only[beq_iff_eq,qR,Q9,w8,if_false,ite_false];rw[hbr2,nG ?hf _ #[] false hd]
     case hf =>
      intro a b d h;rcases (show d=0\/d=1\/d=2\/d=3\/d=4\/d=5\/d=6\/d=7\/d=8\/d=9 by omega)with rfl | rfl | rfl | rfl | rfl | rfl | rfl | rfl | rfl | rfl<;>rfl
     simp only[qk,VF,qI,qC,Qb,if_true,if_pos,bne_self_eq_false,We,vi,w8,if_false,decide_eq_false hsz,We];rw[hval];exact fin
theorem Zz{prog:wV}{w:wR}{A:vm}{E:wg->wo->Prop}{s:wo}{x y:Str}{t u:Tok}{Q:wg->wo->Prop}(hy:(y.length == 0)=false)
  (hq:∀(l:List (Str × Tok))(h':wK)(k c:Nat),l.map (·.1)=wM x y->(∀b o,s.heap.get? b=some o->h'.get? b=some o)->h'.get? s.heap.objs.size=some {cls:=.type "list",dict:=none,data:=.seq (strValues l).toArray c,slots:=#[]}->Q (.ref s.heap.objs.size) {s with heap:=h',toks:=k})
  (hsz:x.length<=wC) (hsz2:(wM x y).length<=wC) :
  wA (model prog w) A (call (.builtin "str.split") [.str x t,.str y u]) Q E s:=by
 cases h1:(decide (x.length<y.length) || decide (Xa x<Xa y))
 ·cases hf:(vE x y 0 x.length (x.length+1)).isEmpty
  ·refine VX xb (Vw _ _ _) QW (Qx _ _) (meets_str_split_sep x y t u h1 hy hf hsz (by unfold wM at hsz2;rw[if_neg (ne_true_of_eq_false h1),if_neg (ne_true_of_eq_false hf)]at hsz2;exact hsz2)) ?_
   show wants Q E _ {s with toks:=_,heap:=s.heap.push {cls:=.type "list",data:=.seq (strsFrom s.toks (xc x (vE x y 0 x.length (x.length+1)) y.length)).toArray}}
   rw[strsFrom_eq];exact hq (numbered s.toks _) _ _ _ ((numbered_texts _ _).trans ((if_neg (ne_true_of_eq_false h1)).trans (if_neg (ne_true_of_eq_false hf))).symm) (λb o e=>wk _ e) (wE _ rfl)
  ·exact VX xb (Vw _ _ _) QW (Qx _ _) (meets_str_split_not_found x y t u h1 hy hf)
    (hq [(x,t)] _ s.toks _ ((if_neg (ne_true_of_eq_false h1)).trans (if_pos hf)).symm (λb o e=>wk _ e) (wE _ rfl))
 ·exact VX xb (Vw _ _ _) QW (Qx _ _) (meets_str_split_cannot_occur x y t u h1)
   (hq [(x,t)] _ s.toks _ (if_pos h1).symm (λb o e=>wk _ e) (wE _ rfl))
theorem L9:∀l:List (Str × Tok),aC ((l.map (·.1)).map V.str) (strValues l)
 | []=>.nil
 | (x,t)::l=>.cons ⟨t,rfl⟩ (L9 l)
def iz:V->List V->Hp->VK->Prop:=λx vs H Q=>∃(s y:Str),x=.str s/\vs=[.str y]/\(y.length == 0)=false/\s.length<=wC/\(wM s y).length<=wC /\ ∀l,H l=none->Q (.ref l) (upd H l (.lst ((wM s y).map V.str)))
theorem jY{X:Cx} : b_ X "str.split" iz:=by
 intro pins s σ H x vs v us Q I rx rv h;obtain⟨z,y,rfl,rfl,hy,h1,h2,q⟩:=h;obtain⟨t,rfl⟩:=rx;obtain⟨u,rfl,ru⟩:=rv.one;obtain⟨t2,rfl⟩:=ru;refine Zz hy (λl h' k c hl kp e=>?_) h1 h2;refine⟨.ref s.heap.objs.size,_,I.laid (t':=k) kp (wx _) (show cF X.prog X.w _ h' _ (.lst ((wM z y).map V.str))from⟨by rw[wm];exact h2,strValues l,c,?_,e⟩),rfl,q _ (I.ar.fresh (wx _))⟩;rw[<- hl];exact L9 l
def nP:List V->Hp->VK->Prop:=λxs H Q=>∃n:Nat,xs=[.str (bu n)]/\(aZ n).length<=640/\Q (.int (n:Int)) H
theorem Hs{X:Cx} : ao X (.type "int") nP:=by
 intro pins s σ H xs us Q I r h;obtain⟨n,rfl,hl,q⟩:=h;obtain⟨u,rfl,rx⟩:=gi r;obtain⟨t,rfl⟩:=rx;have g:=YF (bu n) t (aZ n) (rn n) (CG n) (IK n) (by simp[bu]) hl;rw[LV]at g;exact call_int_1 g (show(Made.int (n:Int)).post _ s from⟨rfl,⟨.int (n:Int),H,I.tok _,⟨_,rfl⟩,q⟩⟩)
def Cb(x:Str):It where
 go:=λi _=>i<x.length
 gj:=λi H v H'=>H'=H /\ ∃c,x.cps[i]? = some c/\v=.str ⟨#[c]⟩
 stop:=λi _=>x.length<=i
theorem TV{P:wV}{w:wR}{K:wa}{tg:Expr}(x:Str)(t:Tok)(it:wd):ip P w K tg (Cb x) [it] it (λi h=>h.IsStrIter it "str_ascii_iterator" x t i) where
 mem:=by simp
 obj:=λi h st b hb=>by
  have e:b=it:=by simpa using hb
  subst e;obtain⟨o,e,c,d⟩:=st;exact⟨o,e,λv z=>by rw[d]at z;cases z⟩
 keep:=λi h h' st k=>by
  obtain⟨o,e,c,d⟩:=st;exact⟨o,k it (by simp) o e,c,d⟩
 item:=by
  intro X hP hw hK hc i pins s σ H E I hf st hg;subst hP hw hK;have hg:i<x.cps.size:=hg;obtain⟨f0,f1,f2,f3,f4,f5⟩:=hf it (by simp);refine wpAny_pyNext_ascii_item st (c:=x.cps[i]) (by simp[hg]) λh' st' sb=>?_
  have I1:Inv X pins σ H {s with heap:=h',toks:=s.toks+1}:=I.turned (t':=s.toks+1) (λb o hb e=>(sb.2 b hb).trans e) f0 f1 f3 f4 f5;obtain⟨o,e,c,d⟩:=id st';exact⟨_,rfl,yc (s:={s with heap:=h',toks:=s.toks+1}) e c d (by decide) ⟨.str ⟨#[x.cps[i]]⟩,H,I1,⟨_,rfl⟩,⟨rfl,_,by simp[hg],rfl⟩,st',λb hb=>(hf b hb).1⟩⟩
 done:=by
  intro X hP hw hK hc i pins s σ H E I hf st hg;subst hP hw hK;have hg:x.cps.size<=i:=hg;obtain⟨f0,f1,f2,f3,f4,f5⟩:=hf it (by simp);exact wpAny_pyNext_ascii_end (I.ok.hd hc) st (by simp;omega) λh' eb=>⟨rfl,I.turned (t':=s.toks) (λb o hb e=>eb b o hb e) f0 f1 f3 f4 f5⟩
 self:=λ_ _ _ _ _ st h=>wpAny_pyIter_striter_ascii st h
def Le(ta:TE):TI:=λσ H R=>ta σ H λv H1=>∃x:Str,v=.str x/\x.cps.all (· < 128)=true/\R (Cb x) H1
theorem zyw{X:Cx}{tg l:Expr}{ta:TE}(hl:PE X l ta):PI X tg l (Le ta):=by
 intro pins s σ H R I h;refine aq (hl pins s σ H _ I h) λv s1 ⟨y,H1,I1,r1,q1⟩=>?_
 obtain⟨x,rfl,ha,q⟩:=q1;obtain⟨t,rfl⟩:=r1;refine wpAny_pyIter_ascii ha ?_;refine⟨s1.heap.objs.size,[s1.heap.objs.size],_,_,H1,rfl,I1.kept (t':=s1.toks) λb o e=>wk _ e,TV x t _,⟨_,wE _ rfl,rfl,rfl⟩,λb hb=>?_,q⟩;have e:b=s1.heap.objs.size:=by simpa using hb
 subst e;exact I1.iO (wx _) (I1.ar.fresh (wx _))
def Gz(g:TG)(tt:TT)(te:TE)(src:List (Option Nat))(σ : St)(v:V)(H1:Hp)(Q:VK):Prop :=
 ∃x:Str,v=.str x/\x.cps.all (· < 128)=true /\ ∀D,H1 D=none->iV g tt te (Cb x) D (cJ src σ) (upd H1 D (.lst [])) (λH'=>Q (.ref D) H')
section
variable{K:wa}{g:TG}{tt:TT}{te ta:TE}{src:List (Option Nat)}{σ : St}{H:Hp}{Q:VK}
theorem zop(h:ta σ H λx H1=>Gz g tt te src σ x H1 Q):jG src (Le ta) g tt te σ H Q:=h
theorem UY{x:Str}(ha:x.cps.all (· < 128)=true)(Pv:wd->Nat->List V->St->Hp->Prop)(h0:∀D H',H D=none->af H H'->H' D=some (.lst [])->Pv D 0 [] (cJ src σ) H')
  (hs:∀D (i:Nat) c ys σ' H',x.cps[i]? = some c->Pv D i ys σ' H'->fR Pv g tt te D i (.str ⟨#[c]⟩) σ' H') (hd:∀D ys σ' H',Pv D x.length ys σ' H'->Q (.ref D) H'):Gz g tt te src σ (.str x) H Q:=by
 refine⟨x,rfl,ha,λD hD=>AG (N:=x.length) Pv (λi v=>∃c,x.cps[i]? = some c/\v=.str ⟨#[c]⟩) (h0 D _ hD (af.upd hD) cb) (λi ys σ' H' hp hi=>hi) (λi ys σ' H' hp hi=>hi) (λi ys σ' H' v H2 hp hy=>⟨hy.1,hy.2⟩)
  (λi v ys σ' H' hi hit hp=>?_) (hd D)⟩
 obtain⟨c,hc,rfl⟩:=hit;exact hs D i c ys σ' H' hc hp
end
def TJ:=St->Hp->Str->(Str->Hp->Prop)->Prop
def PJ(X:Cx)(es:List Expr)(tj:TJ):Prop:=∀(pins:List (wd × Obj))(s:wo)(σ : St)(H:Hp)(Q:VK)(acc:Str),Inv X pins σ H s->tj σ H acc (λout H1=>Q (.str out) H1) ->
 Joins (model X.prog X.w) X.A X.xe (evalEach es X.env) acc (λout s1=>out.length<=wC/\EP X pins σ Q (.str out s1.toks) {s1 with toks:=s1.toks+1}) s
def Jn:TJ:=λσ H acc Q=>acc.length<=wC/\Q acc H
def LY(x:Str)(tj:TJ):TJ:=λσ H acc Q=>(acc++x).length<=wC/\tj σ H (acc++x) Q
def J3(te:TE)(tj:TJ):TJ:=λσ H acc Q=>te σ H λv H1=>∃y:Str,v=.str y/\y.length<=wC/\(acc++y).length<=wC/\tj σ H1 (acc++y) Q
def Kz(tj:TJ):TE:=λσ H Q=>tj σ H xv (λout H1=>Q (.str out) H1)
section
variable{X:Cx}{es:List Expr}{e v1 v2:Expr}{te:TE}{tj:TJ}{pos pp:Pos}{x:Str}
theorem Pn:PJ X [] Jn:=λpins s σ H Q acc I h=>⟨h.1,.str acc,H,I.tok _,⟨_,rfl⟩,h.2⟩
theorem O5{j}(h:PJ X es tj):PJ X (.Constant (.str x) j pos::es) (LY x tj):=by
 intro pins s σ H Q acc I q
 show wA _ _ (eval (.Constant (.str x) j pos) X.env) _ _ s
 exact W1 ⟨x,_,rfl,q.1,h pins _ σ H Q (acc++x) (I.tok _) q.2⟩
theorem Jh(he:PE X e te)(h:PJ X es tj):PJ X (.FormattedValue e (-1) none pos::es) (J3 te tj):=by
 intro pins s σ H Q acc I q
 show wA _ _ (eval (.FormattedValue e (-1) none pos) X.env) _ _ s
 refine wpAny_FormattedValue_plain (aq (he pins s σ H _ I q) λv s1 ⟨y,H1,I1,r1,q1⟩=>?_);obtain⟨z,rfl,hz,hl,q⟩:=q1;obtain⟨t,rfl⟩:=r1;exact wpAny_formatField_str ⟨z,_,rfl,hl,h pins _ σ H1 Q (acc++z) I1 q⟩ ⟨z,_,rfl,hl,h pins _ σ H1 Q (acc++z) (I1.tok _) q⟩ hz
theorem OW(h:PJ X (v1::v2::es) tj):PE X (.JoinedStr (v1::v2::es) pos) (Kz tj):=λpins s σ H Q I q=>wpAny_JoinedStr (h pins s σ H Q xv I q)
end
section
variable{σ : St}{H:Hp}{Q:VK}{QS:Str->Hp->Prop}{te:TE}{tj:TJ}{acc x y:Str}
theorem Z3(h:tj σ H xv (λout H1=>Q (.str out) H1)):Kz tj σ H Q:=h
theorem TU(h1:(acc++x).length<=wC)(h:tj σ H (acc++x) QS):LY x tj σ H acc QS:=⟨h1,h⟩
theorem Gd(h:te σ H λv H1=>∃y:Str,v=.str y/\y.length<=wC/\(acc++y).length<=wC/\tj σ H1 (acc++y) QS):J3 te tj σ H acc QS:=h
theorem Z4(h1:acc.length<=wC)(h:QS acc H):Jn σ H acc QS:=⟨h1,h⟩
end
def m8:List V->Hp->VK->Prop:=λxs H Q=>∃z:Str,xs=[.str z]/\z.length<=wC/\Q (.int z.length) H
theorem zC{X:Cx} : ao X (.builtin "len") m8:=P6
def sC:List V->Hp->VK->Prop:=λxs H Q=>∃i:Int,xs=[.int i]/\i.natAbs.log2<1920/\Q (.str (V2 i)) H
theorem Hx{X:Cx} : ao X (.type "str") sC:=Sq
def mK:R2:=λx y H Q=>∃i j:Str,x=.str i/\y=.str j/\Q (.bl (!(vE j i 0 j.length 1).isEmpty)) H
theorem Bv{X:Cx} : ax X (wQ .In) mK:=zqT
def fH(K:wa):V->List V->Hp->VK->Prop:=λx vs H Q=>∃(sep:Str)(l:wd)(ts:List Str)(B:Nat),x=.str sep/\vs=[.ref l]/\aN K H l (ts.map V.str)/\(∀y∈ts,y.length<=B)/\ts.length*B+ts.length*sep.length<=16777216/\Q (.str (qy sep ts)) H
theorem g6{X:Cx} : b_ X "str.join" (fH X.K):=by
 intro pins s σ H x vs v us Q I rx rv h;obtain⟨sep,l,ts,B,rfl,rfl,hl,hB,hz,q⟩:=h;obtain⟨tk,rfl⟩:=rx;obtain⟨u,rfl,ru⟩:=rv.one;cases ru;obtain⟨its,r,p,_⟩:=I.list hl;obtain⟨lt,rfl,e2⟩:=La r;refine SC.join p.isList e2 ?_ (λt' k=>⟨.str _,H,I.tok _,⟨_,rfl⟩,?_⟩)
 ·unfold JoinOk
  rw[StrLaws.joinFits hB hz]
  rfl
 ·rw[show Txt.join sep ts=qy sep ts from StrLaws.glued_eq_join sep ts]
  exact q
section
variable{K:wa}{H H':Hp}{Q:VK}{a:wd}{x y:Str}{ts:List Str}{n:Nat}{i:Int}
theorem jK{B:Nat}(h:aN K H a (ts.map V.str))(hB:∀y∈ts,y.length<=B)(hz:ts.length*B+ts.length*x.length<=16777216)(q:Q (.str (qy x ts)) H):fH K (.str x) [.ref a] H Q:=⟨x,a,ts,B,rfl,rfl,h,hB,hz,q⟩
theorem kr(hy:(y.length == 0)=false)(h1:x.length<=wC)(h2:(wM x y).length<=wC)(q:∀l H',H l=none->af H H'->H' l=some (.lst ((wM x y).map V.str))->Q (.ref l) H'):iz (.str x) [.str y] H Q :=
 ⟨x,y,rfl,rfl,hy,h1,h2,λl hl=>q l _ hl (af.upd hl) cb⟩
theorem Rg(hl:(aZ n).length<=640)(q:Q (.int (n:Int)) H):nP [.str (bu n)] H Q:=⟨n,rfl,hl,q⟩
theorem Mj(h:i.natAbs.log2<1920)(q:Q (.str (V2 i)) H):sC [.int i] H Q:=⟨i,rfl,h,q⟩
theorem CF(h:x.length<=wC)(q:Q (.int x.length) H):m8 [.str x] H Q:=⟨x,rfl,h,q⟩
theorem A3(q:Q (.bl (!(vE y x 0 y.length 1).isEmpty)) H):mK (.str x) (.str y) H Q:=⟨x,y,rfl,rfl,q⟩
theorem BR(hx:vJ x=true)(hy:vJ y=true)(q:Q (.bl (x == y)) H):cU K (.str x) (.str y) H Q :=
 L5 (d:=.str x) (e:=.str y) (dj.mpr rfl) (dj.mpr rfl) (by simp[vV,Wd,VG,hx]) (by simp[vV,Wd,VG,hy]) (by rw[Wm];exact q)
theorem yx(hx:vJ x=true)(hy:vJ y=true)(q:Q (.bl (!(x == y))) H):cM K (.str x) (.str y) H Q :=
 yE (d:=.str x) (e:=.str y) (dj.mpr rfl) (dj.mpr rfl) (by simp[vV,Wd,VG,hx]) (by simp[vV,Wd,VG,hy]) (by rw[Wm];exact q)
end
def jl:Str:=⟨#[48,49,50,51,52,53,54,55,56,57]⟩
section
variable{prog:wV}{w:wR}{A:vm}{R:Result->wo->Prop}{I:wd}{fp wr:List wd}{n:Nat}{P:Nat->wg->Prop}{St:Nat->wK->Prop}
end
theorem YV{as:List wd} : ∀{us:List wg},aC (as.map V.ref) us->us=as.map Value.ref:=by
 induction as with
 | nil=>intro us r;rw[WG]at r;cases r;rfl
 | cons b bs ih =>
  intro us r;rw[wU]at r;cases r with
  | cons r1 r2 =>
   cases r1;rw[wU,ih r2]
end L2
namespace L2
open PySem PySem.Spec PyProof.Rows GM
open PySem.StrLaws PySem.Builtin PySem.Builtin.Str
theorem cx(x y:Str):(x++y).cps.toList=x.cps.toList++y.cps.toList:=by
 show(x.cps++y.cps).toList=_
 simp
theorem zqN{x:Str}{c:Nat}(h:c ∉ x.cps.toList):Wv x ⟨#[c]⟩=(x,xv,xv):=by
 unfold Wv;rcases xf x ⟨#[c]⟩ 1 (wx 1)with⟨h0,hn⟩ | ⟨i,r,h0,hi,hn⟩
 ·rw[h0]
 ·exact absurd (vz ((subAt_one x c i).mp hi)) h
theorem O7{a b:Str}{c:Nat}(h:c ∉ a.cps.toList):Wv (a++⟨#[c]⟩++b) ⟨#[c]⟩=(a,⟨#[c]⟩,b):=by
 have hx:(a++⟨#[c]⟩++b).cps.toList=a.cps.toList++(c::b.cps.toList):=by rw[cx,cx];simp
 have hl:(a++⟨#[c]⟩++b).length=(a++⟨#[c]⟩++b).cps.toList.length:=by simp[Str.length]
 have hat:StrLaws.At (a++⟨#[c]⟩++b) ⟨#[c]⟩ (a++⟨#[c]⟩++b).length a.cps.toList.length:=(subAt_one _ c _).mpr (by rw[hx];simp);unfold Wv;rcases xf (a++⟨#[c]⟩++b) ⟨#[c]⟩ 1 (wx 1)with⟨h0,hn⟩ | ⟨i,r,h0,hi,hn⟩
 ·exact absurd hat (hn _)
 ·have e:i=a.cps.toList.length:=by
   rcases QU i a.cps.toList.length with z | z | z
   ·have:=(subAt_one _ c i).mp hi
    rw[hx,Wr z]at this;exact absurd (vz this) h
   ·exact z
   ·exact absurd hat (hn _ z)
  subst e;rw[h0]
  show(strSub _ 0 _,_,strSub _ _ _)=_
  congr 1
  ·refine V1 (Wp.mp ?_)
   rw[strSub_toList,hx];simp
  ·congr 1
   refine V1 (Wp.mp ?_);rw[strSub_toList,hl,hx];have e2:((⟨#[c]⟩:Str)).length=1:=rfl;rw[e2,show a.cps.toList++c::b.cps.toList=(a.cps.toList++[c])++b.cps.toList by simp,show a.cps.toList.length+1=(a.cps.toList++[c]).length by simp,List.drop_left,qN];simp only[vQ];omega
theorem UU{x:Str}{c:Nat} : vP x ⟨#[c]⟩=decide (x.cps.toList[0]? = some c):=by
 have:=subAt_one x c 0;rw[WP,decide_eq_true_eq,<- this];unfold vP
 show _ ↔ (_/\_)
 rw[wD,decide_eq_true_eq]
theorem YN{x:Str}{c:Nat} : sliceText (⟨#[c]⟩++x) (some 1) none=x:=by
 rw[sliceText_from ⟨by decide,by rw[cx];simp;omega⟩];refine V1 (Wp.mp ?_);rw[cx];simp;exact qN (by simp)
def gH(z:Int):Str:=if z<0 then⟨#[45]⟩++bu z.natAbs else bu z.natAbs
theorem KP(z:Int):VD (V2 z)=gH z:=by
 cases z with
 | ofNat n =>
  unfold gH;rw[if_neg (by simp)];exact KR n
 | negSucc n =>
  unfold gH;rw[if_pos (Int.negSucc_lt_zero n)];have e:V2 (Int.negSucc n)="-"++V2 (n+1):=rfl;have e2:=KR (n+1);have e3:V2 ((n+1:Nat):Int)=V2 (n+1):=rfl;rw[e3]at e2;rw[e]
  show _=_++bu (n+1)
  rw[<- e2,V0,V0];refine V1 (Wp.mp ?_);rw[cx,String.toList_append];simp
def iJ(r:Rat):Str:=if r.den=1 then gH r.num else gH r.num++⟨#[47]⟩++bu r.den
theorem BG{n c:Nat}(h:c<48):c ∉ (bu n).cps.toList:=by
 intro hc;unfold bu at hc;simp only[vg]at hc;obtain⟨d,_,e⟩:=hc;omega
theorem BP{n c:Nat}(h:57<c):c ∉ (bu n).cps.toList:=by
 intro hc;unfold bu at hc;simp only[vg]at hc;obtain⟨d,hd,e⟩:=hc;have:=CG n d hd;omega
theorem zJ{c e:Nat}(h:c≠e):c ∉ (⟨#[e]⟩:Str).cps.toList:=by simp[h]
theorem yA{x y:Str}{c:Nat}(h1:c ∉ x.cps.toList)(h2:c ∉ y.cps.toList):c ∉ (x++y).cps.toList:=by
 rw[cx,Wf];exact λz=>z.elim h1 h2
theorem IW{z:Int}{c:Nat}(h:c<48/\c≠45\/57<c):c ∉ (gH z).cps.toList:=by
 have hn:c ∉ (bu z.natAbs).cps.toList:=by
  rcases h with h | h
  ·exact BG h.1
  ·exact BP h
 unfold gH
 split
 ·exact yA (zJ (by omega)) hn
 ·exact hn
theorem OK{r:Rat}{c:Nat}(h:c<45\/57<c):c ∉ (iJ r).cps.toList:=by
 have hn:c ∉ (bu r.den).cps.toList:=by
  rcases h with h | h
  ·exact BG (by omega)
  ·exact BP h
 unfold iJ
 split
 ·exact IW (by omega)
 ·exact yA (yA (IW (by omega)) (zJ (by omega))) hn
theorem O2(x:Str)(u:Tok)(ds:List Nat)(ne:ds≠[])(hd:∀d∈ds,d<10)(hlead:ds.head? = some 0->ds.length=1)(hx:x.cps.toList=45::ds.map (48 + ·))(hl:ds.length<=639) :
  Meets (Builtin.«int.__new__» ⟨[.type "int",.str x u],[]⟩) (Made.int (-(cN ds:Int))).spec :=
 u6 λprog w A R s hs=>by
  have hasc:x.cps.all (· < 128)=true:=by
   rw[<- Vd,hx,wv];intro c hc;rcases wO.mp hc with rfl | hc
   ·rfl
   obtain⟨d,h1,rfl⟩:=vg.mp hc;have:=hd d h1;exact decide_eq_true (by omega)
  have h0:∀c∈45::ds.map (48 + ·),(c != 0)=true:=λc hc=>by
   rcases wO.mp hc with rfl | hc
   ·rfl
   obtain⟨d,h1,rfl⟩:=vg.mp hc;simp
  obtain⟨hp,g,d,tk,os⟩:=s;have f1:=F.conv_sub_int;have f2:=F.madeHere_int;have f3:=Lz;have f4:=GW;have f5:=Kw
  iterate 48 (any_goals(first | assumption | wp_step))
  show wA _ _ (pure (some (if(x.cps.all λx=>decide (x<128))=true then x.cps.toList else Xp x.cps.toList))) _ _ _
  rw[if_pos hasc,hx];refine wz ?_;dsimp only
  k_delta "intFromText"
  have hseen:(45::ds.map (48 + ·)).takeWhile (λc=>c != 0)=45::ds.map (48 + ·):=Cv h0;dsimp only;rw[hseen,if_pos (by rw[wW,wm];omega)];refine wj (wz ?_)
  show wA _ _ _ _ _ _
  k_delta "readNumeral"
  k_delta "isBlank"
  k_delta "prefixBase?"
  k_delta "numeralDigits?"
  k_delta "digitValue?"
  have hdw:Qk (λc=>c == 32 || decide (9<=c)&&decide (c<=13)) (45::ds.map (48 + ·))=45::ds.map (48 + ·):=rfl;rw[hdw];have hbr:=HC (p:=λc=>c == 32 || decide (9<=c)&&decide (c<=13)) Cd ds hd [] ne;rw[xo]at hbr;cases ds with
  | nil=>exact absurd rfl ne
  | cons d0 aO =>
   have hd0:=hd d0 (vc ..);have hsz:¬ ((#[]++(d0::aO).toArray).size > 6000):=by simp;simp at hl;omega
   have fin:wA (model prog w) A.in1 (mkInt (-((cN (d0::aO):Nat):Int))) (λa s'=>wA (model prog w) A.in1 (ret a) (λfin s'=>∃v,fin=Fin.done (Flow.ret v)/\R (Except.ok (Flow.ret v)) s') (λe s'=>R (Except.error e) s') s') (λe s'=>R (Except.error e) s') {heap:=hp,gens:=g,drawn:=d,toks:=tk,os:=os}:=by
    repeat(any_goals(first | assumption | wp_step))
    exact⟨_,rfl,hs⟩
   have hval:u7 (λacc d=>acc*10+d) 0 (#[]++(d0::aO).toArray)=cN (d0::aO):=by simp[cN]
   have hbr2:((Qk (λc=>c == 32 || decide (9<=c)&&decide (c<=13)) ((48+d0)::aO.map (48 + ·)).reverse).reverse)=(d0::aO).map (48 + ·):=hbr;clear h0 hx hasc hseen hdw hs f1 f2 f3 f4 f5 hbr;rw[wU]
   by_cases hz:d0=0
   ·have hr:aO=[]:=by
     have:=hlead (by rw[hz];rfl);cases aO with
     | nil=>rfl
     | cons _ _=>simp at this
    subst hr hz;dsimp only[QN]at hbr2 ⊢;simp only[beq_iff_eq,qR,Q9,w8,if_false,ite_false,WG]at hbr2 ⊢;rw[hbr2,nG ?hf [0] #[] false hd]
    case hf =>
     intro a b d h;rcases (show d=0\/d=1\/d=2\/d=3\/d=4\/d=5\/d=6\/d=7\/d=8\/d=9 by omega)with rfl | rfl | rfl | rfl | rfl | rfl | rfl | rfl | rfl | rfl<;>rfl
    simp only[qk,VF,qI,qC,Qb,if_true,if_pos,bne_self_eq_false,We,vi,w8,if_false,decide_eq_false hsz,We];rw[hval];exact fin
   ·rcases (show d0=1\/d0=2\/d0=3\/d0=4\/d0=5\/d0=6\/d0=7\/d0=8\/d0=9 by omega)with rfl | rfl | rfl | rfl | rfl | rfl | rfl | rfl | rfl
    all_goals
     dsimp only[QN]at hbr2 ⊢;simp only[beq_iff_eq,qR,Q9,w8,if_false,ite_false];rw[hbr2,nG ?hf _ #[] false hd]
     case hf =>
      intro a b d h;rcases (show d=0\/d=1\/d=2\/d=3\/d=4\/d=5\/d=6\/d=7\/d=8\/d=9 by omega)with rfl | rfl | rfl | rfl | rfl | rfl | rfl | rfl | rfl | rfl<;>rfl
     simp only[qk,VF,qI,qC,Qb,if_true,if_pos,bne_self_eq_false,We,vi,w8,if_false,decide_eq_false hsz,We];rw[hval];exact fin
def Ax:V->List V->Hp->VK->Prop:=λx vs H Q=>∃(s y:Str),x=.str s/\vs=[.str y]/\(y.length == 0)=false/\s.length<=wC /\ ∀l,H l=none->Q (.ref l) (upd H l (.tup [.str (Wv s y).1,.str (Wv s y).2.1,.str (Wv s y).2.2]))
theorem UT{X:Cx} : b_ X "str.partition" Ax:=by
 intro pins s σ H x vs v us Q I rx rv h;obtain⟨z,y,rfl,rfl,hy,h1,q⟩:=h;obtain⟨t,rfl⟩:=rx;obtain⟨u,rfl,ru⟩:=rv.one;obtain⟨t2,rfl⟩:=ru;refine VX F.slot_str_partition (Vw _ _ _) F.entry_str_partition (F.args_str_partition_2 _ _) (meets_str_partition z y t t2 hy h1) ?_;unfold Wv at q
 revert q
 cases occurrences z y 0 z.length 1 with
 | nil =>
  intro q;refine⟨.ref s.heap.objs.size,_,I.laid (t':=s.toks+1) (λb ob q=>wk _ q) (wx _) ?_,rfl,q _ (I.ar.fresh (wx _))⟩;exact⟨by show 3<=wC;decide,_,.cons ⟨_,rfl⟩ (.cons ⟨_,rfl⟩ (.cons ⟨_,rfl⟩ .nil)),Qq _ _⟩
 | cons i r =>
  intro q;refine⟨.ref s.heap.objs.size,_,I.laid (t':=s.toks+1+1) (λb ob q=>wk _ q) (wx _) ?_,rfl,q _ (I.ar.fresh (wx _))⟩;exact⟨by show 3<=wC;decide,_,.cons ⟨_,rfl⟩ (.cons ⟨_,rfl⟩ (.cons ⟨_,rfl⟩ .nil)),Qq _ _⟩
def Bf:V->List V->Hp->VK->Prop:=λx vs H Q=>∃(s y:Str),x=.str s/\vs=[.str y]/\Q (.bl (vP s y)) H
theorem zqI{X:Cx} : b_ X "str.startswith" Bf:=by
 intro pins s σ H x vs v us Q I rx rv h;obtain⟨z,y,rfl,rfl,q⟩:=h;obtain⟨t,rfl⟩:=rx;obtain⟨u,rfl,ru⟩:=rv.one;obtain⟨t2,rfl⟩:=ru;exact SC.startswith ⟨.bl _,H,I,rfl,q⟩
def pR(K:wa):V->Option Int->Option Int->Hp->VK->Prop:=λx lo hi H Q=>jn K x lo hi H Q \/ ∃s:Str,x=.str s/\s.length<=wC/\Q (.str (sliceText s lo hi)) H
theorem KN{X:Cx} : fD X (pR X.K):=by
 refine bB.or ?_;intro pins s σ H x v vl vu lo hi sl Q I rx hs pl pu h;obtain⟨z,rfl,hz,q⟩:=h;obtain⟨t,rfl⟩:=rx;refine⟨"str",_,F.slot_str_getitem.lookup,Vw _ _ _,?_⟩
 have key:∀l u:Option (Int × Tok),vl=partValue l->vu=partValue u->lo=l.map (·.1)->hi=u.map (·.1)->wA (model X.prog X.w) X.A (getItem (.str z t) (.ref sl)) (EP X pins σ Q) X.xe s:=by
  intro l u e1 e2 e3 e4;subst e1 e2 e3 e4;refine wpAny_getItem_str_slice (l:=l) (u:=u) (st:=none) hs rfl ?_;have hle:(sliceText z (l.map (·.1)) (u.map (·.1))).length<=z.length:=Txt.slice_le z _ _;unfold sliceMade;unfold sliceText at q hle;unfold slicePicked
  split
  ·rename_i hc
   have hc:((1:Int) == 1&&(strSliceIndices (l.map (·.1)) (u.map (·.1)) 1 z.length).length == z.length)=true:=hc;rw[if_pos hc]at q;exact⟨.str z,H,I,⟨_,rfl⟩,q⟩
  ·rename_i hc
   have hc:¬ ((1:Int) == 1&&(strSliceIndices (l.map (·.1)) (u.map (·.1)) 1 z.length).length == z.length)=true:=hc;rw[if_neg hc]at q hle;exact⟨vd hle hz,.str _,H,I.tok _,⟨_,rfl⟩,q⟩
 cases pl with
 | none=>cases pu with
  | none=>exact key none none rfl rfl rfl rfl
  | int j tj=>exact key none (some (j,tj)) rfl rfl rfl rfl
 | int i ti=>cases pu with
  | none=>exact key (some (i,ti)) none rfl rfl rfl rfl
  | int j tj=>exact key (some (i,ti)) (some (j,tj)) rfl rfl rfl rfl
section
variable{K:wa}{H H':Hp}{Q:VK}{a:wd}{x y:Str}{xs:List V}{z:Int}{lo hi:Option Int}
theorem Lb{p1 p2 p3:Str}(hy:(y.length == 0)=false)(h1:x.length<=wC)(e:Wv x y=(p1,p2,p3))(q:∀l H',H l=none->af H H'->H' l=some (.tup [.str p1,.str p2,.str p3])->Q (.ref l) H'):Ax (.str x) [.str y] H Q :=
 ⟨x,y,rfl,rfl,hy,h1,λl hl=>by rw[e];exact q l _ hl (af.upd hl) cb⟩
theorem zrA(q:Q (.bl (vP x y)) H):Bf (.str x) [.str y] H Q:=⟨x,y,rfl,rfl,q⟩
theorem TX(h:x.length<=wC)(q:Q (.str (sliceText x lo hi)) H):pR K (.str x) lo hi H Q:=.inr ⟨x,rfl,h,q⟩
end
def nC:List V->Hp->VK->Prop:=λxs H Q=>∃(g:Bool)(n:Nat),xs=[.str (if g then⟨#[45]⟩++bu n else bu n)]/\(aZ n).length<=639/\Q (.int (if g then -(n:Int)else n)) H
theorem Gb{X:Cx} : ao X (.type "int") nC:=by
 intro pins s σ H xs us Q I r h;obtain⟨g,n,rfl,hl,q⟩:=h;cases g with
 | true =>
  obtain⟨u,rfl,rx⟩:=gi r;obtain⟨t,rfl⟩:=rx;have g:=O2 (⟨#[45]⟩++bu n) t (aZ n) (rn _) (CG _) (IK _) (by rw[cx];simp[bu]) hl;rw[LV]at g;exact call_int_1 g (show(Made.int (-(n:Int))).post _ s from⟨rfl,⟨.int (-(n:Int)),H,I.tok _,⟨_,rfl⟩,q⟩⟩)
 | false=>exact Hs pins s σ H _ us Q I r ⟨n,rfl,by omega,q⟩
theorem zr8{x:wg}{env env':Env}(h:env'.frame=env.frame):Vx x env'=Vx x env:=by
 unfold Vx PySem.frameOf;rw[h]
section
variable{M:Model}{A:vm}{E:wg->wo->Prop}{s:wo}{B h h':wK}{l outer:List Env}{env:Env}{L e:wd}{cls fl:wg}{Q:Unit->wo->Prop}
theorem bJ.Fq(F:bJ B (env::outer) e cls fl s.heap)(hfr:A.frames=some (env::outer))(hf:env.frame=some L)
  (k:∀h',bJ B (env::outer) e cls (rawInt L) h'->s.heap.UpToSlots h'->Q () {s with heap:=h'}):wA M A (Vx (.ref e) env) Q E s:=by
 have F0:=F;obtain⟨st,fr,oe,vs,T,oT,ts,he,hc,hd,h1,h2,hdi,be,bT,ne,hT,dT,h3⟩:=F;subst hc;unfold Vx;simp only[hf];refine wj (vI he hd h1 ?_);rw[if_pos (by simp)];refine wj (vI hT dT h3 ?_)
 by_cases hfl:fl=rawInt L
 ·subst hfl
  rw[if_pos (by simp)];exact wz (k s.heap F0 λb o hb _=>⟨o.slots,hb⟩)
 rw[if_neg (by simpa using hfl)];refine wj (Vz hT dT (vZ.mp h3).1 ?_);refine AD hfr hf (λb o q=>?_) (fr.of_keeps λb o hb hn=>⟨o,?_,rfl⟩) ?_ hd (vZ.mp h1).1 h2 hdi be λh' F' sm=>k h' F' λb o hb hn=>sm b o ?_ hn
 ·show(VZ _ _ _).get? b=_
  rw[fV (nv bT q)];exact st b o q
 ·show(VZ _ _ _).get? b=_
  rw[fV (iD hT dT hb hn)];exact hb
 ·show(VZ _ _ _).get? e=_
  rw[fV ne.symm];exact he
 ·show(VZ _ _ _).get? b=_
  rw[fV (iD hT dT hb hn)];exact hb
theorem bJ.nj{fr:Option wd}(F:bJ B l e cls fl s.heap)(k:∀h' fl',bJ B l e cls fl' h'->s.heap.UpToSlots h'->(fr=none->fl'=.none)->Q () {s with heap:=h'}):wA M A (setFlight (.ref e) fr) Q E s:=by
 obtain⟨st,bt,oe,vs,T,oT,ts,he,hc,hd,h1,h2,hdi,be,bT,ne,hT,dT,h3⟩:=F;have sz:3<ts.size:=(vZ.mp h3).1;unfold setFlight;refine wj (vI he hd h1 ?_);rw[if_pos (by simp)];generalize hv:(fr.elim Value.none λf=>rawInt f)=v;have at3:∀b,b≠T->(s.heap.update T (Vl (·.setIfInBounds 3 v))).get? b=s.heap.get? b:=λb n=>fV n
 have tr:AU (s.heap.update T (Vl (·.setIfInBounds 3 v))) B e cls v :=
  ⟨oe,vs,T,Vl (·.setIfInBounds 3 v) oT,ts.setIfInBounds 3 v,(at3 e ne.symm).trans he,hc,hd,h1,h2,hdi,be,bT,ne,
   W2 _ hT (Vj (W3 dT _)),W3 dT _,by simp[sz]⟩
 refine Vz hT dT sz (k _ v ⟨λb o q=>(at3 b (nv bT q)).trans (st b o q),bt.of_keeps λb o hb hn=>⟨o,(at3 b (iD hT dT hb hn)).trans hb,rfl⟩,tr⟩ (λb o hb hn=>⟨o.slots,(at3 b (iD hT dT hb hn)).trans hb⟩) λz=>?_);rw[<- hv,z];rfl
theorem bJ.NM(F:bJ B (env::outer) e cls fl s.heap)(hfr:A.frames=some (env::outer))(hf:env.frame=some L)
  (k:∀h',bJ B outer e cls .none h'->s.heap.UpToSlots h'->Q () {s with heap:=h'}):wA M A (leaving env (.ref e)) Q E s:=by
 unfold leaving;refine wj (F.Fq hfr hf λh1 F1 s1=>bJ.land F1 λh2 F2 s2=>k h2 ⟨F2.st,F2.fr.2.2,F2.tr⟩ (s1.trans s2))
theorem bJ.NT{α : Type}{what:String}{cenv:Env}{Q : α -> wo->Prop}(F:bJ B l e cls fl s.heap)(k:∀h' fl',bJ B l e cls fl' h'->s.heap.UpToSlots h'->E (.ref e) {s with heap:=h'}):wA M A (u4 what (.ref e) cenv) Q E s:=by
 have F0:=F;obtain⟨st,fr,oe,vs,T,oT,ts,he,hc,hd,h1,h2,hdi,be,bT,ne,hT,dT,h3⟩:=F;unfold u4;refine wj (vI he hd h1 ?_);rw[if_neg (by simp)];exact wj (F0.nj λh' fl' F' sm _=>wpAny_throw (k h' fl' F' sm))
theorem Ia{B':wK} : ∀{l:List Env},h.FunFrames B l->(∀b,B.get? b=none->h'.get? b=h.get? b/\B'.get? b=none)->h'.FunFrames B' l
 | [],_,_=>trivial
 | _::_,⟨k,⟨L,o,e1,e2,e3,e4⟩,r⟩,f=>⟨k,⟨L,o,e1,(f L e2).2,(f L e2).1.trans e3,e4⟩,Ia r f⟩
theorem bJ.but{C:wd}{oC:Obj}(F:bJ B l e cls fl h)(hC:B.get? C=some oC)(sb:vN C h h'):bJ (Vh B [C]) l e cls fl h':=by
 obtain⟨st,fr,oe,vs,T,oT,ts,he,hc,hd,h1,h2,hdi,be,bT,ne,hT,dT,h3⟩:=F
 have nn:∀b,B.get? b=none->h'.get? b=h.get? b/\(Vh B [C]).get? b=none:=λb hb=>by
  refine⟨sb.2 b (λz=>by rw[z,hC]at hb;cases hb),?_⟩;cases q:(Vh B [C]).get? b with
  | none=>rfl
  | some o=>rw[VR _ q]at hb;cases hb
 refine⟨λb o q=>?_,Ia fr nn,oe,vs,T,oT,ts,(nn e be).1.trans he,hc,hd,h1,h2,hdi,(nn e be).2,(nn T bT).2,ne,(nn T bT).1.trans hT,dT,h3⟩
 have nb:b≠C:=λz=>by
  rw[z,xP _ (by simp)]at q;cases q
 rw[sb.2 b nb];exact st b o (VR _ q)
end
def PK(P:wV)(w:wR)(C0:wd):dR:=λouter H s E e s'=>∃(ex:wd)(C:wg)(H':Hp)(B:wK)(fl:wg),e=.ref ex/\s'.os=s.os/\VP s'.gens/\Un (bt outer) [C0] H H' s.heap s'.heap/\cc P w H' s'.heap /\
 bJ B outer ex C fl s'.heap/\gP B (C0::bt outer) H H' s.heap/\E C none H'
section
variable{X:Cx}{pins:List (wd × Obj)}{σ : St}{H H':Hp}{s s':wo}{B:wK}{ex C0:wd}{C:wg}{E:XK}{E':wg->wo->Prop}
theorem zmu(I:Inv X pins σ H s)(hx:X.ex=[])(h0:X.s₀.heap.objs.size<=C0)(os:s'.os=s.os)(bare:VP s'.gens)(un:Un (bt X.stack) [C0] H H' s.heap s'.heap)(ar:cc X.prog X.w H' s'.heap)(stB:B.StaysIn s'.heap)(ov:gP B (C0::bt X.stack) H H' s.heap)
  (q:E C none H') (nj:∀(Q:Unit->wo->Prop),(∀h',bJ B X.outer ex C .none h'->s'.heap.UpToSlots h'->Q () {s' with heap:=h'})->wA (model X.prog X.w) X.A (leaving X.env (.ref ex)) Q E' s') :
  wA (model X.prog X.w) X.A (leaving X.env (.ref ex)) (λ_ s''=>bX X.prog X.w X.outer X.H₀ X.s₀ E (.ref ex) s'') E' s':=by
 have base:Un X.fs [] X.H₀ H X.s₀.heap s.heap:=by have:=I.base;rwa[hx]at this
 have nc:∀b o,X.s₀.heap.get? b=some o->b ∉ [C0]:=λb o e z=>by
  rw[vx.mp z]at e;exact WW _ (ve (wH e) h0)
 have nL:∀b o,X.s₀.heap.get? b=some o->b ∉ X.fs->b ∉ C0::bt X.stack:=λb o e n z=>by
  rcases wO.mp z with z | z
  ·exact nc b o e (vx.mpr z)
  rcases wO.mp (I.iN b z)with r | r
  ·exact wZ (ve (wH e) I.ok.above) r
  ·exact n r
 have old:∀b o,X.s₀.heap.get? b=some o->X.H₀ b=none->b ∉ X.fs->B.get? b=some o:=λb o e n nf =>
  ov.old b o (base.keep b o e n nf (by simp)) (base.free b o e n (by simp)) (nL b o e nf)
 have gO:∀b o,X.s₀.heap.get? b=some o->b ∉ X.fs->∃u,B.get? b=some u:=λb o e nf=>by
  obtain⟨o',e1⟩:=base.there b o e (by simp);exact ov.gO b o' e1 (nL b o e nf)
 refine nj _ λh' F sm=>⟨ex,C,H',B,rfl,os.trans I.os,bare,⟨λb o e n nf _=>F.st b o (old b o e n nf),λb o e n hb _=>?_,λb o e n _=>?_,λb o e _=>?_,λb xs e=>un.eG b xs (base.eG b xs e),
  λb o u e=>un.dW b o u (base.dW b o u e),λb ps e=>?_⟩,λa o e=>?_,F,⟨ov.ff,old,gO⟩,q⟩
 ·obtain⟨sl,e1⟩:=base.slot b o e n hb (by simp)
  obtain⟨sl',e2⟩:=un.any e1 (base.free b o e n (by simp)) (nc b o e);obtain⟨_,o',ho',nr⟩:=I.ok.dw.mem hb;rw[e]at ho';cases ho';obtain⟨sl2,e3⟩:=sm b _ e2 nr;exact⟨sl2,e3⟩
 ·obtain⟨o',e1⟩:=base.there b o e (by simp)
  exact un.free b o' e1 (base.free b o e n (by simp)) (nc b o e)
 ·by_cases hb:b∈X.fs
  ·obtain⟨_,o',ho',nr⟩:=I.ok.dw.mem hb
   rw[e]at ho';cases ho';have n:X.H₀ b=none:=I.ok.gD b hb;obtain⟨sl,e1⟩:=base.slot b o e n hb (by simp);obtain⟨sl',e2⟩:=un.any e1 (base.free b o e n (by simp)) (nc b o e);obtain⟨sl2,e3⟩:=sm b _ e2 nr;exact⟨_,e3⟩
  ·obtain⟨u,e1⟩:=gO b o e hb
   exact⟨u,F.st b u e1⟩
 ·obtain⟨m1,e1⟩:=base.eH b ps e
  obtain⟨m2,e2⟩:=un.eH b _ e1;exact⟨m1++m2,by rw[e2,Qo]⟩
 ·refine(ar a o e).gp (λb u hb r=>?_) (λ_ z=>z) λ_ _ z=>z
  have:∃v,B.get? b=some v:=by
   rcases hb with rfl | hb
   ·exact ov.ff _ _ e
   ·exact ov.ff _ _ hb
  obtain⟨v,ev⟩:=this;have e2:=stB b v ev;rw[r]at e2;cases e2;exact F.st b u ev
end
def nE(X:Cx)(E:XK):Prop:=∀(C0:wd)(pins:List (wd × Obj))(σ : St)(H:Hp)(s:wo)(e:wg)(s':wo),Inv X pins σ H s->X.s₀.heap.objs.size<=C0->PK X.prog X.w C0 X.stack H s E e s'->X.xe e s'
theorem JD{P:wV}{w:wR}{K:wa}{mg:Str->Option wg}{base:wK}{N:List Str}{qual:Str}{scope:Scope}{f:wd}{cd:wg}{A:vm}{outer:List Env}{s:wo}{H:Hp}{E:XK} :
  nE (fM (bX P w) P w K mg base N qual scope f cd A outer s H E) E:=λC0 pins σ H1 s1 e s' I h0 h=>by
 obtain⟨ex,C,H',B,fl,rfl,os,bare,un,ar,F,ov,q⟩:=h;exact zmu I rfl h0 os bare un ar F.st ov q λQ k=>F.NM (I.ok.frames.trans (congrArg some rfl)) rfl k
theorem gP.but{B:wK}{fs:List wd}{H H':Hp}{h:wK}{C0:wd}(ov:gP B fs H H' h)(hC:H' C0=none):gP (Vh B [C0]) (C0::fs) H H' h:=by
 have up:∀{b u},B.get? b=some u->b≠C0->(Vh B [C0]).get? b=some u:=λe n=>Qe _ e (by simpa using n)
 refine⟨λa o e=>?_,λb o e n nf=>?_,λb o e nf=>?_⟩
 ·obtain⟨u,hu⟩:=ov.ff a o e
  exact⟨u,up hu λz=>by rw[z,hC]at e;cases e⟩
 ·exact up (ov.old b o e n λz=>nf (wI _ z)) λz=>nf (by rw[z];exact vc)
 ·obtain⟨u,hu⟩:=ov.gO b o e λz=>nf (wI _ z)
  exact⟨u,up hu λz=>nf (by rw[z];exact vc)⟩
theorem Ul{h1 h2 h3 h4:wK}{C0:wd}(a:h1.UpToSlots h2)(b:vN C0 h2 h3)(c:h3.UpToSlots h4):∀x o,x≠C0->h1.get? x=some o->(∀vs,o.data≠.fields vs)->∃sl,h4.get? x=some {o with slots:=sl}:=λx o n e nf=>by
 obtain⟨sl,e2⟩:=a x o e nf;have e3:=(b.2 x n).trans e2;obtain⟨sl2,e4⟩:=c x _ e3 nf;exact⟨sl2,e4⟩
section
variable{X:Cx}{pins pinsY:List (wd × Obj)}{σ σ':St}{H1 H₀ : Hp}{s1 s2 s₀ : wo}{N':List Str}{scope:Scope}{cl:List (Str × wd)}{C0:wd}{fp:List wd}{E:XK}{e:wg}{use:Option (wg->Sem Unit)}{Q:wg->wo->Prop}{acc:wg}
theorem Yp(hx:X.ex=[])(hs:X.stack=X.env::X.outer)(hf:X.env.frame=some X.env.locals)(px:nE X E)(J:Inv (bP X N' scope cl C0 s₀ H₀ fp pins) pinsY σ' H1 s1)(I:Inv X pins σ H1 s1)(hC:cD X pins H1 C0)
  (h:bX X.prog X.w X.stack H1 s1 E e s2):notedBy (model X.prog X.w) X.A (compEnvC scope cl C0 X.env) (λx s'=>compPost (model X.prog X.w) X.A X.xe use Q acc C0 (.error x) s') e s2:=by
 obtain⟨ex,C,H',B,rfl,os,bare,un,ar,F,ov,q⟩:=h;obtain⟨m,⟨o,es,ep,eo,d1,d2,d3⟩,_⟩:=J.loc;have eo:s1.heap.get? C0=some o:=eo;obtain⟨c0,c1,c2,c3,_,_⟩:=hC;have nfr:C0 ∉ bt X.stack:=λz=>(wO.mp (I.iN C0 z)).elim c1 c2
 have hB:B.get? C0=some o:=ov.old C0 o eo c0 nfr;have hH':H' C0=none:=un.free C0 o eo c0 (by simp)
 have h0:X.s₀.heap.objs.size<=C0:=by
  rcases c3 with z | z
  ·rw[hx]at z;cases z
  ·exact z
 have ov':=ov.but (C0:=C0) hH';unfold notedBy;rw[zr8 (env:=X.env) (env':=compEnvC scope cl C0 X.env) rfl];rw[hs]at F;refine F.Fq (I.ok.frames.trans (congrArg some hs)) hf λh3 F3 sm3=>?_
 rw[<- hs]at F3;refine⟨m,⟨o,es,ep,F3.st C0 o hB,d1,d2,d3⟩,λh4 sb cenv hc=>?_⟩;have F4:=F3.but hB sb;refine bJ.NT (s:={s2 with heap:=h4}) F4 λh5 fl5 F5 sm5=>?_
 have hfs:∀b∈bt X.stack,H1 b=none /\ ∃o,s1.heap.get? b=some o /\ ∀vs,o.data≠.fields vs:=λb hb=>⟨I.mh b hb,(I.stack.mem hb).2⟩
 have slot:∀b o,s1.heap.get? b=some o->b∈bt X.stack->∃sl,h5.get? b=some {o with slots:=sl}:=λb o e hb=>by
  obtain⟨n,o',ho',nr⟩:=hfs b hb;rw[e]at ho';cases ho';obtain⟨sl,e1⟩:=un.any e n (by simp);obtain⟨sl2,e2⟩:=Ul sm3 sb sm5 b _ (λz=>nfr (z ▸ hb)) e1 nr;exact⟨sl2,e2⟩
 refine px C0 pins σ H1 s1 _ _ I h0 ⟨ex,C,H',_,fl5,rfl,os,bare,⟨λb o e n nf nc=>F5.st b o (ov'.old b o e n λz=>(wO.mp z).elim (λr=>nc (vx.mpr r)) nf),λb o e _ hb _=>slot b o e hb,λb o e n _=>un.free b o e n (by simp),λb o e nc=>?_,un.eG,un.dW,un.eH⟩,ov'.ar ar (λb o r=>F.st b o (VR _ r)) F5.st,F5,ov',q⟩
 by_cases hb:b∈bt X.stack
 ·obtain⟨sl,e1⟩:=slot b o e hb
  exact⟨_,e1⟩
 ·obtain⟨u,e1⟩:=ov'.gO b o e λz=>(wO.mp z).elim (λr=>nc (vx.mpr r)) hb
  exact⟨u,F5.st b u e1⟩
end
section
variable{prog:wV}{w:wR}{A:vm}{R:Result->wo->Prop}{s:wo}
theorem zkz{elt target iter:Expr}{ifs:List Expr}{scope:Scope}{pos:Pos}{it acc:wg}{env:Env}(I:Nat->wo->Prop)
   (turn:∀n s,I n s->wA (model prog w) A (pyNext it) (λr s₁=>match r with
     | none=>R (.ok .next) s₁
     | some v=>wA (model prog w) A (VW target it v) (λ_ s₁'=>wA (model prog w) A (assign target env v) (λ_ s₂ =>
         wA (model prog w) A (forIn ifs true λc r=>if r=true then do let ok <- isTrue c env (eval c env);pure (ForInStep.yield ok)else pure (ForInStep.yield r)) (λok s₃ =>
           if ok=true then wA (model prog w) A (eval elt env) (λx s₄ =>
             wA (model prog w) A (call (.builtin "list.append") [acc,x]) (λ_ s₅=>∃m,m<n/\I m s₅) (λ_ _=>False) s₄) (notedBy (model prog w) A env λe s'=>R (.error e) s') s₃
           else ∃m,m<n/\I m s₃) (λ_ _=>False) s₂) (λ_ _=>False) s₁') (λ_ _=>False) s₁) (λ_ _=>False) s)
   (n:Nat) (h:I n s):VQ (model prog w) A (.compLoop (.ListComp elt [⟨target,iter,ifs,0⟩] scope pos) 0 it acc env) R s:=by
 refine codeAny_loop rfl I (λn s hI=>?_) n h
 show wA _ A ((compTurn (.ListComp elt [⟨target,iter,ifs,0⟩] scope pos) 0 it acc env).onRaise (λx=>do Vx x env;theTreesLotGoes x)) _ _ s
 refine wpAny_noted ?_;rw[compTurn_list];refine wj (wpAny_standAt (wj (vU (turn n s hI) (λr s₁ h₁=>?_) λ_ _ h'=>h'.elim)));cases r with
 | none=>exact wz h₁
 | some v =>
   refine wj (vU h₁ (λ_ s₁' h₁'=>?_) λ_ _ h'=>h'.elim);refine wj (vU h₁' (λ_ s₂ h₂=>wj (vU h₂ (λok s₃ h₃=>?_) λ_ _ h'=>h'.elim)) λ_ _ h'=>h'.elim);cases ok with
   | false=>exact wz ⟨rfl,h₃⟩
   | true=>exact wj (wj (vU h₃ (λx s₄ h₄=>wj (vU h₄ (λ_ s₅ h₅=>wz (wz ⟨rfl,h₅⟩)) λ_ _ h'=>h'.elim)) λ_ _ h'=>h'))
end
section
variable{X:Cx}{pins:List (wd × Obj)}{σ : St}{H:Hp}{s:wo}{N':List Str}{scope:Scope}{cl:List (Str × wd)}{src:List (Option Nat)}{elt tgt iter:Expr}{ifs:List Expr}{pos:Pos}{wi:TI}{g:TG}{tt:TT}{te:TE}{E:XK}
theorem HL{it:wd}{fp:List wd}{tn:Nat->wK->Prop}{J:It}{RQ:wd->Hp->Prop}{E0':wg->wo->Prop}{E:XK}{use:Option (wg->Sem Unit)}{Q':wg->wo->Prop}
   (hx:X.ex=[]) (hs:X.stack=X.env::X.outer) (hfm:X.env.frame=some X.env.locals) (px:nE X E)
   (TC:∀C s₀ H₀,zH (bP X N' scope cl C s₀ H₀ fp pins) tgt J fp it tn) (ok:bU X N' scope cl src)
   (hg:∀C s₀ H₀ fp pins,PG (bP X N' scope cl C s₀ H₀ fp pins) tgt g) (ht:∀C s₀ H₀ fp pins,j8 (bP X N' scope cl C s₀ H₀ fp pins) ifs tt) (he:∀C s₀ H₀ fp pins pn E',jd (bX X.prog X.w) ((bP X N' scope cl C s₀ H₀ fp pins).at pn E') E->PE ((bP X N' scope cl C s₀ H₀ fp pins).at pn E') elt te)
   (I:Inv X pins σ H s) (T:ip X.prog X.w X.K tgt J fp it tn) (st:tn 0 s.heap) (hf:∀b∈fp,cD X pins H b)
   (rd:∀D,H D=none->iV g tt te J D (cJ src σ) (upd H D (.lst [])) (λH'=>RQ D H'))
   (hRR:∀D C H' s' m,Inv X pins σ H' s'->s'.heap.Ns C m->cD X pins H' C->RQ D H'->compPost (model X.prog X.w) X.A X.xe use Q' (.ref D) C (.ok .next) s') :
   wA (model X.prog X.w) X.A (newList []) (λacc s₃=>wA (model X.prog X.w) X.A (newFunctionEnv scope X.env.globals cl [] X.env.qual none .none (some X.env)) (λcenv s₄ =>
     VQ (model X.prog X.w) X.A (.compStart (.ListComp elt [⟨tgt,iter,ifs,0⟩] scope pos) 0 (.ref it) acc {cenv with scope:=relabel scope X.env}) (compPost (model X.prog X.w) X.A X.xe use Q' acc cenv.locals) s₄) E0' s₃) E0' s:=by
 -- the list
 refine Wz ?_ (by show 0<=wC;exact vM _);have hD:H s.heap.objs.size=none:=I.ar.fresh (wx _)
 have I3:Inv X pins σ (upd H s.heap.objs.size (.lst [])) {s with heap:=s.heap.push {cls:=.type "list",data:=.seq ([]:List wg).toArray}} :=
   I.oG (ys:=[]) (its:=[]) (t':=s.toks) .nil (vM _)
 have old3:∀b o,s.heap.get? b=some o->(s.heap.push {cls:=.type "list",data:=.seq ([]:List wg).toArray}).get? b=some o:=λb o e=>wk _ e
 have lt0:∀b∈fp,b<s.heap.objs.size:=λb hb=>by
   obtain⟨o,e,_⟩:=T.obj 0 _ st b hb;exact wH e
 have hf3:∀b∈fp,cD X pins (upd H s.heap.objs.size (.lst [])) b:=λb hb=>⟨by rw[b9 (wZ (lt0 b hb))];exact(hf b hb).1,(hf b hb).2⟩
 have lt3:∀b∈fp,b<(s.heap.push {cls:=.type "list",data:=.seq ([]:List wg).toArray}).objs.size:=λb hb=>by
   rw[vS];exact Vn (lt0 b hb)
 have st3:tn 0 (s.heap.push {cls:=.type "list",data:=.seq ([]:List wg).toArray}):=T.keep _ _ _ st λb _ o e=>old3 b o e
 obtain⟨W,⟨m0,w0⟩,turn⟩:=rd _ hD;generalize hs3:({s with heap:=s.heap.push {cls:=.type "list",data:=.seq ([]:List wg).toArray}} : wo)=s3 at I3 ⊢;have hh3:s3.heap=s.heap.push {cls:=.type "list",data:=.seq ([]:List wg).toArray}:=by rw[<- hs3]
 rw[<- hh3]at lt3 st3;clear old3 hs3 hh3;generalize hD':s.heap.objs.size=D at *
 -- the block's dict
 refine wpAny_newFunctionEnv ok.cell (by intro y hy;cases hy) (λh₁ hns₁ hsb₁=>?_) ok.kind;have old:∀b o,s3.heap.get? b=some o->h₁.get? b=some o:=λb o e=>hsb₁.extBut b o (wZ (wH e)) (wk _ e)
 have hC:cD X pins (upd H D (.lst [])) s3.heap.objs.size:=I3.iO (wx _) (I3.ar.fresh (wx _))
 have IB:∀tk,Inv (bP X N' scope cl s3.heap.objs.size s3 (upd H D (.lst [])) fp pins) [] (cJ src σ) (upd H D (.lst [])) {s3 with heap:=h₁,toks:=tk}:=λtk =>
   I3.block ok.kind ok.gn ok.Fv hf3 lt3 hns₁ old ok.FE
 have stB:tn 0 h₁:=T.keep _ _ _ st3 λb _ o e=>old b o e
 -- what is true of the iterator's records within
 have stat:∀{H':Hp} ,(∀b∈fp,H' b=none)->∀b∈fp,cD (bP X N' scope cl s3.heap.objs.size s3 (upd H D (.lst [])) fp pins) [] H' b:=λhn b hb=>by
   obtain⟨_,f1,f2,f3,f4,f5⟩:=hf3 b hb;refine⟨hn b hb,wZ (lt3 b hb),λz=>(wO.mp (I3.iN b z)).elim f1 f2,.inl hb,λx c e=>f4 x c (ok.gn.sub x c e),λp hp=>?_⟩;have hp':p∈(X.pn++pins)++[]:=hp;rw[WC]at hp';exact f5 p hp'
 -- from within back to the frame around
 have back:∀{σ':St}{H':Hp}{s':wo},Inv (bP X N' scope cl s3.heap.objs.size s3 (upd H D (.lst [])) fp pins) [] σ' H' s'->Inv X pins σ H' s'/\(∃m,s'.heap.Ns s3.heap.objs.size m)/\cD X pins H' s3.heap.objs.size:=λ{σ' H' s'} J=>by
   obtain⟨m,hn,_⟩:=J.loc;refine⟨I3.yU (ch:=fp) J.os J.base J.ar J.bare (λb hb=>?_),⟨m,hn⟩,⟨J.free,hC.2⟩⟩;obtain⟨_,f1,_,f3,f4,f5⟩:=hf3 b hb;exact⟨f3,f1,f4,f5⟩
 have loop:∀tk,VQ (model X.prog X.w) X.A (.compLoop (.ListComp elt [⟨tgt,iter,ifs,0⟩] scope pos) 0 (.ref it) (.ref D) (compEnvC scope cl s3.heap.objs.size X.env)) (compPost (model X.prog X.w) X.A X.xe use Q' (.ref D) s3.heap.objs.size) {s3 with heap:=h₁,toks:=tk}:=by
   intro tk
   refine zkz (λn s'=>∃i σ' H',Inv (bP X N' scope cl s3.heap.objs.size s3 (upd H D (.lst [])) fp pins) [] σ' H' s'/\tn i s'.heap/\(∀b∈fp,H' b=none)/\W i n σ' H') ?_ m0
     ⟨0,_,_,IB tk,stB,λb hb=>(hf3 b hb).1,w0⟩
   rintro n s4 ⟨i,σ4,H4,I4,st4,fr4,w4⟩;rcases turn i n σ4 H4 w4 with⟨stop,q⟩ | ⟨go,M,hM,step⟩
   . refine aq ((TC _ _ _).done i [] s4 σ4 H4 (λ_ _=>False) I4 (stat fr4) st4 stop) λr s5 ⟨hr,I5⟩=>?_
     subst hr;obtain⟨J,⟨m,hn⟩,hCf⟩:=back I5;exact hRR D _ H4 s5 m J hn hCf q
   . refine aq ((TC _ _ _).item i [] s4 σ4 H4 (λ_ _=>False) I4 (stat fr4) st4 go) λr s5 ⟨u,hr,h5⟩=>?_
     subst hr;refine aq h5 λ_ s6 ⟨x,H6,I6,r6,y6,st6,fr6⟩=>?_
     have I6':=I6.pinned (stat fr6) (T.obj _ _ st6)
     have again:∀{σ7:St}{H7:Hp}{s7:wo},Inv (bP X N' scope cl s3.heap.objs.size s3 (upd H D (.lst [])) fp pins) ([]++lI fp s6.heap) σ7 H7 s7->M σ7 H7 ->
         ∃m,m<n /\ ∃i σ' H',Inv (bP X N' scope cl s3.heap.objs.size s3 (upd H D (.lst [])) fp pins) [] σ' H' s7/\tn i s7.heap/\(∀b∈fp,H' b=none)/\W i m σ' H':=λ{σ7 H7 s7} I7 n7=>by
       obtain⟨m',hm,w7⟩:=hM σ7 H7 n7;refine⟨m',hm,i+1,σ7,H7,I7.kA,T.keep _ _ _ st6 λb hb o e=>(I7.pin (b,o) (vv _ (vv _ (kI hb e)))).1,λb hb=>?_,w7⟩;obtain⟨o,e,d⟩:=T.obj _ _ st6 b hb;exact(I7.pin (b,o) (vv _ (vv _ (kI hb e)))).2.1
     refine aq (hg _ _ _ _ _ _ s6 σ4 H6 x u _ I6' r6 (step x H6 y6)) λ_ s7 ⟨σ7,H7,I7,q7⟩=>?_
     refine aq (ht _ _ _ _ _ _ s7 σ7 H7 _ I7 q7) λk s8 ⟨H8,I8,q8⟩=>?_
     cases k with
     | false=>exact again I8 q8
     | true =>
       rw[if_pos rfl]at q8 ⊢;refine vU (he _ _ _ _ _ _ _ (λpins9 σ9 H9 s9 e9 s9' I9 h9=>?_) [] s8 σ7 H8 _ (I8.Fs (notedBy (model X.prog X.w) X.A (compEnvC scope cl s3.heap.objs.size X.env) λe s'=>compPost (model X.prog X.w) X.A X.xe use Q' (.ref D) s3.heap.objs.size (.error e) s')) q8) (λy s9 ⟨yv,H9,I9,r9,ys,hys,hz,q9⟩=>?_) λ_ _ z=>z
       . have I9:=I9.jX
         obtain⟨J9,_,hC9⟩:=back I9.kA;exact Yp hx hs hfm px I9 J9 hC9 h9
       have I9:=I9.jX;exact aq (zS _ s9 σ7 H9 (.ref D) [yv] (.ref D) [y] (λ_ H'=>M σ7 H') I9 rfl (.cons r9 .nil) ⟨D,ys,yv,rfl,rfl,hys,hz,q9⟩) λ_ s10 ⟨_,H10,I10,_,q10⟩=>again I10 q10
 exact codeAny_compStart_list (loop _) (T.self _ _ _ _ _ stB (loop _))
theorem To(hx:X.ex=[])(hst:X.stack=X.env::X.outer)(hfm:X.env.frame=some X.env.locals)(px:nE X E)(hc:X.calm=true)(ok:bU X N' scope cl src)(hi:PI X tgt iter wi)
  (hg:∀C s₀ H₀ fp pins,PG (bP X N' scope cl C s₀ H₀ fp pins) tgt g) (ht:∀C s₀ H₀ fp pins,j8 (bP X N' scope cl C s₀ H₀ fp pins) ifs tt) (he:∀C s₀ H₀ fp pins pn E',jd (bX X.prog X.w) ((bP X N' scope cl C s₀ H₀ fp pins).at pn E') E->PE ((bP X N' scope cl C s₀ H₀ fp pins).at pn E') elt te)
  (hs:∀x,V7 iter X.env x=pure x:=by intro _;rfl):PE X (.ListComp elt [⟨tgt,iter,ifs,0⟩] scope pos) (jG src wi g tt te):=by
 intro pins s σ H Q I h;rw[eval_ListComp];refine qA (use:=none) rfl hs ok.gn.gn ok.kind ok.names (aq (hi pins s σ H _ I h) λv s1 h1=>aq h1 λitv s2 h2=>?_);obtain⟨it,fp,tn,J,H2,e,I2,T,st2,f2,rd⟩:=h2;subst e;refine HL (RQ:=λD H'=>Q (.ref D) H') (use:=none) (Q':=EP X pins σ Q) hx hst hfm px (λ_ _ _=>T.A5 rfl rfl rfl hc) ok hg ht he I2 T st2 f2 rd ?_;intro D C H' s' m J hn hC q;obtain⟨c0,c1,_,c3,c4,c5⟩:=hC;exact⟨m,hn,λh' sb=>⟨.ref D,H',J.turned (t':=s'.toks) (λb o hb e=>(sb.2 b hb).trans e) c0 c1 c3 c4 c5,rfl,q⟩⟩
theorem Yh{i:Nat}{y:Str}{py spos:Pos}(hN:X.N.Nodup)(hy:X.N[i]? = some y)(hly:Loc X.env.scope y)(hx:X.ex=[])(hst:X.stack=X.env::X.outer)(hfm:X.env.frame=some X.env.locals)(px:nE X E)(hc:X.calm=true)(ok:bU X N' scope cl src)(hi:PI X tgt iter wi)
  (hg:∀C s₀ H₀ fp pins,PG (bP X N' scope cl C s₀ H₀ fp pins) tgt g) (ht:∀C s₀ H₀ fp pins,j8 (bP X N' scope cl C s₀ H₀ fp pins) ifs tt) (he:∀C s₀ H₀ fp pins pn E',jd (bX X.prog X.w) ((bP X N' scope cl C s₀ H₀ fp pins).at pn E') E->PE ((bP X N' scope cl C s₀ H₀ fp pins).at pn E') elt te)
  (hsw:swapsWith (.ListComp elt [⟨tgt,iter,ifs,0⟩] scope pos) (some (.Name y py)) spos.line X.env=pure true:=by rfl)
  (hs:∀x,V7 iter X.env x=pure x:=by intro _;rfl) (hf:X.fn y=true\/X.env.scope.names.lookup y=some .local:=by first | exact .inl rfl | exact .inr rfl | assumption) :
  PS X (.Assign [.Name y py] (.ListComp elt [⟨tgt,iter,ifs,0⟩] scope pos) spos) (jo (jG src wi g tt te) (fg i)):=by
 intro pins s σ H D0 I h;rw[exec_Assign_Name_used _ _ _ _ hsw];refine wj (wpAny_standAt (wj ?_))
 show wA _ X.A (do let _ <- comprehension (.ListComp elt [⟨tgt,iter,ifs,0⟩] scope pos) scope X.env _ (newList []) false (eval iter X.env) (some (assign (.Name y py) X.env))) _ _ s
 refine wj (vU (qA (Q:=λ_ s'=>SP X pins D0 .next s') rfl hs ok.gn.gn ok.kind ok.names (aq (hi pins s σ H _ I h) λv s1 h1=>aq h1 λitv s2 h2=>?_))
  (λ_ s' hq=>wz (wz hq)) λ_ _ e=>e)
 obtain⟨it,fp,tn,J,H2,e,I2,T,st2,f2,rd⟩:=h2;subst e;refine HL (RQ:=λD H'=>fg i (.ref D) σ H' D0.nx) (use:=some (assign (.Name y py) X.env)) (Q':=λ_ s'=>SP X pins D0 .next s') hx hst hfm px (λ_ _ _=>T.A5 rfl rfl rfl hc) ok hg ht he I2 T st2 f2 rd ?_;intro D C H' s' m J hn hC q;obtain⟨c0,c1,_,c3,c4,c5⟩:=hC
 show wA _ _ (assign (.Name y py) X.env (.ref D)) _ _ s'
 refine wpAny_assign_Name (G0 J hN hy hly (v:=.ref D) rfl (λs'' J2 ⟨a,sb,ha⟩=>?_) hf)
 have hCa:C≠a:=by
  rcases ha with z | z
  ·rw[z];exact c1
  ·exact(c4 y a z).symm
 exact⟨m,hn.sameBut sb hCa,λh' sb'=>⟨_,H',J2.turned (t':=s''.toks) (λb o hb e=>(sb'.2 b hb).trans e) c0 c1 c3 c4 c5,q⟩⟩
end
section
variable{prog:wV}{w:wR}{A:vm}{R:Result->wo->Prop}{I:wd}{fp wr:List wd}{n:Nat}{P:Nat->wg->Prop}{St:Nat->wK->Prop}
open PyProof.V PySem.Calls in
theorem ZE(f:Nat->Bool)(W:Walks prog w A.in1 I fp wr n P St)(s0:wo)
  (tr:∀i v (s:wo) (Q:Bool->wo->Prop) (E:wg->wo->Prop),P i v->(∀b o,b ∉ wr->s0.heap.get? b=some o->s.heap.get? b=some o)->(∀tk,Q (f i) {s with toks:=tk})->wA (model prog w) A.in1 (truthy v) Q E s)
  (done:∀h' tk,(∀b o,b ∉ wr->s0.heap.get? b=some o->h'.get? b=some o)->R (.ok (.ret (.bool ((vf n).all f)))) {s0 with heap:=h',toks:=tk}) :
  ∀(k i:Nat)(h:wK)(tk),n-i=k->i<=n->(∀j,j<i->f j=true)->St i h->(∀b o,b ∉ wr->s0.heap.get? b=some o->h.get? b=some o) ->
   VQ (model prog w) A (.builtin "all.loop" ⟨[.ref I],[]⟩) R {s0 with heap:=h,toks:=tk}:=by
 intro k
 induction k with
 | zero =>
  intro i h tk hk hi hj hst kp;obtain rfl:i=n:=by omega
  refine W6 X8 ?_;rw[WL qS _]
  show wA _ A.in1 (pyNext (.ref I) >>= _) _ _ _
  refine wj (W.done _ _ _ hst λh' tk' hk'=>?_);have ea:(vf i).all f=true:=wv.mpr λj h=>hj j (vy.mp h)
  rw[ea]at done;exact wj (wpAny_rule (wz (done h' tk' λb o hb e=>hk' b o hb (kp b o hb e))))
 | succ k ih =>
  intro i h tk hk hi hj hst kp;have hlt:i<n:=by omega
  refine W6 X8 ?_;rw[WL qS _]
  show wA _ A.in1 (pyNext (.ref I) >>= _) _ _ _
  refine wj (W.item i _ _ _ hlt hst λv h' tk' hP hst' hk'=>?_);have kp':∀b o,b ∉ wr->s0.heap.get? b=some o->h'.get? b=some o:=λb o hb e=>hk' b o hb (kp b o hb e)
  refine wj (Wa (tr i v _ _ _ hP kp' λtk2=>?_));refine wj (wpAny_letGo ?_);cases hf:f i with
  | true =>
   simp only[if_true];refine wz ⟨plainId_quiet qS _,ih (i+1) h' _ (by omega) hlt (λj h=>?_) hst' kp'⟩;rcases w9 j i with h' | h'
   ·exact hj j h'
   ·rw[show j=i by omega];exact hf
  | false =>
   have ea:(vf n).all f=false:=by
    cases hh:(vf n).all f with
    | false=>rfl
    | true=>rw[wv.mp hh i (vy.mpr hlt)]at hf;cases hf
   rw[ea]at done;simp only[w8,if_false];exact wj (wpAny_rule (wz (done h' tk2 kp')))
end
def Aq(K:wa):List V->Hp->VK->Prop:=λxs H Q=>∃(p:wd)(as:List wd)(fs:List Bool),xs=[.ref p]/\aN K H p (as.map V.ref)/\fs.length=as.length/\(∀(i:Nat)(a:wd),as[i]? = some a->∃ys,aP K H a ys/\fs[i]? = some (!ys.isEmpty))/\Q (.bl (fs.all id)) H
open PyProof.V PySem.Calls in
theorem Uu{X:Cx}(hc:X.calm=true):ao X (.builtin "all") (Aq X.K):=by
 intro pins s σ H xs us Q I r h;obtain⟨p,as,fs,rfl,hq,hfl,ht,q⟩:=h;obtain⟨u,rfl,rx⟩:=gi r;cases rx;obtain⟨its,r',pl,hz⟩:=I.list hq;have hi:its=as.map Value.ref:=YV r';have hl:s.heap.IsList p its.toArray:=pl.isList;have hlt:p<s.heap.objs.size:=by obtain⟨_,e,_⟩:=hl;exact wH e
 refine call_function_tree F.kind_all F.plain_all F.entry_all (F.args_all1 _) ?_;unfold Builtin.«all»;refine wj (m:=oneArg "all" _) (wz ?_);refine wj (W8 hl ?_);refine wz ⟨plainId_quiet qS _,?_⟩;refine ZE (λi=>fs.getD i false) (um (A:=X.A.in1) (I.ok.hd hc) _ p (wZ hlt) its.toArray) _ (λi v s' Q' E' hP kp hQ=>?_) (λh' tk hk=>?_) _ 0 _ _ rfl (vM _) (λj h=>absurd h (Wn _)) ⟨⟨_,wE _ rfl,rfl,rfl⟩,hl.push _⟩ (λb o _ e=>wk _ e)
 ·have hP:its.toArray[i]? = some v:=hP
  rw[hi]at hP;simp only[xI,wB,vA]at hP;obtain⟨a,e,rfl⟩:=hP;obtain⟨ys,sy,ne⟩:=ht i a e;obtain⟨ts,r2,⟨o,e2,e3⟩,z2⟩:=I.tuple sy;have hlen:=r2.length;have e4:s'.heap.get? a=some o:=kp a o (λhm=>by rw[vx.mp hm]at e2;exact WW _ (wH e2)) e2;rw[vB]at z2;refine truthy_tuple ⟨o,e4,e3⟩ (by simp only[wN];omega) ?_;rw[Ak r2];rw[show fs.getD i false = !ys.isEmpty by rw[wf,ne];rfl]at hQ;exact hQ _
 ·have ea:((vf its.toArray.size).all λi=>fs.getD i false)=fs.all id:=by
   rw[hi,wN,wm,<- hfl];have em:(vf fs.length).map (λi=>fs.getD i false)=fs:=vF (by simp) λi h1 h2=>by simp[wf,wb h2]
   rw[<- em,vW];rw[em]
   rfl
  rw[ea];exact⟨.bl (fs.all id),H,I.kept (t':=tk) (λb x e=>hk b x (λhm=>by rw[vx.mp hm]at e;exact WW _ (wH e)) e),rfl,q⟩
theorem ZU{K:wa}{H:Hp}{Q:VK}{v:V}{rows:List (List Int)}(h:Is K H v (.list (rows.map TZ)))(q:Q (.bl (rows.all λr=>!r.isEmpty)) H):Aq K [v] H Q:=by
 obtain⟨p,xs,rfl,sl,tx⟩:=bO.mp h
 have f:∀y∈xs,∃b,y=V.ref b:=λy hy=>by
  obtain⟨j,hj,rfl⟩:=Qc.mp hy;obtain⟨hj2,ij⟩:=dz tx (wb hj);rw[wm]at hj2;rw[wf,wB,wb hj2]at ij;obtain⟨b,e,_⟩:=jI.mp (show Is K H xs[j] (TZ rows[j])from ij);exact⟨b,e⟩
 have g:∀(xs:List V),(∀y∈xs,∃b,y=V.ref b)->∃as:List wd,xs=as.map V.ref:=λxs=>by
  induction xs with
  | nil=>exact λ_=>⟨[],rfl⟩
  | cons y r ih =>
   intro h;obtain⟨b,rfl⟩:=h y (by simp);obtain⟨as,rfl⟩:=ih λz hz=>h z (wI _ hz)
   exact⟨b::as,rfl⟩
 obtain⟨as,rfl⟩:=g xs f;have hl:=tx.length;rw[wm,wm]at hl;refine⟨p,as,rows.map λr=>!r.isEmpty,rfl,sl,by rw[wm];omega,λi a ha=>?_,by rw[vW];exact q⟩;obtain⟨hj2,ij⟩:=dz tx (show(as.map V.ref)[i]? = some (.ref a) by rw[wB,ha];rfl);rw[wm]at hj2;rw[wf,wB,wb hj2]at ij;obtain⟨b,e,sb⟩:=jI.mp (show Is K H (.ref a) (TZ rows[i])from ij);cases e;refine⟨_,sb,?_⟩;rw[wB,wb hj2];simp
def z6(fs:List (wd × Sp))(W:St->XK)(i:Nat)(t:TA):TE:=λσ H Q=>∃f sp,(f,sp)∈fs /\ σ[i]? = some (some (.ref f))/\t σ H λvs H1=>sp vs H1 Q (W σ)
section
variable{X:Cx}{CX:dR}{W:St->XK}{x:Str}{p pos:Pos}{e:Expr}{es:List Expr}{t:TA}{i:Nat}{fs:List (wd × Sp)}
theorem UB(hN:X.N[i]? = some x)(hv:pV X.env.scope x)(hF:∀f sp,(f,sp)∈fs->∃k fd ps,aK X.prog X.w X.K X.mg X.base CX k f fd ps sp/\cO k X.A/\Vy X.K (.ref f)=true/\iR X.K fd ps [])(hx:Iu CX X W)
  (ha:PA X (e::es) t) (hdb:(x == ("__debug__" : Str))=false:=by decide) (hcd:(x == ("__classdict__" : Str))=false:=by decide) (he:w5 (e::es) X.env=(false,eval e X.env)::w5 es X.env:=by rfl) (hpl:(Vr pos (w5 es X.env)).any (·.1)=false:=by rfl) :
  PE X (.Call (.Name x p) (e::es) [] pos) (z6 fs W i t):=by
 rintro pins s σ H Q I ⟨f,sp,hm,hi,h⟩;obtain⟨k,fd,ps,F,hr,hk,hb⟩:=hF f sp hm;refine qz (vU (FJ hN hv hdb hcd pins s σ H (λv H'=>v=.ref f/\H'=H) I ⟨_,hi,rfl,rfl⟩) (λu s0 ⟨v,H0,I0,r0,e1,e2⟩=>?_) λ_ _ z=>z);subst e1 e2;obtain rfl:u=.ref f:=r0;refine Xf (h₀:=X.base) I0.ok.mod.mV hk (aq (ha pos pins s0 σ H0 _ I0 h) λus s1 ⟨vs,H1,I1,r,q⟩=>⟨I1.cq,?_⟩) he hpl;have hl:us.length=ps.length:=by rw[<- r.length];exact F.len _ _ _ _ q
 have hbd:BindsTo s1 fd ⟨us,[]⟩ (ps.zip us):=by simpa using hb s1 us I1.cq (by simpa using hl)
 refine wpAny_call (codeAny_mono (F.run X.A X.stack s1 H1 ⟨us,[]⟩ us vs Q (W σ) hr I1.Fu hbd r q) λr s' hq=>?_);cases r with
 | error e=>exact hx pins σ H1 s1 e s' I1 hq
 | ok fl =>
  cases fl with
  | ret u=>exact I1.after hq
  | next=>exact WX hq
  | brk=>exact WX hq
  | cont=>exact WX hq
def yX(X:Cx)(CX:dR)(fs:List (wd × Sp)):Prop:=∀f sp,(f,sp)∈fs->∃k fd ps,aK X.prog X.w X.K X.mg X.base CX k f fd ps sp/\cO k X.A/\Vy X.K (.ref f)=true/\iR X.K fd ps []
theorem SV:yX X CX []:=λ_ _ h=>nomatch h
theorem zM{k:Nat}{f:wd}{fd:wS}{ps:List Str}{sp:Sp}(F:aK X.prog X.w X.K X.mg X.base CX k f fd ps sp)(hr:cO k X.A)(hk:Vy X.K (.ref f)=true)(hb:iR X.K fd ps [])(r:yX X CX fs):yX X CX ((f,sp)::fs):=λg sp' h=>by
 rcases wO.mp h with h | h
 ·cases h;exact⟨k,fd,ps,F,hr,hk,hb⟩
 ·exact r g sp' h
theorem Pp{σ : St}{H:Hp}{Q:VK}(f:wd)(sp:Sp)(hm:(f,sp)∈fs)(hi : σ[i]? = some (some (.ref f)))(h:t σ H λvs H1=>sp vs H1 Q (W σ)):z6 fs W i t σ H Q:=⟨f,sp,hm,hi,h⟩
end
theorem Cg{M:Model}{Γ : uF}{p:Pos}{t:Sem Xn}{fs:List Frame}{s s':wo}{e:End}(h:Runs M Γ p t fs s e s'):s.toks<=s'.toks:=by
 induction h with
 | done | raise | yield=>exact wx _
 | fresh _ ih=>exact Nat.le_of_succ_le ih
 | call _ _ i1 i2=>exact vd i1 i2
 | resumeFresh _ _ _ _ i1 i2=>exact vd i1 i2
 | resumeSuspended _ _ _ _ i1 i2=>exact vd i1 i2
 | segRet _ _ i1 i2=>exact vd i1 i2
 | segGen _ _ i1 i2=>exact vd i1 i2
 | segSuspGen _ _ _ _ i1 i2=>exact vd i1 i2
 | _=>assumption
theorem zoz{M:Model}{Γ : uF}{p:Pos}{g:Nat}{r:Resume}{s s':wo}{res:GenResult}(h:Wakes M Γ p g r s res s'):s.toks<=s'.toks:=by
 unfold Wakes at h
 split at h
 ·exact h.elim
 ·split at h
  ·obtain⟨_,s1,h1,_,_,rfl⟩:=h;have z:=Cg h1;exact z
  ·rw[h.2];exact wx _
  ·rw[h.2];exact wx _
 ·obtain⟨_,s1,h1,_,_,rfl⟩:=h;have z:=Cg h1;exact z
 ·rw[h.2];exact wx _
 ·rw[h.2];exact wx _
theorem PU{α : Type}{M:Model}{Γ : uF}(k:Nat){Q : α -> Pos->wo->Prop}{E:wg->Pos->wo->Prop}(t:Sem α):∀(p:Pos)(s:wo),k<=s.toks->Sem.wp M Γ t Q E p s->Sem.wp M Γ t (λa p' s'=>Q a p' s'/\k<=s'.toks) (λa p' s'=>E a p' s'/\k<=s'.toks) p s:=by
 induction t with
 | pure x=>exact λp s hk h=>⟨h,hk⟩
 | raise v=>exact λp s hk h=>⟨h,hk⟩
 | unsupported | finish | yield | fork | await | register=>exact λp s hk h=>h
 | fresh k ih=>exact λp s hk h=>ih _ _ _ (Nat.le_succ_of_le hk) h
 | rule _ k ih | «at» _ k ih | alloc _ k ih | loadIfAlive _ k ih | point _ k ih | ask k ih | os _ _ k ih | handled _ k ih | newGen _ k ih | stack k ih | thread k ih=>exact λp s hk h=>ih _ _ _ hk h
 | load a _ k ih | genState a k ih=>exact λp s hk ⟨o,ho,h⟩=>⟨o,ho,ih _ _ _ hk h⟩
 | update a _ f k ih | choose _ _ k ih=>exact λp s hk ⟨ha,h⟩=>⟨ha,ih _ _ _ hk h⟩
 | call c h g l k ih=>exact λp s hk ⟨r,s',hr,h⟩=>⟨r,s',hr,ih _ _ _ (vd hk (Cg hr)) h⟩
 | resume g r l k ih=>exact λp s hk ⟨res,s',hw,h⟩=>⟨res,s',hw,ih _ _ _ (vd hk (zoz hw)) h⟩
theorem jD{α : Type}{M:Model}{A:vm}{Q : α -> wo->Prop}{E:wg->wo->Prop}{t:Sem α}{s:wo}(k:Nat)(hk:k<=s.toks)(h:wA M A t Q E s):wA M A t (λa s'=>Q a s'/\k<=s'.toks) E s :=
 λΓ p hΓ=>Sem.wp_mono M Γ t (λ_ _ _ h=>h) (λ_ _ _ h=>h.1) p s (PU k t p s hk (h Γ p hΓ))
section
variable{X:Cx}{e a b:Expr}{es:List Expr}{st:vq}{aO:List vq}{te ta tb:TE}{t:TA}{ts tr:TS}{pos:Pos}
def jh(X:Cx)(e:Expr)(t:TE):Prop:=∀(pins:List (wd × Obj))(s:wo)(σ : St)(H:Hp)(Q:VK),Inv X pins σ H s->1<=s.toks->t σ H Q->wA (model X.prog X.w) X.A (eval e X.env) (EP X pins σ Q) X.xe s
def lY(X:Cx)(e:Expr)(t:TE):Prop:=∀(pins:List (wd × Obj))(s:wo)(σ : St)(H:Hp)(Q:VK),Inv X pins σ H s->t σ H Q->wA (model X.prog X.w) X.A (eval e X.env) (λv s'=>EP X pins σ Q v s'/\1<=s'.toks) X.xe s
def yq(X:Cx)(es:List Expr)(t:TA):Prop:=∀(pos:Pos)(pins:List (wd × Obj))(s:wo)(σ : St)(H:Hp)(Q:List V->Hp->Prop),Inv X pins σ H s->1<=s.toks->t σ H Q->wA (model X.prog X.w) X.A (spliced (Vr pos (w5 es X.env))) (AP X pins σ Q) X.xe s
def G2(X:Cx)(es:List Expr)(t:TA):Prop:=∀(pos:Pos)(pins:List (wd × Obj))(s:wo)(σ : St)(H:Hp)(Q:List V->Hp->Prop),Inv X pins σ H s->t σ H Q->wA (model X.prog X.w) X.A (spliced (Vr pos (w5 es X.env))) (λv s'=>AP X pins σ Q v s'/\1<=s'.toks) X.xe s
def zf(X:Cx)(st:vq)(t:TS):Prop:=∀(pins:List (wd × Obj))(s:wo)(σ : St)(H:Hp)(D:ck),Inv X pins σ H s->1<=s.toks->t D σ H->wA (model X.prog X.w) X.A (exec st X.env) (SP X pins D) X.xe s
def JJ(X:Cx)(st:vq)(t:TS):Prop:=∀(pins:List (wd × Obj))(s:wo)(σ : St)(H:Hp)(D:ck),Inv X pins σ H s->t D σ H->wA (model X.prog X.w) X.A (exec st X.env) (λf s'=>SP X pins D f s'/\1<=s'.toks) X.xe s
def oI(X:Cx)(st:List vq)(t:TS):Prop:=∀(pins:List (wd × Obj))(s:wo)(σ : St)(H:Hp)(D:ck),Inv X pins σ H s->1<=s.toks->t D σ H->wA (model X.prog X.w) X.A (execs st X.env) (SP X pins D) X.xe s
theorem PE.p(h:PE X e te):jh X e te:=λpins s σ H Q I _ q=>h pins s σ H Q I q
theorem PA.p(h:PA X es t):yq X es t:=λpos pins s σ H Q I _ q=>h pos pins s σ H Q I q
theorem PS.p(h:PS X st ts):zf X st ts:=λpins s σ H D I _ q=>h pins s σ H D I q
theorem cV.p(h:cV X aO ts):oI X aO ts:=λpins s σ H D I _ q=>h pins s σ H D I q
theorem JN{x j pos} : lY X (.Constant (.str x) j pos) (tC (.str x)):=λ_ _ _ H _ I h=>W1 ⟨⟨.str x,H,I.tok _,⟨_,rfl⟩,h⟩,Nat.le_add_left _ _⟩
theorem lH{op:Operator}{r:R2}(ho:ax X (vT op) r)(ha:jh X a ta)(hb:jh X b tb):jh X (.BinOp a op b pos) (dD r ta tb):=by
 intro pins s σ H Q I k h;refine wpAny_BinOp (aq (jD 1 k (ha pins s σ H _ I k h)) λv s1 ⟨⟨x,H1,I1,r1,q1⟩,k1⟩=>?_);exact aq (hb pins s1 σ H1 _ I1 k1 q1) λu s2 ⟨y,H2,I2,r2,q2⟩=>ho pins s2 σ H2 x y v u Q I2 r1 r2 q2
theorem RY{op:Operator}{r:R2}(ho:ax X (vT op) r)(ha:PE X a ta)(hb:lY X b tb):lY X (.BinOp a op b pos) (dD r ta tb):=by
 intro pins s σ H Q I h;refine wpAny_BinOp (aq (ha pins s σ H _ I h) λv s1 ⟨x,H1,I1,r1,q1⟩=>?_);exact aq (hb pins s1 σ H1 _ I1 q1) λu s2 ⟨⟨y,H2,I2,r2,q2⟩,k2⟩=>jD 1 k2 (ho pins s2 σ H2 x y v u Q I2 r1 r2 q2)
theorem iq(ha:jh X e te)(hr:yq X es t)(hs:w5 (e::es) X.env=(false,eval e X.env)::w5 es X.env:=by rfl):yq X (e::es) (gk te t):=by
 intro pos pins s σ H Q I k h;rw[hs]
 show wA _ _ (spliced ((false,eval e X.env)::Vr pos (w5 es X.env))) _ _ s
 refine WF (aq (jD 1 k (ha pins s σ H _ I k h)) λu s1 ⟨⟨x,H1,I1,r1,q1⟩,k1⟩=>?_);exact aq (hr pos pins s1 σ H1 _ I1 k1 q1) λus s2 ⟨xs,H2,I2,r2,q2⟩=>⟨x::xs,H2,I2,.cons r1 r2,q2⟩
theorem L7(ha:lY X e te)(hr:PA X es t)(hs:w5 (e::es) X.env=(false,eval e X.env)::w5 es X.env:=by rfl):G2 X (e::es) (gk te t):=by
 intro pos pins s σ H Q I h;rw[hs]
 show wA _ _ (spliced ((false,eval e X.env)::Vr pos (w5 es X.env))) _ _ s
 refine WF (aq (ha pins s σ H _ I h) λu s1 ⟨⟨x,H1,I1,r1,q1⟩,k1⟩=>?_);exact aq (jD 1 k1 (hr pos pins s1 σ H1 _ I1 q1)) λus s2 ⟨⟨xs,H2,I2,r2,q2⟩,k2⟩=>⟨⟨x::xs,H2,I2,.cons r1 r2,q2⟩,k2⟩
theorem JW{pins:List (wd × Obj)}{σ : St}{H1:Hp}{s1:wo}{xs:List V}{us:List wg}{Q:VK}(I1:Inv X pins σ H1 s1)(r:aC xs us)(z:xs.length<=wC)(q:∀p,H1 p=none->Q (.ref p) (upd H1 p (.lst xs))) :
  us.length<=wC/\EP X pins σ Q (.ref s1.heap.objs.size) {s1 with heap:=s1.heap.push {cls:=.type "list",data:=.seq us.toArray}}:=by
 refine⟨by rw[<- r.length];exact z,.ref s1.heap.objs.size,upd H1 s1.heap.objs.size (.lst xs),I1.laid (t':=s1.toks) (λb u e=>wk _ e) (wx _) ?_,rfl,q _ (I1.ar.fresh (wx _))⟩;exact⟨z,us,0,r,wE _ rfl⟩
theorem nO(h:yq X es t):jh X (.List es pos) (j9 X.K t):=by
 intro pins s σ H Q I k hq;exact wpAny_List_spliced (aq (h pos pins s σ H _ I k hq) λus s1 ⟨xs,H1,I1,r,z,q⟩=>JW I1 r z q)
theorem IQ(h:G2 X es t):lY X (.List es pos) (j9 X.K t):=by
 intro pins s σ H Q I hq;exact wpAny_List_spliced (aq (h pos pins s σ H _ I hq) λus s1 ⟨⟨xs,H1,I1,r,z,q⟩,k1⟩=>let e:=JW I1 r z q;⟨e.1,e.2,k1⟩)
theorem p4{i:Nat}{x:Str}{pos':Pos}(hN:X.N.Nodup)(hi:X.N[i]? = some x)(hx:Loc X.env.scope x)(he:jh X e te)(hs:swapsWith e (some (.Name x pos')) pos.line X.env=pure false:=by rfl)(hf:X.fn x=true\/X.env.scope.names.lookup x=some .local:=by first | exact .inl rfl | exact .inr rfl | assumption) :
  zf X (.Assign [.Name x pos'] e pos) (jo te (fg i)):=by
 intro pins s σ H D I k h;refine wpAny_Assign_Name (aq (he pins s σ H _ I k h) λv s1 ⟨y,H1,I1,r1,q1⟩=>?_) hs;exact mQ I1 hN hi hx r1 (λs2 I2=>⟨_,H1,I2,q1⟩) hf
theorem J8{i:Nat}{x:Str}{pos':Pos}(hN:X.N.Nodup)(hi:X.N[i]? = some x)(hx:Loc X.env.scope x)(he:lY X e te)(hs:swapsWith e (some (.Name x pos')) pos.line X.env=pure false:=by rfl)(hf:X.fn x=true\/X.env.scope.names.lookup x=some .local:=by first | exact .inl rfl | exact .inr rfl | assumption) :
  JJ X (.Assign [.Name x pos'] e pos) (jo te (fg i)):=by
 intro pins s σ H D I h;refine wpAny_Assign_Name (aq (he pins s σ H _ I h) λv s1 ⟨⟨y,H1,I1,r1,q1⟩,k1⟩=>?_) hs;exact jD 1 k1 (mQ I1 hN hi hx r1 (λs2 I2=>⟨_,H1,I2,q1⟩) hf)
theorem cX(h1:zf X st ts)(h2:oI X aO tr):oI X (st::aO) (kG ts tr):=by
 intro pins s σ H D I k h;refine wpAny_execs_cons (aq (jD 1 k (h1 pins s σ H {D with nx:=tr D} I k h)) λf s1 ⟨q,k1⟩=>?_);cases f with
 | next =>
  obtain⟨σ',H',I',q⟩:=q;exact h2 pins s1 σ' H' D I' k1 q
 | ret v=>exact q
 | brk=>exact q
 | cont=>exact q
theorem Ie(h1:JJ X st ts)(h2:oI X aO tr):cV X (st::aO) (kG ts tr):=by
 intro pins s σ H D I h;refine wpAny_execs_cons (aq (h1 pins s σ H {D with nx:=tr D} I h) λf s1 ⟨q,k1⟩=>?_);cases f with
 | next =>
  obtain⟨σ',H',I',q⟩:=q;exact h2 pins s1 σ' H' D I' k1 q
 | ret v=>exact q
 | brk=>exact q
 | cont=>exact q
end
open Builtin Builtin.Str in
def fk(lim:Nat)(x y z:Str):Str:=if(occurrences x y 0 x.length lim).isEmpty || (y.length == 0&&z.length == 0)then x else glued z (partsBetween x (occurrences x y 0 x.length lim) y.length)
open Builtin Builtin.Str in
theorem YZ(x y z:Str)(t u v r:Tok)(h0:(u == 0 || v == 0)=false)(huv:(u == v)=false)(hyz:(y == z)=false)(hl:tooLong (x.length+(occurrences x y 0 x.length 1).length*z.length)=false) :
   Gives («str.replace» ⟨[.str x t,.str y u,.str z v,.int 1 r],[]⟩) (if((occurrences x y 0 x.length 1).isEmpty || (y.length == 0&&z.length == 0))=true then .val (.str x t)else .str (glued z (partsBetween x (occurrences x y 0 x.length 1) y.length))):=by
 show Gives (if ((occurrences x y 0 x.length 1).isEmpty || (y.length == 0 && z.length == 0)) = true then (do rule "str.replace.nothing"; ret (.str x t)) else
         (do let same <- isSame (.str y u) (.str z v)
             if same=true then(do rule "str.replace.old-is-new";ret (.str x t))else
             if tooLong (x.length+(occurrences x y 0 x.length 1).length*z.length)=true then unsupported "str.replace:memory" else
             retStr (glued z (partsBetween x (occurrences x y 0 x.length 1) y.length)))) _
 cases hc:((occurrences x y 0 x.length 1).isEmpty || (y.length == 0&&z.length == 0))
 . rw[isSame_str_other y z u v h0 huv hyz,hl]
   exact .of_eq rfl
 . exact .rule (.of_eq rfl)
section
variable{X:Cx}{o:Expr}{to:TE}{apos cpos p1 p2 p3:Pos}{k1 k2 k3:Nat}{y z:Str}
def B4(one:Bool)(y z:Str)(to:TE):TE:=λσ H Q=>to σ H λv H1=>∃x:Str,v=.str x/\x.length<=1000/\Q (.str (fk (if one then 1 else x.length+1) x y z)) H1
open Builtin Builtin.Str in
theorem OV(one:Bool){x:Str}(hx:x.length<=1000)(hz:z.length<=14):tooLong (x.length+(occurrences x y 0 x.length (if one then 1 else x.length+1)).length*z.length)=false:=by
 have h1:=xL x y 0 x.length (if one then 1 else x.length+1);have h3:(if one=true then 1 else x.length+1)<=1001:=by split<;>omega
 have h2:(occurrences x y 0 x.length (if one then 1 else x.length+1)).length*z.length<=1001*14:=Ql (vd h1 h3) hz;unfold tooLong wC;exact decide_eq_false (by omega)
theorem Ge(ho:PE X o to)(hyz:(y == z)=false:=by decide)(hz:z.length<=14:=by decide)(hbase:attributeBase o "replace" X.env (eval o X.env)=eval o X.env:=by rfl)(hline:(apos.endLine == cpos.line)=true:=by rfl) :
  jh X (.Call (.Attribute o "replace" apos) [.Constant (.str y) k1 p1,.Constant (.str z) k2 p2] [] cpos) (B4 false y z to):=by
 intro pins s σ H Q I k h;refine wpAny_Call_method_late (trees:=[(false,eval (.Constant (.str y) k1 p1) X.env),(false,eval (.Constant (.str z) k2 p2) X.env)]) hbase rfl hline rfl (aq (jD 1 k (ho pins s σ H _ I h)) λv s1 ⟨⟨x,H1,I1,r1,w,e,hw,q⟩,k1'⟩=>?_);subst e;obtain⟨t,rfl⟩:=r1;refine⟨"str","str.replace",X9,Qy,Xq,Vw _ _ _,(λ_ e=>nomatch e),?_⟩;refine VY rfl (qc (WF (W1 (WF (W1 (QQ ?_))))));refine SC.replace (show s1.toks≠0 by omega) (show s1.toks+1≠0 by omega) (show s1.toks≠s1.toks+1 by omega) hyz ?_ (λt' k=>⟨.str _,H1,(I1.tok k),⟨_,rfl⟩,?_⟩)
 ·have:(w.length+1)*z.length<=1001*14:=Ql (by omega) hz
  omega
 ·exact q
theorem tV(ho:PE X o to)(hyz:(y == z)=false:=by decide)(hz:z.length<=14:=by decide)(hbase:attributeBase o "replace" X.env (eval o X.env)=eval o X.env:=by rfl)(hline:(apos.endLine == cpos.line)=true:=by rfl) :
  jh X (.Call (.Attribute o "replace" apos) [.Constant (.str y) k1 p1,.Constant (.str z) k2 p2,.Constant (.int 1) k3 p3] [] cpos) (B4 true y z to):=by
 intro pins s σ H Q I k h;refine wpAny_Call_method_late (trees:=[(false,eval (.Constant (.str y) k1 p1) X.env),(false,eval (.Constant (.str z) k2 p2) X.env),(false,eval (.Constant (.int 1) k3 p3) X.env)]) hbase rfl hline rfl (aq (jD 1 k (ho pins s σ H _ I h)) λv s1 ⟨⟨x,H1,I1,r1,w,e,hw,q⟩,k1'⟩=>?_);subst e;obtain⟨t,rfl⟩:=r1;refine⟨"str","str.replace",X9,Qy,Xq,Vw _ _ _,(λ_ e=>nomatch e),?_⟩;refine VY rfl (qc (WF (W1 (WF (W1 (WF (wpAny_Constant_int (QQ ?_))))))));refine call_gives Qy (Vw _ _ _) F.entry_str_replace (F.args_str_replace_4 _ _ _ _) (YZ w y z t s1.toks (s1.toks+1) _ (by have:s1.toks≠0:=(by omega);simp[this]) (by simp) hyz (OV true hw hz)) ?_;unfold fk at q
 split
 ·rename_i hc
  rw[if_pos rfl,if_pos hc]at q;exact⟨.str w,H1,I1.tok _,⟨_,rfl⟩,q⟩
 ·rename_i hc
  rw[if_pos rfl,if_neg hc]at q;refine⟨?_,.str _,H1,I1.tok _,⟨_,rfl⟩,q⟩;have h1:=xL w y 0 w.length 1;have hy:(Builtin.Str.glued y (xc w (vE w y 0 w.length 1) y.length)).length=w.length:=by rw[StrLaws.glued_between_self]
  rw[size_glued,length_partsBetween,Qt]at hy;rw[size_glued,length_partsBetween,Qt,vB];have h2:(vE w y 0 w.length 1).length*z.length<=1*14:=Ql h1 hz;omega
end
def AN:V->List V->Hp->VK->Prop:=λx vs H Q=>∃z:Str,x=.str z/\vs=[]/\ql (Qz z).length=false/\Q (.str (Qz z)) H
theorem SE{X:Cx} : b_ X "str.upper" AN:=by
 intro pins s σ H x vs v us Q I rx rv h;obtain⟨z,rfl,rfl,hl,q⟩:=h;obtain⟨t,rfl⟩:=rx;cases rv;exact SC.upper hl ⟨.str _,H,I.tok _,⟨_,rfl⟩,q⟩
def lA:R2:=λx y H Q=>∃(c:Str)(n:Int),x=.str c/\y=.int n/\c.length=1/\1<=n/\n<=1000/\Q (.str (Qm c n)) H
theorem yd{X:Cx} : ax X (vT .Mult) lA:=by
 intro pins s σ H x y v u Q I rx ry h;obtain⟨c,n,rfl,rfl,hc,h1,h2,q⟩:=h;obtain⟨t,rfl⟩:=rx;obtain⟨t',rfl⟩:=ry;refine SB.mul ⟨by simp;omega,λ_ _=>?_,λ_ _=>?_⟩ λt' k=>⟨.str _,H,I.tok _,⟨_,rfl⟩,q⟩
 ·rw[hc]
  have:(1:Int)<=(2^63-1) / n:=Int.le_ediv_of_mul_le (by omega) (by omega);omega
 ·rw[hc]
  simp only[ql,decide_eq_false_iff_not,vB];omega
def Gq(K:wa):V->List V->Hp->VK->Prop:=λx vs H Q=>∃(l:wd)(bs:List Bool),x=.ref l/\vs=[.bl true]/\aN K H l (bs.map V.bl)/\Q (.int (bs.count true:Nat)) H
theorem Pc{X:Cx} : b_ X "list.count" (Gq X.K):=by
 intro pins s σ H x vs v us Q I rx rv h;obtain⟨l,bs,rfl,rfl,hq,q⟩:=h;cases rx;obtain⟨u,rfl,ru⟩:=rv.one;cases (show u=Value.bool true from ru);obtain⟨its,r,pl,hz⟩:=I.list hq;have hits:=Bo r;subst hits;obtain⟨⟨cls,dd,data,sl⟩,ho,hc,n,hd⟩:=id pl.isList;simp only at hc hd;subst hc hd
 have fs:(bs.map V.bl).all ke=true:=by
  rw[wv];intro y hy;obtain⟨b,_,rfl⟩:=vg.mp hy
  rfl
 refine VX xl ⟨_,ho,rfl⟩ PySem.F.entry_list_count (PySem.F.args_list_count_2 _ _)
  (SeqAt.list_countAt l (bs.map Value.bool).toArray n dd sl (.bool true) (nq (.bl true))) ⟨ho,λy hy=>AQ (x:=.bl true) rfl rfl r fs y (by simpa using hy),?_⟩
 have e:((bs.map Value.bool).toArray.toList.countP (nq (.bl true)))=bs.count true:=by
  show(bs.map Value.bool).countP _=_
  rw[List.countP_map,List.count];refine congrFun (congrArg List.countP (funext λb=>?_)) bs;cases b<;>rfl
 rw[e];exact⟨.int _,H,I.tok _,⟨_,rfl⟩,q⟩
section
variable{X:Cx}{e:Expr}{te:TE}{k:Nat}{p1 p2 p3 pos:Pos}
def JG(K:wa)(te:TE):TE:=λσ H Q=>te σ H λx H1=>∃a xs,x=.ref a/\aN K H1 a xs /\ ∀p,H1 p=none->Q (.ref p) (upd H1 p (.lst xs.reverse))
theorem Tv(he:PE X e te):PE X (.Subscript e (.Slice none none (some (.UnaryOp .USub (.Constant (.int 1) k p1) p2)) p3) pos) (JG X.K te):=by
 intro pins s σ H Q I h;refine Subscript_ (aq (he pins s σ H _ I h) λv s1 ⟨x,H1,I1,r1,a,xs,e1,hx,q⟩=>?_);subst e1;cases r1;refine wpAny_Slice ?_;rw[evalPart_none];refine wz (wz ?_);refine aq ((yf pA ak) pins s1 σ H1 (λv H'=>v=.int (-1)/\H'=H1) I1 ⟨1,rfl,rfl,rfl⟩) λvs s2 ⟨y,H2,I2,r2,e2,e3⟩=>?_
 subst e2 e3;obtain⟨tk,rfl⟩:=r2;have I4:Inv X pins σ H2 {s2 with heap:=s2.heap.push {cls:=.type "slice",data:=.fields #[.none,.none,.int (-1) tk]}}:=I2.kept (t':=s2.toks) λb ob q=>wk _ q
 obtain⟨its,r,ht,hz⟩:=I4.list hx
 show wA (model X.prog X.w) X.A (subscriptTail e (.Slice none none (some (.UnaryOp .USub (.Constant (.int 1) k p1) p2)) p3) (.ref a) (.ref s2.heap.objs.size)) (EP X pins σ Q) X.xe {s2 with heap:=s2.heap.push {cls:=.type "slice",data:=.fields #[.none,.none,.int (-1) tk]}}
 refine tail_any (ops:=[.ref a,.ref s2.heap.objs.size]) ht.isList.typeIs slot_list_getitem.lookup (wpAny_getItem_list_slice ht.isList (Xi ..) .none .none (.int _ _) (by decide) ?_ (by rw[wN,<- r.length];exact hz)) (by with_unfolding_all rfl);rw[PySem.W.krv_pick];refine⟨.ref _,_,I4.laid (t':=s2.toks) (o:=.lst xs.reverse) (λb ob q=>wk _ q) (wx _) ?_,rfl,q _ (I4.ar.fresh (wx _))⟩;exact⟨by rw[Xb];exact hz,_,0,r.reverse,wE _ rfl⟩
end
def b8(H:Hp)(v:V)(xs:List Str):Prop:=∃l,v=.ref l/\H l=some (.lst (xs.map V.str))
def eS(H:Hp):List V->List (List Str)->Prop
 | [],[]=>True
 | v::vs,r::rs=>b8 H v r/\eS H vs rs
 | _,_=>False
def ib(H:Hp)(v:V)(rs:List (List Str)):Prop:=∃l vs,v=.ref l/\H l=some (.lst vs)/\eS H vs rs
section
variable{K:wa}{H H' H1:Hp}{σ : St}{v w:V}{x y z:Str}{xs ys:List Str}{rs us:List (List Str)}{i:Nat}{m n:Int}{ta tb te:TE}{t:TA}{tl th:TO}{lo hi:Option Int}
theorem b8.by(s:af H H')(h:b8 H v xs):b8 H' v xs:=let ⟨l,e,g⟩:=h;⟨l,e,s _ _ g⟩
theorem eS.by(s:af H H'):∀{vs:List V}{rs:List (List Str)},eS H vs rs->eS H' vs rs
 | [],[],_=>trivial
 | _::_,_::_,⟨a,b⟩=>⟨a.by s,b.by s⟩
 | [],_::_,h=>h.elim
 | _::_,[],h=>h.elim
theorem ib.by(s:af H H')(h:ib H v rs):ib H' v rs:=let ⟨l,vs,e,g,a⟩:=h;⟨l,vs,e,s _ _ g,a.by s⟩
theorem eS.len:∀{vs:List V}{rs:List (List Str)},eS H vs rs->vs.length=rs.length
 | [],[],_=>rfl
 | _::vs,_::rs,⟨_,b⟩=>by rw[wW,wW,b.len]
 | [],_::_,h=>h.elim
 | _::_,[],h=>h.elim
theorem eS.app:∀{vs ws:List V}{rs us:List (List Str)},eS H vs rs->eS H ws us->eS H (vs++ws) (rs++us)
 | [],_,[],_,_,b=>b
 | _::_,_,_::_,_,⟨a,c⟩,b=>⟨a,c.app b⟩
 | [],_,_::_,_,h,_=>h.elim
 | _::_,_,[],_,h,_=>h.elim
theorem eS.get:∀{vs:List V}{rs:List (List Str)}{j:Nat}{r:List Str},eS H vs rs->rs[j]? = some r->∃u,vs[j]? = some u/\b8 H u r
 | [],[],_,_,_,e=>by simp at e
 | u::_,_::_,0,_,⟨a,_⟩,e=>by simp at e;subst e;exact⟨u,rfl,a⟩
 | _::_,_::_,_+1,_,⟨_,b⟩,e=>by simp at e;obtain⟨u,h1,h2⟩:=b.get e;exact⟨u,by simpa using h1,h2⟩
 | [],_::_,_,_,h,_=>h.elim
 | _::_,[],_,_,h,_=>h.elim
def dB(t:TE)(σ : St)(H:Hp)(x:Str):Prop:=∀H1 Q,af H H1->(∀H',af H1 H'->Q (.str x) H')->t σ H1 Q
def iP(t:TE)(σ : St)(H:Hp)(n:Int):Prop:=∀H1 Q,af H H1->(∀H',af H1 H'->Q (.int n) H')->t σ H1 Q
def bq(t:TE)(σ : St)(H:Hp)(xs:List Str):Prop:=∀H1 Q,af H H1->(∀v H',af H1 H'->b8 H' v xs->Q v H')->t σ H1 Q
def dA(t:TE)(σ : St)(H:Hp)(rs:List (List Str)):Prop:=∀H1 Q,af H H1->(∀v H',af H1 H'->ib H' v rs->Q v H')->t σ H1 Q
def pP(t:TO)(σ : St)(H:Hp)(o:Option Int):Prop:=∀H1 Q,af H H1->(∀H',af H1 H'->Q o H')->t σ H1 Q
def rh(t:TA)(σ : St)(H:Hp)(xs:List Str):Prop:=∀H1 Q,af H H1->(∀H',af H1 H'->Q (xs.map V.str) H')->t σ H1 Q
def pN(t:TA)(σ : St)(H:Hp)(rs:List (List Str)):Prop:=∀H1 Q,af H H1->(∀vs H',af H1 H'->eS H' vs rs->Q vs H')->t σ H1 Q
theorem dB.go{Q:VK}(h:dB te σ H x)(q:∀H',af H H'->Q (.str x) H'):te σ H Q:=h H Q (af.refl _) q
theorem bq.go{Q:VK}(h:bq te σ H xs)(q:∀v H',af H H'->b8 H' v xs->Q v H'):te σ H Q:=h H Q (af.refl _) q
theorem dA.go{Q:VK}(h:dA te σ H rs)(q:∀v H',af H H'->ib H' v rs->Q v H'):te σ H Q:=h H Q (af.refl _) q
theorem N4:dB (tC (.str x)) σ H x:=λH1 Q _ q=>q H1 (af.refl _)
theorem SK:iP (tC (.int n)) σ H n:=λH1 Q _ q=>q H1 (af.refl _)
theorem Tt(e : σ[i]? = some (some (.str x))):dB (fo i) σ H x:=λH1 Q _ q=>⟨_,e,q H1 (af.refl _)⟩
theorem zyA(e : σ[i]? = some (some (.int n))):iP (fo i) σ H n:=λH1 Q _ q=>⟨_,e,q H1 (af.refl _)⟩
theorem zyM(e : σ[i]? = some (some v))(h:b8 H v xs):bq (fo i) σ H xs:=λH1 Q s q=>⟨_,e,q _ H1 (af.refl _) (h.by s)⟩
theorem Rh(e : σ[i]? = some (some v))(h:ib H v rs):dA (fo i) σ H rs:=λH1 Q s q=>⟨_,e,q _ H1 (af.refl _) (h.by s)⟩
theorem TM(ha:iP ta σ H m)(hb:iP tb σ H n):iP (dD ku ta tb) σ H (m+n):=λH1 Q s q=>ha H1 _ s λH2 s2=>hb H2 _ (s.trans s2) λH3 s3=>GI (q H3 (s2.trans s3))
theorem UO(ha:dB ta σ H x)(hb:dB tb σ H y)(z:x.length+y.length<=wC):dB (dD ku ta tb) σ H (x++y):=λH1 Q s q=>ha H1 _ s λH2 s2=>hb H2 _ (s.trans s2) λH3 s3=>.inr (.inr ⟨_,_,rfl,rfl,z,q H3 (s2.trans s3)⟩)
theorem zvk(ha:bq ta σ H xs)(hb:bq tb σ H ys)(z:xs.length+ys.length<=wC):bq (dD ku ta tb) σ H (xs++ys):=λH1 Q s q=>ha H1 _ s λv H2 s2 h2=>hb H2 _ (s.trans s2) λw H3 s3 h3=>by
 obtain⟨l,rfl,e⟩:=h2.by s3;obtain⟨k,rfl,g⟩:=h3;exact jv e g (by rw[wm,wm];exact z) λc H' _ s' e'=>q _ H' (s2.trans (s3.trans s')) ⟨c,rfl,by rw[Wo];exact e'⟩
theorem Tg(ha:dA ta σ H rs)(hb:dA tb σ H us)(z:rs.length+us.length<=wC):dA (dD ku ta tb) σ H (rs++us):=λH1 Q s q=>ha H1 _ s λv H2 s2 h2=>hb H2 _ (s.trans s2) λw H3 s3 h3=>by
 obtain⟨l,vs,rfl,e,a⟩:=h2.by s3;obtain⟨k,ws,rfl,g,b⟩:=h3;exact jv e g (by rw[a.len,b.len];exact z) λc H' _ s' e'=>q _ H' (s2.trans (s3.trans s')) ⟨c,_,rfl,e',(a.app b).by s'⟩
theorem zsG:rh hX σ H []:=λH1 Q _ q=>q H1 (af.refl _)
theorem ZP(ha:dB ta σ H x)(hb:rh t σ H xs):rh (gk ta t) σ H (x::xs):=λH1 Q s q=>ha H1 _ s λH2 s2=>hb H2 _ (s.trans s2) λH3 s3=>q H3 (s2.trans s3)
theorem Zv:pN hX σ H []:=λH1 Q _ q=>q [] H1 (af.refl _) trivial
theorem Rm(ha:bq ta σ H xs)(hb:pN t σ H rs):pN (gk ta t) σ H (xs::rs):=λH1 Q s q=>ha H1 _ s λv H2 s2 h2=>hb H2 _ (s.trans s2) λvs H3 s3 h3=>q (v::vs) H3 (s2.trans s3) ⟨h2.by s3,h3⟩
theorem zyU(h:rh t σ H xs)(z:xs.length<=1000):bq (j9 K t) σ H xs:=λH1 Q s q=>h H1 _ s λH2 s2=>cW (by rw[wm];exact z) λp H' _ s' e=>q _ H' (s2.trans s') ⟨p,rfl,e⟩
theorem zy8(h:pN t σ H rs)(z:rs.length<=1000):dA (j9 K t) σ H rs:=λH1 Q s q=>h H1 _ s λvs H2 s2 a=>cW (by rw[a.len];exact z) λp H' _ s' e=>q _ H' (s2.trans s') ⟨p,vs,rfl,e,a.by s'⟩
theorem zyJ:pP B8 σ H none:=λH1 Q _ q=>q H1 (af.refl _)
theorem Py(h:iP te σ H n):pP (AJ te) σ H (some n):=λH1 Q s q=>h H1 _ s λH2 s2=>⟨n,rfl,q H2 s2⟩
theorem JI:d6 (xs.map V.str) lo hi=(cutD xs lo hi).map V.str:=by unfold d6 cutD;rw[wm,<- uR,<- uQ]
theorem N3(h:bq te σ H xs)(hl:pP tl σ H lo)(hh:pP th σ H hi):bq (Cj (jn K) te tl th) σ H (cutD xs lo hi):=λH1 Q s q=>h H1 _ s λv H2 s2 h2=>hl H2 _ (s.trans s2) λH3 s3=>hh H3 _ (s.trans (s2.trans s3)) λH4 s4=>by
 obtain⟨l,rfl,e⟩:=h2.by (s3.trans s4);exact iu (.of e) λp H' _ s' e'=>q _ H' (s2.trans (s3.trans (s4.trans s'))) ⟨p,rfl,by rw[<- JI];exact e'⟩
theorem zv1{α β : Type}{f : α -> β}{xs:List α}{x : α}(h:eC xs n=some x):eC (xs.map f) n=some (f x):=by
 unfold eC at *;rw[wm];cases hh:gJ xs.length n with
 | none=>rw[hh]at h;cases h
 | some j =>
  rw[hh]at h;have h:xs[j]? = some x:=h
  show(xs.map f)[j]? = _
  rw[wB,h]
  rfl
theorem Zl(h:bq ta σ H xs)(hi:iP tb σ H n)(e:eC xs n=some x):dB (dD (dk K) ta tb) σ H x:=λH1 Q s q=>h H1 _ s λv H2 s2 h2=>hi H2 _ (s.trans s2) λH3 s3=>by
 obtain⟨l,rfl,g⟩:=h2.by s3;exact cG (.of g) (zv1 e) (q H3 (s2.trans s3))
theorem Tc{sep:Str}(hs:dB ta σ H sep)(h:bq tb σ H xs)(hl:xs.length<=1000)(hy:∀y∈xs,y.length<=900)(hp:sep.length<=10):dB (yy K "str" (fH K) ta (gk tb hX)) σ H (qy sep xs):=λH1 Q s q=>hs H1 _ s λH2 s2=>⟨rfl,h H2 _ (s.trans s2) λv H3 s3 h3=>by
 obtain⟨l,rfl,g⟩:=h3;refine jK (.of g) hy ?_ (q H3 (s2.trans s3));have:xs.length*sep.length<=1000*10:=Ql hl hp;have:xs.length*900<=1000*900:=Nat.mul_le_mul_right _ hl;omega⟩
theorem Rp(ha:dB ta σ H x)(hb:iP tb σ H n)(h1:x.length=1)(h2:1<=n)(h3:n<=1000):dB (dD lA ta tb) σ H (Qm x n):=λH1 Q s q=>ha H1 _ s λH2 s2=>hb H2 _ (s.trans s2) λH3 s3=>⟨_,_,rfl,rfl,h1,h2,h3,q H3 (s2.trans s3)⟩
theorem Fy:∀(k:Nat)(xs:List Str),(w6 k (xs.map V.str)).flatten=((w6 k xs).flatten).map V.str
 | 0,_=>rfl
 | k+1,xs=>by rw[WB,W7,Fy k xs,WB,W7,Wo]
theorem Zd(ha:bq ta σ H xs)(hb:iP tb σ H n)(h0:0<=n)(h1:n<=1000)(z:xs.length*n.toNat<=1000):bq (dD j4 ta tb) σ H (w6 n.toNat xs).flatten:=λH1 Q s q=>ha H1 _ s λv H2 s2 h2=>hb H2 _ (s.trans s2) λH3 s3=>by
 obtain⟨l,rfl,g⟩:=h2.by s3;exact A0 g (by omega) h1 (by rw[wm];exact z) λp H' _ s' e=>q _ H' (s2.trans (s3.trans s')) ⟨p,rfl,by rw[<- Fy];exact e⟩
theorem ztn{one:Bool}(ha:dB te σ H x)(h:x.length<=1000):dB (B4 one y z te) σ H (fk (if one then 1 else x.length+1) x y z):=λH1 Q s q=>ha H1 _ s λH2 s2=>⟨x,rfl,h,q H2 s2⟩
theorem YI(ha:dB te σ H x)(h:ql (Qz x).length=false):dB (Gj K "str" AN te) σ H (Qz x):=λH1 Q s q=>ha H1 _ s λH2 s2=>⟨rfl,x,rfl,rfl,h,q H2 s2⟩
theorem UP(h:bq te σ H xs):bq (JG K te) σ H xs.reverse:=λH1 Q s q=>h H1 _ s λv H2 s2 h2=>by
 obtain⟨l,rfl,g⟩:=h2;exact⟨l,_,rfl,.of g,λp hp=>q _ _ (s2.trans (af.upd hp)) ⟨p,rfl,by rw[List.map_reverse];exact cb⟩⟩
end
structure gc(X:Cx)(st:List vq)(t:TS):Prop where
 h:cV X st t
structure WS(X:Cx)(st:vq)(t:TS):Prop where
 h:PS X st t
structure WE(X:Cx)(e:Expr)(t:TE):Prop where
 h:PE X e t
structure WA(X:Cx)(es:List Expr)(t:TA):Prop where
 h:PA X es t
section
variable{X:Cx}{e a b:Expr}{es:List Expr}{st:vq}{aO:List vq}{te ta tb:TE}{t:TA}{ts tr:TS}{pos:Pos}
theorem bf(h1:WS X st ts)(h2:gc X aO tr):gc X (st::aO) (kG ts tr):=⟨aF h1.h h2.h⟩
theorem dI(h1:WS X st ts):gc X [st] ts:=⟨aA h1.h⟩
theorem gq:gc X [] CD:=⟨bH⟩
theorem bS(i:Nat){x:Str}{pp:Pos}(hN:X.N.Nodup)(he:WE X e te)(hi:X.N[i]? = some x:=by exact rfl)(hx:Loc X.env.scope x:=by first | exact Or.inl rfl | exact Or.inr rfl)(hs:swapsWith e (some (.Name x pp)) pos.line X.env=pure false:=by rfl)(hf:X.fn x=true\/X.env.scope.names.lookup x=some .local:=by first | exact .inl rfl | exact .inr rfl | assumption) :
  WS X (.Assign [.Name x pp] e pos) (jo te (fg i)):=⟨Fx hN hi hx he.h hs hf⟩
theorem eQ(he:WE X e te):WS X (.Return (some e) pos) (zi te):=⟨aG he.h⟩
theorem gx{c:Expr}{s1 s2:List vq}{tc:TT}(hc:PT X c tc)(h1:gc X s1 ts)(h2:gc X s2 tr):WS X (.If c s1 s2 pos) (zu tc ts tr):=⟨bI hc h1.h h2.h⟩
theorem Kq{tg iter:Expr}{body:List vq}{wi:TI}{g:TG}(hp:PassesOwn (model X.prog X.w) X.A X.env X.xe)(hc:X.calm=true)(hi:PI X tg iter wi)(hg:PG X tg g)(hb:gc X body ts)
  (hs:∀x,V7 iter X.env x=pure x:=by intro _;rfl):WS X (.For tg iter body [] pos) (tG wi g ts):=⟨UQ hp hc hi hg hb.h hs⟩
theorem Kd(h:PS X st ts):WS X st ts:=⟨h⟩
theorem ag(h:PE X e te):WE X e te:=⟨h⟩
theorem bF(h:WA X es t):WE X (.List es pos) (j9 X.K t):=⟨bL h.h⟩
theorem cp{x1}(h:WA X es t):WE X (.Tuple es x1 pos) (yF X.K t):=⟨hJ h.h⟩
theorem bK{op:Operator}{r:R2}(ho:ax X (vT op) r)(ha:WE X a ta)(hb:WE X b tb):WE X (.BinOp a op b pos) (dD r ta tb):=⟨aw ho ha.h hb.h⟩
theorem jC{r:R2}(hr:gQ X r)(ha:WE X a ta)(hb:WE X b tb)(hs:HF b):WE X (.Subscript a b pos) (dD r ta tb):=⟨gv hr ha.h hb.h hs⟩
theorem aH:WA X [] hX:=⟨ae⟩
theorem ai(ha:WE X e te)(hr:WA X es t)(hs:w5 (e::es) X.env=(false,eval e X.env)::w5 es X.env:=by rfl):WA X (e::es) (gk te t):=⟨aa ha.h hr.h hs⟩
end
end L2
namespace G
open PySem PySem.Spec PyProof.Rows L2 GM
local macro_rules | `(tactic| wtm_at "sc")=>`(tactic| exact ⟨rfl,rfl,rfl,by decide +kernel,rfl,by decide +kernel,by decide +kernel⟩)
def top(i:Nat):vq:=VO.main.body.getD i (.Pass ⟨0,0,0,0⟩)
abbrev BZ:vq:=top 14
abbrev Bg:List Str:=["thing"]
abbrev oK:=Bg
theorem SD:aT Bg oK (az BZ):=by wtm_at "sc"
abbrev Am:vq:=top 15
abbrev AF:List Str:=["least","most","thing"]
abbrev oM:=AF
theorem Tz:aT AF oM (az Am):=by wtm_at "sc"
abbrev CL:vq:=top 16
abbrev GF:List Str:=["one","other","rest"]
abbrev sr:List Str:=["one","other"]
theorem rR:aT GF sr (az CL):=by wtm_at "sc"
abbrev B1:vq:=top 17
abbrev BS:List Str:=["thing"]
abbrev ye:=BS
theorem Ui:aT BS ye (az B1):=by wtm_at "sc"
abbrev zo:vq:=top 18
abbrev Hm:List Str:=["one","other","shared","top","divisor"]
abbrev yo:List Str:=["one","other"]
theorem tW:aT Hm yo (az zo):=by wtm_at "sc"
abbrev A7:vq:=top 19
abbrev Bk:List Str:=["one","other"]
abbrev rD:=Bk
theorem RF:aT Bk rD (az A7):=by wtm_at "sc"
abbrev Ai:vq:=top 24
abbrev y_:List Str:=["a"]
abbrev oY:=y_
theorem Z9:aT y_ oY (az Ai):=by wtm_at "sc"
abbrev Cf:vq:=top 25
abbrev AL:List Str:=["b"]
abbrev tD:=AL
theorem Tf:aT AL tD (az Cf):=by wtm_at "sc"
abbrev Ao:vq:=top 26
abbrev A4:List Str:=["a","b"]
abbrev rS:=A4
theorem O6:aT A4 rS (az Ao):=by wtm_at "sc"
abbrev An:vq:=top 27
abbrev A9:List Str:=["thing"]
abbrev sX:=A9
theorem zpj:aT A9 sX (az An):=by wtm_at "sc"
abbrev B3:vq:=top 31
abbrev Al:List Str:=["thing"]
abbrev yb:=Al
theorem Zb:aT Al yb (az B3):=by wtm_at "sc"
abbrev pB:vq:=top 32
abbrev pW:List Str:=["thing"]
abbrev yB:=pW
theorem ZO:aT pW yB (az pB):=by wtm_at "sc"
abbrev Cr:vq:=top 33
abbrev zY:List Str:=["rule","phases"]
abbrev sU:=zY
theorem RP:aT zY sU (az Cr):=by wtm_at "sc"
abbrev sS:vq:=top 38
abbrev sW:List Str:=["row","worms"]
abbrev tP:=sW
theorem Tq:aT sW tP (az sS):=by wtm_at "sc"
abbrev Bu:vq:=top 39
abbrev A_:List Str:=["thing","worms"]
abbrev si:=A_
theorem zre:aT A_ si (az Bu):=by wtm_at "sc"
abbrev BF:vq:=top 40
abbrev zD:List Str:=["thing","worms"]
abbrev oU:=zD
theorem ZC:aT zD oU (az BF):=by wtm_at "sc"
abbrev tq:vq:=top 41
abbrev sf:List Str:=["thing","worms"]
abbrev sM:=sf
theorem RW:aT sf sM (az tq):=by wtm_at "sc"
abbrev AH:vq:=top 48
abbrev B5:List Str:=["thing"]
abbrev rY:=B5
theorem Zc:aT B5 rY (az AH):=by wtm_at "sc"
abbrev pj:vq:=top 49
abbrev sT:List Str:=["least","most","thing"]
abbrev oO:=sT
theorem zhA:aT sT oO (az pj):=by wtm_at "sc"
abbrev CA:vq:=top 50
abbrev zF:List Str:=["thing"]
abbrev yu:=zF
theorem PB:aT zF yu (az CA):=by wtm_at "sc"
abbrev p_:vq:=top 51
abbrev u_:List Str:=["thing","rounds"]
abbrev q_:=u_
theorem zoI:aT u_ q_ (az p_):=by wtm_at "sc"
abbrev zg:vq:=top 52
abbrev AX:List Str:=["thing","worms"]
abbrev tL:=AX
theorem PX:aT AX tL (az zg):=by wtm_at "sc"
abbrev mM:vq:=top 53
abbrev nQ:List Str:=["thing","worms"]
abbrev yh:=nQ
theorem O8:aT nQ yh (az mM):=by wtm_at "sc"
abbrev mH:vq:=top 54
abbrev mY:List Str:=["rounds","ups","ties"]
abbrev rF:=mY
theorem zq2:aT mY rF (az mH):=by wtm_at "sc"
abbrev AO:vq:=top 59
abbrev Ik:List Str:=["number","top","bottom"]
abbrev pF:List Str:=["number"]
theorem zP:aT Ik pF (az AO):=by wtm_at "sc"
abbrev rB:vq:=top 60
abbrev tX:List Str:=["text","most"]
abbrev tf:=tX
theorem Td:aT tX tf (az rB):=by wtm_at "sc"
abbrev z_:vq:=top 61
abbrev L4:List Str:=["text","parts"]
abbrev pL:List Str:=["text"]
theorem F9:aT L4 pL (az z_):=by wtm_at "sc"
abbrev tR:vq:=top 62
abbrev Ce:List Str:=["text","most","parts","top","told"]
abbrev rP:List Str:=["text","most"]
theorem oV:aT Ce rP (az tR):=by wtm_at "sc"
abbrev mW:vq:=top 63
abbrev nU:List Str:=["words"]
abbrev oW:=nU
theorem ZZ:aT nU oW (az mW):=by wtm_at "sc"
abbrev nS:vq:=top 64
abbrev nH:List Str:=["words","most"]
abbrev rQ:=nH
theorem T8:aT nH rQ (az nS):=by wtm_at "sc"
abbrev zm:vq:=top 65
abbrev zK:List Str:=["text","between"]
abbrev pD:=zK
theorem Yj:aT zK pD (az zm):=by wtm_at "sc"
abbrev rm:vq:=top 66
abbrev oH:List Str:=["text"]
abbrev yk:=oH
theorem Yx:aT oH yk (az rm):=by wtm_at "sc"
abbrev CB:vq:=top 67
abbrev G5:List Str:=["text","lines","rule"]
abbrev sI:List Str:=["text"]
theorem BN:aT G5 sI (az CB):=by wtm_at "sc"
abbrev pI:vq:=top 68
abbrev rV:List Str:=["lines","first"]
abbrev rX:=rV
theorem zky:aT rV rX (az pI):=by wtm_at "sc"
abbrev mS:vq:=top 69
abbrev mP:List Str:=["ties"]
abbrev oN:=mP
theorem Sj:aT mP oN (az mS):=by wtm_at "sc"
abbrev lU:vq:=top 70
abbrev n_:List Str:=["text","lines","worms","ties"]
abbrev tQ:List Str:=["text"]
theorem rA:aT n_ tQ (az lU):=by wtm_at "sc"
abbrev AV:vq:=top 71
abbrev Jj:List Str:=["text","parts","hour","phases","end"]
abbrev ym:List Str:=["text"]
theorem mZ:aT Jj ym (az AV):=by wtm_at "sc"
abbrev sV:vq:=top 72
abbrev Bt:List Str:=["text","rows","worms"]
abbrev rO:List Str:=["text"]
theorem Ba:aT Bt rO (az sV):=by wtm_at "sc"
abbrev Co:vq:=top 74
abbrev FZ:List Str:=["_law_script","_law_k","_law_cell"]
abbrev pG:List Str:=["_law_script","_law_k"]
theorem CI:aT FZ pG (az Co):=by wtm_at "sc"
abbrev BO:vq:=top 75
abbrev IT:List Str:=["_law_pen_here","_law_many","_law_digit","_law_mixed"]
abbrev sQ:List Str:=["_law_pen_here","_law_many"]
theorem zI:aT IT sQ (az BO):=by wtm_at "sc"
abbrev Ct:vq:=top 76
abbrev Gu:List Str:=["_law_reader","_law_text","_law_caught","e","_law_kinds"]
abbrev sN:List Str:=["_law_reader","_law_text"]
theorem ng:aT Gu sN (az Ct):=by wtm_at "sc"
abbrev Cc:vq:=top 77
abbrev Gk:List Str:=["_law_pen_here","_law_words","_law_bad","_law_at"]
abbrev rz:List Str:=["_law_pen_here","_law_words","_law_bad"]
theorem Lg:aT Gk rz (az Cc):=by wtm_at "sc"
abbrev Ap:vq:=top 78
abbrev LU:List Str:=["_law_pen_here","_law_lines","_law_at","_law_line","_law_some"]
abbrev yC:List Str:=["_law_pen_here","_law_lines"]
theorem iS:aT LU yC (az Ap):=by wtm_at "sc"
abbrev zL:vq:=top 79
abbrev Jy:List Str:=["_law_pen_here","_law_some"]
abbrev pk:List Str:=["_law_pen_here"]
theorem pJ:aT Jy pk (az zL):=by wtm_at "sc"
abbrev Br:vq:=top 80
abbrev HY:List Str:=["_law_pen_here","_law_words","_law_worms","_law_way","_law_some"]
abbrev sD:List Str:=["_law_pen_here"]
theorem ki:aT HY sD (az Br):=by wtm_at "sc"
abbrev zb:vq:=top 81
abbrev JX:List Str:=["_law_pen_here","_law_lines","_law_way","_law_at","_law_bad","_law_some"]
abbrev pO:List Str:=["_law_pen_here"]
theorem gF:aT JX pO (az zb):=by wtm_at "sc"
abbrev zU:vq:=top 82
abbrev Iw:List Str:=["_law_pen_here","_law_good","_law_bad","_law_some"]
abbrev rZ:List Str:=["_law_pen_here"]
theorem dQ:aT Iw rZ (az zU):=by wtm_at "sc"
abbrev Ag:vq:=top 83
abbrev J4:List Str:=["_law_pen_here","_law_rules","_law_worms","_law_rule","_law_some","_law_way","_law_webs"]
abbrev rK:List Str:=["_law_pen_here"]
theorem iG:aT J4 rK (az Ag):=by wtm_at "sc"
abbrev oi:vq:=top 84
abbrev Bn:List Str:=["_law_script","_law_k","_law_pen_here","_law_some","_law_thing","_law_reader","_law_text","_law_due"]
abbrev pC:List Str:=["_law_script"]
theorem iC:aT Bn pC (az oi):=by wtm_at "sc"
set_option genInjectivity false in
structure Ad where
 ER:wd
 DK:wS
 Dp:wd
 C4:wS
 C1:wd
 CP:wS
 Ey:wd
 DH:wS
 plus:wd
 Fg:wS
 less:wd
 Fc:wS
 Eu:wd
 DD:wS
 ET:wd
 DT:wS
 ED:wd
 DC:wS
 EY:wd
 Ek:wS
 EF:wd
 DX:wS
 Eh:wd
 Dw:wS
 EW:wd
 DP:wS
 EE:wd
 DA:wS
 Fm:wd
 El:wS
 DI:wd
 Dd:wS
 EJ:wd
 DQ:wS
 Ep:wd
 DF:wS
 De:wd
 CV:wS
 D_:wd
 Dj:wS
 EZ:wd
 Ec:wS
 Fl:wd
 Em:wS
 EN:wd
 DJ:wS
 Fn:wd
 Er:wS
 DN:wd
 Df:wS
 Dv:wd
 C2:wS
 En:wd
 DE:wS
 C_:wd
 CU:wS
 Ex:wd
 DB:wS
 Ed:wd
 Ds:wS
 EO:wd
 DW:wS
 EX:wd
 DR:wS
 fh:wd
 Du:wS
 Ee:wd
 Dr:wS
 CT:wd
 CO:wS
 fK:wd
 DS:wS
 Fj:wd
 Ew:wS
 gm:wd
 Di:wS
 E_:wd
 Ei:wS
 EH:wd
 DY:wS
 Es:wd
 Dz:wS
 EV:wd
 DM:wS
 EB:wd
 Dy:wS
 Dc:wd
 CY:wS
 Dq:wd
 C6:wS
 DU:wd
 Dg:wS
 Dl:wd
 C5:wS
 Dh:wd
 CW:wS
 law:wd
 Fh:wS
 cz:wd
 cA:wd
 cB:wd
 bg:wd
 jT:wd
 jS:wd
 jV:wd
 jR:wd
 jU:wd
 md:wd
 mf:wd
 mi:wd
 yG:wd
 oB:wd
structure Dn(K:wa)(mg:Str->Option wg)(n:Str)(st:vq)(ps:List Str)(f:wd)(fd:wS):Prop where
 F:jO K n n st f fd
 g:mg n=some (.ref f)
 b:iR K fd ps []
section
variable{X:Cx}{x:Str}{f:wd}{fd:wS}{ps:List Str}{sp:Sp}{j k:Nat}{e:Expr}{es:List Expr}{t:TA}{pos pp:Pos}{st:vq}{CX:dR}
theorem dM{E:XK}(F:aK X.prog X.w X.K X.mg X.base CX k f fd ps sp)(hr:cO j X.A)(D:Dn X.K X.mg x st ps f fd)(hx:jd CX X E)(ha:PA X (e::es) t)(hj:k<=j:=by decide)(hg:Gl X x:=by exact rfl)
  (hdb:(x == ("__debug__" : Str))=false:=by decide) (he:w5 (e::es) X.env=(false,eval e X.env)::w5 es X.env:=by rfl) (hpl:(Vr pos (w5 es X.env)).any (·.1)=false:=by rfl) :
  PE X (.Call (.Name x pp) (e::es) [] pos) (oj sp [] E t):=HP F (hr.mono hj) hg D.g D.F.kp D.b .nil hx ha hdb he hpl
theorem aB(F:aK X.prog X.w X.K X.mg X.base bc k f fd ps sp)(hr:cO j X.A)(D:Dn X.K X.mg x st ps f fd)(ha:PA X (e::es) t)(hj:k<=j:=by decide)(hg:Gl X x:=by exact rfl)
  (hdb:(x == ("__debug__" : Str))=false:=by decide) (he:w5 (e::es) X.env=(false,eval e X.env)::w5 es X.env:=by rfl) (hpl:(Vr pos (w5 es X.env)).any (·.1)=false:=by rfl) :
  PE X (.Call (.Name x pp) (e::es) [] pos) (oj sp [] E0 t):=HP F (hr.mono hj) hg D.g D.F.kp D.b .nil zyI ha hdb he hpl
theorem aJ{ta:TE}{i:Int}{kd}(ha:PE X e ta):PE X (.Subscript e (.Constant (.int i) kd pp) pos) (dD (dk X.K) ta (tC (.int i))):=gv dh ha ak (λ_ _=>rfl)
theorem zV{K:wa}{ta:TE}{i:Int}{kd}(hr:gQ X (dk K))(ha:PE X e ta):PE X (.Subscript e (.Constant (.int i) kd pp) pos) (dD (dk K) ta (tC (.int i))):=gv hr ha ak (λ_ _=>rfl)
theorem aX(i:Nat){te:TE}(hN:X.N.Nodup)(he:PE X e te)(hi:X.N[i]? = some x:=by exact rfl)(hx:Loc X.env.scope x:=by first | exact Or.inl rfl | exact Or.inr rfl)(hs:swapsWith e (some (.Name x pp)) pos.line X.env=pure false:=by rfl)(hf:X.fn x=true\/X.env.scope.names.lookup x=some .local:=by first | exact .inl rfl | exact .inr rfl | assumption) :
  PS X (.Assign [.Name x pp] e pos) (jo te (fg i)):=Fx hN hi hx he hs hf
end
structure Txt(K:wa)(mg:Str->Option wg)(a:Ad):Prop where
 ou:Dn K mg "is_whole" BZ oK a.ER a.DK
 l_:Dn K mg "is_whole_from" Am oM a.Dp a.C4
 om:Dn K mg "greatest_divisor" CL sr a.C1 a.CP
 jP:Dn K mg "is_number" B1 ye a.Ey a.DH
 Fo:Dn K mg "plus" zo yo a.plus a.Fg
 jt:Dn K mg "less" A7 rD a.less a.Fc
 DL:Dn K mg "is_factor" Ai oY a.Eu a.DD
 Ea:Dn K mg "is_shift" Cf tD a.ET a.DT
 DV:Dn K mg "make_rule" Ao rS a.ED a.DC
 Et:Dn K mg "is_rule" An sX a.EY a.Ek
 Ej:Dn K mg "is_phase" B3 yb a.EF a.DX
 DG:Dn K mg "are_phases" pB yB a.Eh a.Dw
 Ef:Dn K mg "swarm_of" Cr sU a.EW a.DP
 yL:Dn K mg "has_stand" sS tP a.EE a.DA
 EL:Dn K mg "is_row" Bu si a.Fm a.El
 Dk:Dn K mg "is_last_row" BF oU a.DI a.Dd
 Eb:Dn K mg "is_paper" tq sM a.EJ a.DQ
 me:Dn K mg "is_listed" AH rY a.Ep a.DF
 oo:Dn K mg "are_whole_from" pj oO a.De a.CV
 Dx:Dn K mg "are_rounds" CA yu a.D_ a.Dj
 EA:Dn K mg "are_ups" p_ q_ a.EZ a.Ec
 EI:Dn K mg "is_tie" zg tL a.Fl a.Em
 DZ:Dn K mg "are_ties" mM yh a.EN a.DJ
 EG:Dn K mg "web_of" mH rF a.Fn a.Er
 Dt:Dn K mg "show_number" AO pF a.DN a.Df
 yH:Dn K mg "is_whole_text" rB tf a.Dv a.C2
 yM:Dn K mg "number_in" z_ pL a.En a.DE
 C3:Dn K mg "is_number_text" tR rP a.C_ a.CU
 yJ:Dn K mg "wholes_in" mW oW a.Ex a.DB
 ma:Dn K mg "numbers_in" nS rQ a.Ed a.Ds
 yN:Dn K mg "parts_of" zm pD a.EO a.DW
 yO:Dn K mg "lines_of" rm yk a.EX a.DR
 iL:Dn K mg "read_swarm" CB sI a.fh a.Du
 yI:Dn K mg "lines_with" pI rX a.Ee a.Dr
 CS:Dn K mg "are_ties_in_order" mS oN a.CT a.CO
 jQ:Dn K mg "read_web" lU tQ a.fK a.DS
 ES:Dn K mg "row_in" AV ym a.Fj a.Ew
 kz:Dn K mg "read_paper" sV rO a.gm a.Di
 Ez:Dn K mg "_law_pen" Co pG a.E_ a.Ei
 dF:Dn K mg "_law_draw" BO sQ a.EH a.DY
 DO:Dn K mg "_law_class" Ct sN a.Es a.Dz
 oz:Dn K mg "_law_with" Cc rz a.EV a.DM
 yK:Dn K mg "_law_lined" Ap yC a.EB a.Dy
 oq:Dn K mg "_law_bad_number" zL pk a.Dc a.CY
 C8:Dn K mg "_law_bad_swarm" Br sD a.Dq a.C6
 Dm:Dn K mg "_law_bad_web" zb pO a.DU a.Dg
 C9:Dn K mg "_law_bad_paper" zU rZ a.Dl a.C5
 CZ:Dn K mg "_law_bad_making" Ag rK a.Dh a.CW
 NS:Dn K mg "law" oi pC a.law a.Fh
 z_ValueError:mg "ValueError"=none
 z_abs:mg "abs"=none
 z_all:mg "all"=none
 z_bool:mg "bool"=none
 z_int:mg "int"=none
 z_isinstance:mg "isinstance"=none
 z_len:mg "len"=none
 z_list:mg "list"=none
 z_range:mg "range"=none
 z_set:mg "set"=none
 z_sorted:mg "sorted"=none
 z_str:mg "str"=none
 z_tuple:mg "tuple"=none
 z_zip:mg "zip"=none
 Eo:mg "NoSwarm"=some (.ref a.cz)
 EM:mg "NoRule"=some (.ref a.cA)
 oA:mg "NoWeb"=some (.ref a.cB)
 gT:mg "NoText"=some (.ref a.bg)
 Nn:mg "TooLong"=some (.ref a.jT)
 Nq:mg "NoStand"=some (.ref a.jS)
 NH:mg "NoRow"=some (.ref a.jV)
 Ng:mg "NoNumber"=some (.ref a.jR)
 Nw:mg "NoBack"=some (.ref a.jU)
 Nb:mg "GlowError"=some (.ref a.md)
 Nl:WJ K a.cz iX "ValueError.__new__"=true
 Nk:WM K (.ref a.cz) (.ref a.md)=some true
 Np:du K a.cz
 Mu:wt K (.ref a.cz) (.ref a.cz)=some true
 ME:wt K (.ref a.cz) (.ref a.cA)=some false
 MP:wt K (.ref a.cz) (.ref a.cB)=some false
 MG:wt K (.ref a.cz) (.ref a.bg)=some false
 Mx:wt K (.ref a.cz) (.ref a.jT)=some false
 My:wt K (.ref a.cz) (.ref a.jS)=some false
 ML:wt K (.ref a.cz) (.ref a.jV)=some false
 Mp:wt K (.ref a.cz) (.ref a.jR)=some false
 MF:wt K (.ref a.cz) (.ref a.jU)=some false
 Nm:wt K (.ref a.cz) (.type "ValueError")=some true
 Nv:WJ K a.cA iX "ValueError.__new__"=true
 NA:WM K (.ref a.cA) (.ref a.md)=some true
 Nu:du K a.cA
 MI:wt K (.ref a.cA) (.ref a.cz)=some false
 MN:wt K (.ref a.cA) (.ref a.cA)=some true
 M3:wt K (.ref a.cA) (.ref a.cB)=some false
 MQ:wt K (.ref a.cA) (.ref a.bg)=some false
 MC:wt K (.ref a.cA) (.ref a.jT)=some false
 MD:wt K (.ref a.cA) (.ref a.jS)=some false
 M0:wt K (.ref a.cA) (.ref a.jV)=some false
 Ms:wt K (.ref a.cA) (.ref a.jR)=some false
 MO:wt K (.ref a.cA) (.ref a.jU)=some false
 Nx:wt K (.ref a.cA) (.type "ValueError")=some true
 yR:WJ K a.cB iX "ValueError.__new__"=true
 NJ:WM K (.ref a.cB) (.ref a.md)=some true
 NG:du K a.cB
 MT:wt K (.ref a.cB) (.ref a.cz)=some false
 MW:wt K (.ref a.cB) (.ref a.cA)=some false
 M7:wt K (.ref a.cB) (.ref a.cB)=some true
 MZ:wt K (.ref a.cB) (.ref a.bg)=some false
 MU:wt K (.ref a.cB) (.ref a.jT)=some false
 MR:wt K (.ref a.cB) (.ref a.jS)=some false
 M6:wt K (.ref a.cB) (.ref a.jV)=some false
 MH:wt K (.ref a.cB) (.ref a.jR)=some false
 MY:wt K (.ref a.cB) (.ref a.jU)=some false
 ND:wt K (.ref a.cB) (.type "ValueError")=some true
 iM:WJ K a.bg iX "ValueError.__new__"=true
 Ny:WM K (.ref a.bg) (.ref a.md)=some true
 NB:du K a.bg
 MB:wt K (.ref a.bg) (.ref a.cz)=some false
 MJ:wt K (.ref a.bg) (.ref a.cA)=some false
 M5:wt K (.ref a.bg) (.ref a.cB)=some false
 MM:wt K (.ref a.bg) (.ref a.bg)=some true
 Mz:wt K (.ref a.bg) (.ref a.jT)=some false
 MA:wt K (.ref a.bg) (.ref a.jS)=some false
 M1:wt K (.ref a.bg) (.ref a.jV)=some false
 Mv:wt K (.ref a.bg) (.ref a.jR)=some false
 MK:wt K (.ref a.bg) (.ref a.jU)=some false
 NC:wt K (.ref a.bg) (.type "ValueError")=some true
 yP:mg "NOUGHT"=some (.ref a.mf)
 Nz:∀H:Hp,aP K H a.mf [.int 0,.int 1]
 yT:mg "ONE"=some (.ref a.mi)
 NU:∀H:Hp,aP K H a.mi [.int 1,.int 1]
 Mt:mg "GREATEST_FACTOR"=some (.ref a.yG)
 Mq:∀H:Hp,aP K H a.yG [.int 4,.int 1]
 MS:∃t,mg "FACTOR_BOTTOM"=some (.int 8 t)
 MX:∃t,mg "SHIFT_BOTTOM"=some (.int 12 t)
 CQ:∃t,mg "MOST_WORMS_swarms"=some (.int 8 t)
 M4:∃t,mg "PHASE_BOTTOM"=some (.int 60 t)
 Nc:∃t,mg "MOST_FREE"=some (.int 30 t)
 M9:∃t,mg "MOST_GLOWS"=some (.int 40 t)
 Fe:mg "WORDS"=some (.ref a.oB)
 Fb:∀H:Hp,aP K H a.oB [.str "one",.str "rests",.str "drawn"]
 Mr:∃t,mg "MOST_WORMS_webs"=some (.int 8 t)
 M_:∃t,mg "MOST_ROUND"=some (.int 60 t)
 Nt:∃t,mg "MOST_UP"=some (.int 60 t)
 Nf:∃t,mg "MOST_TIES"=some (.int 60 t)
 M8:∃t,mg "MOST_DELAY"=some (.int 4 t)
 Nj:∃t,mg "FIGURES"=some (.str "0123456789" t)
 C7:∃t,mg "NUMBER_FIGURES"=some (.int 60 t)
 MV:∃t,mg "WHOLE_FIGURES"=some (.int 2 t)
end G
open L2 GM in
local macro_rules | `(tactic| wtm_at "is")=>`(tactic| first
 | assumption
 | exact bR.mpr rfl
 | exact jZ.mpr rfl
 | exact kg.mpr rfl
 | exact dj.mpr rfl
 | exact Is.NY (by assumption) (by wtm_at "same")
 | exact Is.thruN (by assumption) (by wtm_at "keep")
 | exact Is.thruR (by assumption) (by wtm_at "keep")
 | ((with_reducible apply is_tupAt);(focus assumption);(focus wtm_at "isall");wtm_at "same")
 | ((with_reducible apply is_lstAt);(focus assumption);(focus wtm_at "isall");wtm_at "same")
 | ((with_reducible apply is_dctAt);(focus assumption);wtm_at "same")
 | exact Az 0 (G.Txt.Nz (by assumption) _) rfl rfl | exact Az 1 (G.Txt.NU (by assumption) _) rfl rfl | exact Az 4 (G.Txt.Mq (by assumption) _) rfl rfl
 | fail "is")
open L2 GM in
local macro_rules | `(tactic| wtm_at "isall")=>`(tactic| first
 | exact ay.nil
 | exact ay.cons (by wtm_at "is") (by wtm_at "isall")
 | fail "isall")
open L2 GM in
local macro_rules | `(tactic| wtm_at "ne")=>`(tactic| first
 | assumption
 | (apply qi;assumption))
/- a list that stands at an address -/
open L2 GM in
local macro_rules | `(tactic| wtm_at "lst")=>`(tactic| first
 | assumption
 | exact af.at (by assumption) (by wtm_at "lst")
 | exact Exc.at (by assumption) (by wtm_at "ne") (by wtm_at "lst")
 | fail "lst")
open L2 GM in
local macro_rules | `(tactic| wtm_at "same")=>`(tactic| first
 | assumption
 | exact af.refl _
 | exact af.back (by assumption) (by wtm_at "same")
 | fail "same")
open L2 GM in
local macro_rules | `(tactic| wtm_at "keep")=>`(tactic| first
 | assumption
 | exact aU.refl _
 | exact af.keep (by assumption)
 | exact aU.back (by assumption) (by wtm_at "keep")
 | exact aU.back (af.keep (by assumption)) (by wtm_at "keep")
 | fail "keep")
open L2 GM in
local macro_rules | `(tactic| wtm_at "exc")=>`(tactic| first
 | assumption
 | exact Exc.refl _ _
 | exact Exc.back (by assumption) (by wtm_at "exc")
 | exact Exc.back (af.exc (by assumption)) (by wtm_at "exc")
 | fail "exc")
open L2 GM in
local macro_rules | `(tactic| wtm_at "sqf")=>`(tactic| first
 | assumption
 | exact aU.Kv (by wtm_at "keep") (by assumption)
 | fail "sqf")
/- how great -/
open L2 GM in
local macro_rules | `(tactic| wtm_at "bd")=>`(tactic| first
 | assumption
 | exact Bd.mk (n:=128) (by decide)
 | exact Bd.mono (m:=128) ⟨by decide⟩ (by decide)
 | exact aM.t (by assumption)
 | exact aM.b (by assumption)
 | exact Bd.yV (by omega) (by omega)
 | (apply Bd.neg;wtm_at "bd")
 | (apply Bd.mul;(focus wtm_at "bd");wtm_at "bd")
 | (apply Bd.add;(focus wtm_at "bd");wtm_at "bd")
 | (apply Bd.sub;(focus wtm_at "bd");wtm_at "bd"))
open L2 GM PySem in
local macro_rules | `(tactic| wtm_at "mulok")=>`(tactic| first
 | exact XH (by decide)
 | exact ua (by decide)
 | exact XH (intBits_le_64 (by omega) (by omega))
 | exact ua (intBits_le_64 (by omega) (by omega))
 | (apply L2.NQ;(focus wtm_at "bd");(focus wtm_at "bd");(focus decide);decide))
open L2 GM PySem in
local macro_rules | `(tactic| wtm_at "side")=>`(tactic| first
 | assumption
 | decide
 | omega
 | wtm_at "mulok"
 | (refine And.intro ?_ ?_<;>wtm_at "side")
 | wtm_at "bd")
open L2 GM in
local macro_rules | `(tactic| wtm_at "gs")=>`(tactic| first
 | wtm_at "sq"
 | with_reducible (first | refine bD ?_ | refine Jx ?_ | refine YA ?_ | refine SR ?_)
 | ((with_reducible apply Ht);(focus rfl))
 | with_reducible (first | refine Sl ?_ | refine Lf ?_ | refine Ke ?_ | refine R0 ?_ | refine zzy ?_ | refine TQ ?_ | refine J0 ?_ | refine zwZ ?_ | refine Pq ?_ | refine zxV ?_ | refine GI ?_)
 | ((with_reducible apply Jc);(focus wtm_at "side"))
 | with_reducible (first | refine N9 ?_ | refine TH ?_ | refine zxF ?_ | refine Yo ?_ | refine Ph ?_ | refine og ?_ | refine sE ?_)
 | with_reducible refine zuw (λ_=>?_) (λ_=>?_)
 | with_reducible refine ztD (λ_=>?_) (λ_=>?_)
 | with_reducible refine ztb (λ_=>?_) (λ_=>?_)
 | with_reducible refine zu8 (λ_=>?_) (λ_=>?_)
 | with_reducible (first | refine zw3 ?_ | refine O_ ?_ | refine Ye ?_ | refine Su ?_ | refine OZ ?_ | refine UW ?_ | refine zxc ?_ | refine Oh ?_ | refine Uk ?_ | refine zuM ?_ | refine zwb ?_ | refine By ?_ | refine Oi ?_ | refine zvR ?_ | refine YE ?_)
 | ((with_reducible apply O1);(focus wtm_at "is"))
 | ((with_reducible apply ZT);(focus wtm_at "is"))
 | ((with_reducible apply cG);(focus(apply aN.of;wtm_at "lst"));(focus rfl))
 | ((with_reducible apply HJ);(focus assumption);(focus rfl);intro hN eN lN;dsimp only[Int.reduceToNat,QC,QD]at lN)
 | ((with_reducible apply Kn);(focus wtm_at "is"))
 | ((with_reducible apply zso);(focus wtm_at "is"))
 | ((with_reducible apply Ud);(focus wtm_at "is"))
 | dsimp only[QC,QD])
/- one statement behind another: what follows stands behind a name -/
set_option hygiene false in
open L2 GM in
local macro_rules | `(tactic| wtm_at "sq")=>`(tactic| with_reducible refine P_ (λ tl_ htl_=>?_))
set_option hygiene false in
open L2 GM in
local macro_rules | `(tactic| wtm_at "tl")=>`(tactic| ((with_reducible refine rM.go (by assumption) ?_); (try clear htl_ tl_)))
/- how great a number is -/
open L2 GM in
local macro_rules | `(tactic| wtm_at "bdr0")=>`(tactic| first
 | assumption
 | exact aM.zero
 | exact aM.one
 | exact aM.four
 | (apply aM.add;(focus wtm_at "bdr0");wtm_at "bdr0")
 | (apply aM.sub;(focus wtm_at "bdr0");wtm_at "bdr0")
 | (apply aM.mul;(focus wtm_at "bdr0");wtm_at "bdr0"))
open L2 GM in
local macro_rules | `(tactic| wtm_at "bdr")=>`(tactic| first
 | assumption
 | (apply aM.mono;(focus wtm_at "bdr0");(first | decide | omega)))
/- .. with new tuples,lists,dicts -/
open L2 GM in
local macro_rules | `(tactic| wtm_at "ga1")=>`(tactic| first
 | wtm_at "gs"
 | ((with_reducible apply jA);(focus(simp only[wW,WD];decide));(focus wtm_at "isall");intro _ _ _ _)
 | ((with_reducible apply cW);(focus(simp only[wW,WD];decide));intro _ _ _ _ _)
 | with_reducible refine LD (λ_ _ _ _ _=>?_)
 | ((with_reducible apply jv);(focus wtm_at "lst");(focus wtm_at "lst");(focus(simp only[vQ,wW,WD];decide));intro _ _ _ _ _))
local macro_rules | `(tactic| wtm_at "ga")=>`(tactic| repeat' (first | wtm_at "ga1" | wtm_at "tl"))
local macro_rules | `(tactic| wtm_at "gg")=>`(tactic| repeat' (first | wtm_at "gs" | wtm_at "tl"))
local macro_rules | `(tactic| wtm_at "gt")=>`(tactic| repeat' (wtm_at "gs"))
open L2 GM in
local macro_rules | `(tactic| wtm_at "bd128")=>`(tactic| first
 | exact Bd.mono (m:=128) ⟨by decide⟩ (by decide)
 | exact(Bd.yV (by omega) (by omega)).mono (by decide))
open L2 GM in
local macro_rules | `(tactic| wtm_at "gs")=>`(tactic| first
 | with_reducible (first | refine Yz ?_ | refine OX ?_ | refine RJ ?_ | refine R4 ?_ | refine R3 ?_ | refine ztd ?_ | refine Ki ?_ | refine pH ?_ | refine RO ?_ | refine YB ?_ | refine Z_ ?_ | refine OT ?_ | refine zub ?_ | refine zx6 ?_ | refine Zi ?_ | refine R_ ?_ | refine Ur ?_ | refine zvL ?_ | refine Y6 ?_)
 | ((with_reducible apply Yc);(focus wtm_at "is"))
 | ((with_reducible apply zuy);(focus wtm_at "is"))
 | ((with_reducible apply Yk);(focus wtm_at "is");intro _ _)
 | ((with_reducible apply Zk);(focus wtm_at "is");intro _ _)
 | ((with_reducible apply cG);(focus(apply aN.of;wtm_at "lst"));(focus rfl)))
set_option hygiene false in
local macro_rules | `(tactic| wtm_at "b1")=>`(tactic| (focus (intro vs H Q E h; obtain ⟨_,rfl,_⟩:=h; rfl)); (intro cdv A outer s H vs Q E hr h; obtain ⟨x0,rfl,h⟩:=h; have hu:=hr.units))
set_option hygiene false in
local macro_rules | `(tactic| wtm_at "b2")=>`(tactic| (focus (intro vs H Q E h; obtain ⟨_,_,rfl,_⟩:=h; rfl)); (intro cdv A outer s H vs Q E hr h; obtain ⟨x0,x1,rfl,h⟩:=h; have hu:=hr.units))
set_option hygiene false in
local macro_rules | `(tactic| wtm_at "b3")=>`(tactic| (focus (intro vs H Q E h; obtain ⟨_,_,_,rfl,_⟩:=h; rfl)); (intro cdv A outer s H vs Q E hr h; obtain ⟨x0,x1,x2,rfl,h⟩:=h; have hu:=hr.units))
set_option hygiene false in
local macro_rules | `(tactic| wtm_at "cl")=>`(tactic| ((clear hu); (try clear hgd); (first | dsimp only [fM,cxOfH] | dsimp only [fM] | skip)))
local macro_rules | `(tactic| k_few)=>`(tactic| wtm_at "gg")
local macro_rules | `(tactic| o_head $e)=>`(tactic| (wtm_at "gg"; refine $e))
open L2 GM G in
local macro_rules | `(tactic| wtm_at "ecls")=>`(tactic| first | exact Txt.Np (by assumption) | exact Txt.Nu (by assumption) | exact Txt.NG (by assumption) | exact Txt.NB (by assumption))
open L2 GM G in
local macro_rules | `(tactic| wtm_at "kit")=>`(tactic| first | exact Txt.Mu (by assumption) | exact Txt.ME (by assumption) | exact Txt.MP (by assumption) | exact Txt.MG (by assumption) | exact Txt.Mx (by assumption) | exact Txt.My (by assumption) | exact Txt.ML (by assumption) | exact Txt.Mp (by assumption) | exact Txt.MF (by assumption) | exact Txt.Nm (by assumption) | exact Txt.MI (by assumption) | exact Txt.MN (by assumption) | exact Txt.M3 (by assumption) | exact Txt.MQ (by assumption) | exact Txt.MC (by assumption) | exact Txt.MD (by assumption) | exact Txt.M0 (by assumption) | exact Txt.Ms (by assumption) | exact Txt.MO (by assumption) | exact Txt.Nx (by assumption) | exact Txt.MT (by assumption) | exact Txt.MW (by assumption) | exact Txt.M7 (by assumption) | exact Txt.MZ (by assumption) | exact Txt.MU (by assumption) | exact Txt.MR (by assumption) | exact Txt.M6 (by assumption) | exact Txt.MH (by assumption) | exact Txt.MY (by assumption) | exact Txt.ND (by assumption) | exact Txt.MB (by assumption) | exact Txt.MJ (by assumption) | exact Txt.M5 (by assumption) | exact Txt.MM (by assumption) | exact Txt.Mz (by assumption) | exact Txt.MA (by assumption) | exact Txt.M1 (by assumption) | exact Txt.Mv (by assumption) | exact Txt.MK (by assumption) | exact Txt.NC (by assumption))
namespace G
open PySem PySem.Spec PyProof.Rows L2 GM
section
variable{P:wV}{w:wR}{K:wa}{mg:Str->Option wg}{base:wK}{a:Ad}
def isInt:wu->Bool
 | .int _=>true
 | _=>false
def GJ(K:wa):Sp:=λvs H Q _=>∃x0,vs=[x0] /\ ∃d,Is K H x0 d/\Q (.bl (isInt d)) H
theorem Oq{K:wa}{H:Hp}{Q:VK}{E:XK}{v:V}{d:wu}(h:Is K H v d)(q:Q (.bl (isInt d)) H):GJ K [v] H Q E:=⟨v,rfl,d,h,q⟩
local macro_rules | `(tactic| wtm_at "gs")=>`(tactic| ((with_reducible apply Oq); (focus wtm_at "is")))
theorem BC(T:Txt K mg a):aK P w K mg base bc 1 a.ER a.DK oK (GJ K):=by
 refine T.ou.F.ok SD ?_ ?_;wtm_at "b1";refine⟨_,(aA (aG (df (aD (show ao _ (.builtin "isinstance") (dJ K)from hZ) rfl T.z_isinstance dG (aa (pv 0) (aa (eU (v:=.ty "int") rfl T.z_int rj rfl) ae))) (eB (nF (aD (show ao _ (.builtin "isinstance") (dJ K)from hZ) rfl T.z_isinstance dG (aa (pv 0) (aa (eU (v:=.ty "bool") rfl T.z_bool zvx rfl) ae)))))))),?_⟩;wtm_at "cl";rw[show start Bg [x0]=[some x0]from rfl];obtain⟨d,hd,q⟩:=h;k_few
 all_goals(cases d<;>simp_all [isInt,zl,AK])
def de(l m:Int):wu->Bool
 | .int i=>decide (l<=i)&&decide (i<=m)
 | _=>false
theorem ZL{l m:Int}{d:wu}(h:isInt d=false):de l m d=false:=by cases d<;>first | rfl | cases h
def Ii(K:wa):Sp:=λvs H Q _=>∃x0 x1 x2,vs=[x0,x1,x2] /\ ∃(l m:Int)(d:wu),x0=.int l/\x1=.int m/\Is K H x2 d/\Q (.bl (de l m d)) H
theorem sO{K:wa}{H:Hp}{Q:VK}{E:XK}{l m:Int}{v:V}{d:wu}(h:Is K H v d)(q:Q (.bl (de l m d)) H):Ii K [.int l,.int m,v] H Q E:=⟨_,_,_,rfl,l,m,d,rfl,rfl,h,q⟩
theorem yg(T:Txt K mg a):aK P w K mg base bc 2 a.Dp a.C4 oM (Ii K):=by
 refine T.l_.F.ok Tz ?_ ?_;wtm_at "b3";refine⟨_,(aA (aG (df (aB (BC T) hr T.ou (aa (pv 2) ae)) (eB (Mb gA gA (pv 0) (pv 2) (pv 1)))))),?_⟩;wtm_at "cl";rw[show start AF [x0,x1,x2]=[some x0,some x1,some x2]from rfl];obtain⟨l,m,d,rfl,rfl,hd,q⟩:=h;have hc:(∃i,d=.int i)\/isInt d=false:=by cases d<;>simp[isInt]
 rcases hc with⟨i,rfl⟩ | hn
 ·cases bR.mp hd
  have q:Q (.bl (decide (l<=i)&&decide (i<=m))) H:=q;k_few
  ·rename_i z
   rw[decide_eq_true z,wP]at q;exact q
  ·rename_i z
   rw[decide_eq_false z,vi]at q;exact q
  ·rename_i z;cases (show true=false from z)
 ·rw[ZL hn]at q
  k_few
  ·rename_i z1;rw[hn]at z1;cases z1
  ·exact q
def Li(K:wa):Sp:=λvs H Q _=>∃x0 x1,vs=[x0,x1] /\ ∃a b:Int,x0=.int a/\x1=.int b/\0<=a/\0<=b/\Q (.int (Wb a b:Nat)) H
theorem Be{K:wa}{H:Hp}{Q:VK}{E:XK}{a b:Int}(ha:0<=a)(hb:0<=b)(q:Q (.int (Wb a b:Nat)) H):Li K [.int a,.int b] H Q E:=⟨_,_,rfl,a,b,rfl,rfl,ha,hb,q⟩
theorem B7(T:Txt K mg a):aK P w K mg base bc 1 a.C1 a.CP sr (Li K):=by
 refine T.om.F.ok rR ?_ ?_;wtm_at "b2"
 refine⟨_,(aF (zt2 xw (bG (show ax _ (wQ .NotEq) (cM K)from dy hu) (pv 1) ak (aV _)) (aF (aX 2 rR.nd (aw jm (pv 0) (pv 1)))
     (aF (aX 0 rR.nd (pv 1))
     (aA (aX 1 rR.nd (pv 2))))))
     (aA (aG (pv 0)))),?_⟩
 wtm_at "cl";rw[show start GF [x0,x1]=[some x0,some x1,none]from rfl];obtain⟨a',b',rfl,rfl,ha,hb,q⟩:=h;refine Sr ?_;refine OG (λσ H'=>∃(x y:Int)(r:Option V),σ = [some (.int x),some (.int y),r]/\0<=x/\0<=y/\Wb x y=Wb a' b'/\H'=H) (λσ=>(Z7 σ 1).toNat) ⟨a',b',none,rfl,ha,hb,rfl,rfl⟩ ?_;rintro σ H' ⟨x,y,r,rfl,hx,hy,hg,rfl⟩;k_few
 . refine Uh ?_
   k_few;have h1:=xx x (show y≠0 by assumption);have h2:=QE x (show 0<y by omega);refine⟨?_,_,_,_,rfl,hy,h1,?_,rfl⟩
   . show(x % y).toNat<y.toNat
     omega
   . rw[<- hg];exact zuf (by omega) hx
 . rename_i h0
   subst h0
   have e:((Wb a' b':Nat):Int)=x:=by
     rw[<- hg,Int.gcd_zero_right];omega
   rw[e]at q;exact q
def aY:wu->Bool
 | .tuple [.int p,.int q]=>dU p q
 | _=>false
theorem m_(r:Rat):aY (N r)=true:=GV r
theorem UG{d:wu}(h:fJ d=false):aY d=false:=by
 cases d<;>first | rfl | (simp[fJ]at h)
theorem Ry{ds:List wu}(h:¬ ds.length=2):aY (.tuple ds)=false:=by
 match ds with
 | []=>rfl
 | [_]=>simp[aY]
 | [_,_]=>exact absurd rfl h
 | _::_::_::_=>simp[aY]
theorem zmq{d e:wu}(h:isInt d=false):aY (.tuple [d,e])=false:=by
 cases d<;>first | rfl | (simp[isInt]at h)
theorem YW{d e:wu}(h:isInt e=false):aY (.tuple [d,e])=false:=by
 cases d<;>cases e<;>first | rfl | (simp[isInt]at h)
theorem Mg{d:wu} : isInt d=true ↔ ∃i,d=.int i:=by cases d<;>simp[isInt]
def Hr(K:wa):Sp:=λvs H Q _=>∃x0,vs=[x0] /\ ∃d,Is K H x0 d/\Q (.bl (aY d)) H
theorem zl3{K:wa}{H:Hp}{Q:VK}{E:XK}{v:V}{d:wu}(h:Is K H v d)(q:Q (.bl (aY d)) H):Hr K [v] H Q E:=⟨v,rfl,d,h,q⟩
local macro_rules | `(tactic| wtm_at "gs")=>`(tactic| ((with_reducible apply zl3); (focus wtm_at "is")))
theorem lq(T:Txt K mg a):aK P w K mg base bc 2 a.Ey a.DH ye (Hr K):=by
 refine T.jP.F.ok Ui ?_ ?_;wtm_at "b1"
 refine⟨_,(aF (bI (PW.pt (cv (bA (bC (aD (show ao _ (.builtin "isinstance") (dJ K)from hZ) rfl T.z_isinstance dG (aa (pv 0) (aa (eU (v:=.ty "tuple") rfl T.z_tuple dY rfl) ae))))) (cY (bG (show ax _ (wQ .NotEq) (cM K)from dy hu) (aD (show ao _ (.builtin "len") (a_ K)from bz) rfl T.z_len bo (aa (pv 0) ae)) ak (aV _))))) (aA (aG cK)) bH)
     (aF (bI (PW.pt (cv (bA (bC (aB (BC T) hr T.ou (aa (aJ (pv 0)) ae)))) (cY (bA (bC (aB (BC T) hr T.ou (aa (aJ (pv 0)) ae))))))) (aA (aG cK)) bH)
     (aA (aG (df (dH JQ (aJ (pv 0)) ak (aV _)) (eB (dH (show ax _ (wQ .Eq) (cU K)from dO hu) (aB (B7 T) hr T.om (aa (aD Il rfl T.z_abs Ml (aa (aJ (pv 0)) ae)) (aa (aJ (pv 0)) ae))) ak (aV _)))))))),?_⟩
 wtm_at "cl";rw[show start BS [x0]=[some x0]from rfl];obtain⟨d,hd,q⟩:=h;k_few
 . rename_i e
   rw[UG e]at q;exact q
 . rename_i e
   obtain⟨ds,rfl⟩:=KG.mp e;refine kh hd ?_;k_few
   . rename_i e
     rw[Ry (by omega)]at q;exact q
   . rename_i e
     obtain⟨d0,d1,rfl⟩:∃d0 d1,ds=[d0,d1]:=by
       match ds,e with
       | [d0,d1],_=>exact⟨d0,d1,rfl⟩
       | [],e=>simp at e
       | [_],e=>simp at e
       | _::_::_::_,e=>simp at e;omega
     refine dC (j:=0) hd rfl (λy0 h0=>?_);k_few
     . rename_i e
       rw[zmq e]at q;exact q
     . rename_i e0
       obtain⟨i,rfl⟩:=Mg.mp e0;refine dC (j:=1) hd rfl (λy1 h1=>?_);k_few
       . rename_i e
         rw[YW e]at q;exact q
       . rename_i e1
         obtain⟨j,rfl⟩:=Mg.mp e1;refine dC (j:=1) hd rfl (λy2 h2=>?_);cases bR.mp h2;k_few
         . refine dC (j:=0) hd rfl (λy3 h3=>?_)
           cases bR.mp h3;o_head dC (j:=1) hd rfl (λy4 h4=>?_);cases bR.mp h4;o_head Be (by split<;>omega) (by omega) ?_;k_few
           have e3:aY (.tuple [.int i,.int j])=decide ((Wb (if i<0 then -i else i) j:Nat)=(1:Int)):=by
             have e4:Wb (if i<0 then -i else i) j=Wb i j:=by
               split<;>simp
             rw[e4]
             show dU i j=_
             rename_i e5;simp only[dU,e5,decide_true,wP];rw[WP,decide_eq_true_eq,decide_eq_true_eq];omega
           rw[e3]at q;exact q
         . rename_i e5
           have e3:aY (.tuple [.int i,.int j])=false:=by
             show dU i j=false
             simp only[dU,e5,decide_false,vi]
           rw[e3]at q;exact q
def Kl(K:wa):Sp:=λvs H Q _=>∃x0 x1,vs=[x0,x1] /\ ∃(x y:Rat),Is K H x0 (N x)/\Is K H x1 (N y)/\aM 8999 x/\aM 8999 y /\ ∀v H',af H H'->Is K H' v (N (x+y))->Q v H'
theorem Yu{K:wa}{H:Hp}{Q:VK}{E:XK}{x y:Rat}{v w:V}(h1:Is K H v (N x))(h2:Is K H w (N y))(b1:aM 8999 x)(b2:aM 8999 y)(q:∀v H',af H H'->Is K H' v (N (x+y))->Q v H'):Kl K [v,w] H Q E:=⟨_,_,rfl,x,y,h1,h2,b1,b2,q⟩
local macro_rules | `(tactic| wtm_at "gs")=>`(tactic| ((with_reducible apply Yu); (focus wtm_at "is"); (focus wtm_at "is"); (focus wtm_at "bdr"); (focus wtm_at "bdr"); intro _ _ _ _))
theorem zvs(T:Txt K mg a):aK P w K mg base bc 2 a.plus a.Fg yo (Kl K):=by
 refine T.Fo.F.ok tW ?_ ?_;wtm_at "b2"
 refine⟨_,(aF (aX 2 tW.nd (aB (B7 T) hr T.om (aa (aJ (pv 0)) (aa (aJ (pv 1)) ae))))
     (aF (aX 3 tW.nd (aw av (aw fL (aJ (pv 0)) (aw jc (aJ (pv 1)) (pv 2))) (aw fL (aJ (pv 1)) (aw jc (aJ (pv 0)) (pv 2)))))
     (aF (aX 4 tW.nd (aB (B7 T) hr T.om (aa (aD Il rfl T.z_abs Ml (aa (pv 3) ae)) (aa (pv 2) ae))))
     (aA (aG (hJ (aa (aw jc (pv 3) (pv 4)) (aa (aw fL (aw jc (aJ (pv 0)) (pv 2)) (aw jc (aJ (pv 1)) (pv 4))) ae)))))))),?_⟩
 wtm_at "cl";rw[show start Hm [x0,x1]=[some x0,some x1,none,none,none]from rfl];obtain⟨x,y,hx,hy,⟨bx1,bx2⟩,⟨by1,by2⟩,q⟩:=h;have px:=den_pos x;have py:=den_pos y;have ps:=sR x y;have pd:=zd x y;have c1:AM 0 (eA x y):=⟨by omega,Bp bx2 (oa x y) px⟩;have c2:AM 0 (gW x y):=⟨by omega,Bp (Bp bx2 (oa x y) px) (AA x y) ps⟩;have f1:=As by2 (oS x y) ps;have f2:=As bx2 (oa x y) ps;have f3:=As by2 (uM (AA x y) (oS x y)) pd;o_head Be (by omega) (by omega) ?_;rw[show((Wb (x.den:Int) (y.den:Int):Nat):Int)=eA x y from rfl];k_few;rw[show x.num*(y.den:Int).fdiv (eA x y)+y.num*(x.den:Int).fdiv (eA x y)=jw x y from rfl];o_head Be (by split<;>omega) (by omega) ?_;rw[Z1,show((Wb (jw x y) (eA x y):Nat):Int)=gW x y from rfl];k_few;exact Y_ (U8 x y) (zwi x y) q
def LQ(K:wa):Sp:=λvs H Q _=>∃x0 x1,vs=[x0,x1] /\ ∃(x y:Rat),Is K H x0 (N x)/\Is K H x1 (N y)/\aM 4000 x/\aM 4000 y/\Q (.bl (decide (x<y))) H
theorem zvA{K:wa}{H:Hp}{Q:VK}{E:XK}{x y:Rat}{v w:V}(h1:Is K H v (N x))(h2:Is K H w (N y))(b1:aM 4000 x)(b2:aM 4000 y)(q:Q (.bl (decide (x<y))) H):LQ K [v,w] H Q E:=⟨_,_,rfl,x,y,h1,h2,b1,b2,q⟩
local macro_rules | `(tactic| wtm_at "gs")=>`(tactic| ((with_reducible apply zvA); (focus wtm_at "is"); (focus wtm_at "is"); (focus wtm_at "bdr"); (focus wtm_at "bdr")))
theorem kf(T:Txt K mg a):aK P w K mg base bc 1 a.less a.Fc rD (LQ K):=by
 refine T.jt.F.ok RF ?_ ?_;wtm_at "b2";refine⟨_,(aA (aG (dH zT (aw fL (aJ (pv 0)) (aJ (pv 1))) (aw fL (aJ (pv 1)) (aJ (pv 0))) (aV _)))),?_⟩;wtm_at "cl";rw[show start Bk [x0,x1]=[some x0,some x1]from rfl];obtain⟨x,y,hx,hy,⟨bx1,bx2⟩,⟨by1,by2⟩,q⟩:=h;k_few;rw[OI];exact q
def kN(x:Rat):Bool:=decide (0<x)&&(!decide (4<x))&&decide ((x.den:Int)<=8)
def Lh(K:wa):Sp:=λvs H Q _=>∃x0,vs=[x0] /\ ∃x:Rat,Is K H x0 (N x)/\aM 4000 x/\Q (.bl (kN x)) H
theorem Od{K:wa}{H:Hp}{Q:VK}{E:XK}{x:Rat}{v:V}(h:Is K H v (N x))(b:aM 4000 x)(q:Q (.bl (kN x)) H):Lh K [v] H Q E:=⟨_,rfl,x,h,b,q⟩
local macro_rules | `(tactic| wtm_at "gs")=>`(tactic| ((with_reducible apply Od); (focus wtm_at "is"); (focus wtm_at "bdr")))
theorem ZK(T:Txt K mg a):aK P w K mg base bc 2 a.Eu a.DD oY (Lh K):=by
 refine T.DL.F.ok Z9 ?_ ?_;wtm_at "b1";refine⟨_,(aA (aG (df (aB (kf T) hr T.jt (aa (b7 (v:=.ref a.mf) rfl T.yP rfl) (aa (pv 0) ae))) (df (nF (aB (kf T) hr T.jt (aa (b7 (v:=.ref a.yG) rfl T.Mt rfl) (aa (pv 0) ae)))) (eB (dH gA (aJ (pv 0)) (eV rfl T.MS) (aV _))))))),?_⟩;wtm_at "cl";rw[show start y_ [x0]=[some x0]from rfl];obtain⟨x,hx,bx,q⟩:=h;unfold kN at q;k_few
 ·rename_i h1 h2
  rw[decide_eq_true h1,decide_eq_false h2]at q;exact q
 ·rename_i h1 h2
  rw[decide_eq_true h1,decide_eq_true h2]at q;exact q
 ·rename_i h1
  rw[decide_eq_false h1]at q;exact q
def kE(x:Rat):Bool:=(!decide (x<0))&&(!decide (1<x))&&decide ((x.den:Int)<=12)
def FF(K:wa):Sp:=λvs H Q _=>∃x0,vs=[x0] /\ ∃x:Rat,Is K H x0 (N x)/\aM 4000 x/\Q (.bl (kE x)) H
theorem PM{K:wa}{H:Hp}{Q:VK}{E:XK}{x:Rat}{v:V}(h:Is K H v (N x))(b:aM 4000 x)(q:Q (.bl (kE x)) H):FF K [v] H Q E:=⟨_,rfl,x,h,b,q⟩
local macro_rules | `(tactic| wtm_at "gs")=>`(tactic| ((with_reducible apply PM); (focus wtm_at "is"); (focus wtm_at "bdr")))
theorem UI(T:Txt K mg a):aK P w K mg base bc 2 a.ET a.DT tD (FF K):=by
 refine T.Ea.F.ok Tf ?_ ?_;wtm_at "b1";refine⟨_,(aA (aG (df (nF (aB (kf T) hr T.jt (aa (pv 0) (aa (b7 (v:=.ref a.mf) rfl T.yP rfl) ae)))) (df (nF (aB (kf T) hr T.jt (aa (b7 (v:=.ref a.mi) rfl T.yT rfl) (aa (pv 0) ae)))) (eB (dH gA (aJ (pv 0)) (eV rfl T.MX) (aV _))))))),?_⟩;wtm_at "cl";rw[show start AL [x0]=[some x0]from rfl];obtain⟨x,hx,bx,q⟩:=h;unfold kE at q;k_few
 ·rename_i h1 h2
  rw[decide_eq_false h1,decide_eq_false h2]at q;exact q
 ·rename_i h1 h2
  rw[decide_eq_false h1,decide_eq_true h2]at q;exact q
 ·rename_i h1
  rw[decide_eq_true h1]at q;exact q
def eW(x y:Rat):Bool:=kN x&&kE y && !decide (x+y<1)
def BL(K:wa):Sp:=λvs H Q _=>∃x0 x1,vs=[x0,x1]/\((∃d e,Is K H x0 d/\Is K H x1 e/\(aY d&&aY e)=false /\ ∀H',af H H'->Q (.bl false) H')\/(∃x y:Rat,Is K H x0 (N x)/\Is K H x1 (N y)/\aM 1000 x/\aM 1000 y /\ ∀H',af H H'->Q (.bl (eW x y)) H'))
theorem Ux{K:wa}{H:Hp}{Q:VK}{E:XK}{d e:wu}{v w:V}(h1:Is K H v d)(h2:Is K H w e)(n:(aY d&&aY e)=false)(q:∀H',af H H'->Q (.bl false) H'):BL K [v,w] H Q E:=⟨_,_,rfl,.inl ⟨d,e,h1,h2,n,q⟩⟩
theorem U3{K:wa}{H:Hp}{Q:VK}{E:XK}{x y:Rat}{v w:V}(h1:Is K H v (N x))(h2:Is K H w (N y))(b1:aM 1000 x)(b2:aM 1000 y)(q:∀H',af H H'->Q (.bl (eW x y)) H'):BL K [v,w] H Q E:=⟨_,_,rfl,.inr ⟨x,y,h1,h2,b1,b2,q⟩⟩
theorem zmG(T:Txt K mg a):aK P w K mg base bc 3 a.ED a.DC rS (BL K):=by
 refine T.DV.F.ok O6 ?_ ?_;wtm_at "b2"
 refine⟨_,(aF (bI (PW.pt (cv (bA (bC (aB (lq T) hr T.jP (aa (pv 0) ae)))) (cY (bA (bC (aB (lq T) hr T.jP (aa (pv 1) ae))))))) (aA (aG cK)) bH)
     (aA (aG (df (aB (ZK T) hr T.DL (aa (pv 0) ae)) (df (aB (UI T) hr T.Ea (aa (pv 1) ae)) (eB (nF (aB (kf T) hr T.jt (aa (aB (zvs T) hr T.Fo (aa (pv 0) (aa (pv 1) ae))) (aa (b7 (v:=.ref a.mi) rfl T.yT rfl) ae)))))))))),?_⟩
 wtm_at "cl";rw[show start A4 [x0,x1]=[some x0,some x1]from rfl];rcases h with⟨d,e,hd,he,hn,q⟩ | ⟨x,y,hx,hy,bx,by',q⟩
 . k_few
   . exact q _ (af.refl _)
   . exact q _ (af.refl _)
   . rename_i h1 h2
     exact absurd hn (by rw[h1,h2];decide)
 . unfold eW at q
   k_few
   . rename_i z;rw[m_]at z;cases z
   . rename_i z;rw[m_]at z;cases z
   . rename_i h1 h2 v H' S hv
     rw[h1,h2]at q;exact q _ S
   . rename_i h1 h2
     rw[h1,h2]at q;exact q _ (af.refl _)
   . rename_i h1
     rw[h1]at q;exact q _ (af.refl _)
def tm:wu->Bool
 | .tuple [d,e]=>!(aY d&&aY e)
 | _=>true
theorem Th{d e:wu}(h:tm (.tuple [d,e])=true):(aY d&&aY e)=false:=by
 have h:(!(aY d&&aY e))=true:=h;cases z:(aY d&&aY e)with
 | false=>rfl
 | true=>rw[z]at h;exact absurd h (by decide)
def pS(K:wa):Sp:=λvs H Q _=>∃x0,vs=[x0]/\((∃d,Is K H x0 d/\tm d=true /\ ∀H',af H H'->Q (.bl false) H')\/(∃x y:Rat,Is K H x0 (R x y)/\aM 1000 x/\aM 1000 y /\ ∀H',af H H'->Q (.bl (eW x y)) H'))
theorem znI{K:wa}{H:Hp}{Q:VK}{E:XK}{d:wu}{v:V}(h:Is K H v d)(n:tm d=true)(q:∀H',af H H'->Q (.bl false) H'):pS K [v] H Q E:=⟨_,rfl,.inl ⟨d,h,n,q⟩⟩
theorem zp{K:wa}{H:Hp}{Q:VK}{E:XK}{x y:Rat}{v:V}(h:Is K H v (R x y))(b1:aM 1000 x)(b2:aM 1000 y)(q:∀H',af H H'->Q (.bl (eW x y)) H'):pS K [v] H Q E:=⟨_,rfl,.inr ⟨x,y,h,b1,b2,q⟩⟩
theorem PZ(T:Txt K mg a):aK P w K mg base bc 4 a.EY a.Ek sX (pS K):=by
 refine T.Et.F.ok zpj ?_ ?_;wtm_at "b1";refine⟨_,(aA (aG (df (aD (show ao _ (.builtin "isinstance") (dJ K)from hZ) rfl T.z_isinstance dG (aa (pv 0) (aa (eU (v:=.ty "tuple") rfl T.z_tuple dY rfl) ae))) (df (dH (show ax _ (wQ .Eq) (cU K)from dO hu) (aD (show ao _ (.builtin "len") (a_ K)from bz) rfl T.z_len bo (aa (pv 0) ae)) ak (aV _)) (eB (aB (zmG T) hr T.DV (aa (aJ (pv 0)) (aa (aJ (pv 0)) ae)))))))),?_⟩;wtm_at "cl";rw[show start A9 [x0]=[some x0]from rfl];rcases h with⟨d,hd,hn,q⟩ | ⟨x,y,hr,bx,by',q⟩
 ·k_few
  ·rename_i e
   obtain⟨ds,rfl⟩:=KG.mp e;refine kh hd ?_;k_few
   ·rename_i e
    obtain⟨d0,d1,rfl⟩:∃d0 d1,ds=[d0,d1]:=by
     match ds,e with
     | [d0,d1],_=>exact⟨d0,d1,rfl⟩
     | [],e=>simp at e
     | [_],e=>simp at e
     | _::_::_::_,e=>simp at e;omega
    refine dC (j:=0) hd rfl (λy0 h0=>?_);o_head dC (j:=1) hd rfl (λy1 h1=>?_);o_head Ux h0 h1 (Th hn) (λH' S=>?_);k_few;exact q _ S
   ·exact q _ (af.refl _)
  ·exact q _ (af.refl _)
 ·k_few
  refine U3 (by assumption) (by assumption) bx by' (λH' S=>?_);k_few;exact q _ S
def tM(K:wa):Sp:=λvs H Q _=>∃x0,vs=[x0]/\((∃d,Is K H x0 d/\aY d=false/\Q (.bl false) H)\/(∃x:Rat,Is K H x0 (N x)/\aM 4000 x/\Q (.bl (d5 x)) H))
theorem UK{K:wa}{H:Hp}{Q:VK}{E:XK}{d:wu}{v:V}(h:Is K H v d)(n:aY d=false)(q:Q (.bl false) H):tM K [v] H Q E:=⟨_,rfl,.inl ⟨d,h,n,q⟩⟩
theorem znu{K:wa}{H:Hp}{Q:VK}{E:XK}{x:Rat}{v:V}(h:Is K H v (N x))(b:aM 4000 x)(q:Q (.bl (d5 x)) H):tM K [v] H Q E:=⟨_,rfl,.inr ⟨x,h,b,q⟩⟩
theorem N_(T:Txt K mg a):aK P w K mg base bc 3 a.EF a.DX yb (tM K):=by
 refine T.Ej.F.ok Zb ?_ ?_;wtm_at "b1"
 refine⟨_,(aF (bI (PW.pt (cv (bA (bC (aB (lq T) hr T.jP (aa (pv 0) ae)))) (cY (bC (aB (kf T) hr T.jt (aa (pv 0) (aa (b7 (v:=.ref a.mf) rfl T.yP rfl) ae))))))) (aA (aG cK)) bH)
     (aA (aG (df (aB (kf T) hr T.jt (aa (pv 0) (aa (b7 (v:=.ref a.mi) rfl T.yT rfl) ae))) (eB (dH gA (aJ (pv 0)) (eV rfl T.M4) (aV _))))))),?_⟩
 wtm_at "cl";rw[show start Al [x0]=[some x0]from rfl];rcases h with⟨d,hd,hn,q⟩ | ⟨x,hx,bx,q⟩
 . k_few
   . exact q
   . rename_i e;rw[hn]at e;cases e
 . unfold d5 at q
   k_few
   . rename_i z;rw[m_]at z;cases z
   . rename_i h1
     rw[decide_eq_true h1]at q;exact q
   . rename_i h1 h2
     rw[decide_eq_false h1,decide_eq_true h2]at q;exact q
   . rename_i h1 h2
     rw[decide_eq_false h1,decide_eq_false h2]at q;exact q
def eE:wu->Bool
 | .tuple [.int p,.int q]=>dU p q&&d5 (WY p q)
 | _=>false
theorem Af(x:Rat):eE (N x)=d5 x:=by
 show(dU x.num x.den&&d5 (WY x.num x.den))=d5 x
 rw[GV,QF,wP]
theorem UN{d:wu}(h:aY d=true):∃x:Rat,d=N x:=by
 match d with
 | .tuple [.int p,.int q] =>
  obtain⟨r,e1,e2⟩:=BA (show dU p q=true from h);exact⟨r,by rw[e1,e2];rfl⟩
 | .none=>simp[aY]at h
 | .bool _=>simp[aY]at h
 | .int _=>simp[aY]at h
 | .str _=>simp[aY]at h
 | .list _=>simp[aY]at h
 | .dict _=>simp[aY]at h
 | .tuple []=>simp[aY]at h
 | .tuple [_]=>simp[aY]at h
 | .tuple (_::_::_::_)=>simp[aY]at h
 | .tuple [.none,_]=>simp[aY]at h
 | .tuple [.bool _,_]=>simp[aY]at h
 | .tuple [.str _,_]=>simp[aY]at h
 | .tuple [.tuple _,_]=>simp[aY]at h
 | .tuple [.list _,_]=>simp[aY]at h
 | .tuple [.dict _,_]=>simp[aY]at h
 | .tuple [.int _,.none]=>simp[aY]at h
 | .tuple [.int _,.bool _]=>simp[aY]at h
 | .tuple [.int _,.str _]=>simp[aY]at h
 | .tuple [.int _,.tuple _]=>simp[aY]at h
 | .tuple [.int _,.list _]=>simp[aY]at h
 | .tuple [.int _,.dict _]=>simp[aY]at h
theorem zur{d:wu}(h:aY d=false):eE d=false:=by
 unfold eE
 split
 ·rename_i p q
  rw[show dU p q=false from h];rfl
 ·rfl
theorem Gm{K:wa}{H:Hp}{Q:VK}{E:XK}{d:wu}{v:V}(h:Is K H v d)(b:∀x,d=N x->aM 4000 x)(q:Q (.bl (eE d)) H):tM K [v] H Q E:=by
 cases e:aY d with
 | false=>rw[zur e]at q;exact UK h e q
 | true =>
  obtain⟨x,rfl⟩:=UN e;rw[Af]at q;exact znu h (b x rfl) q
def zB(K:wa):Sp:=λvs H Q _=>∃x0,vs=[x0]/\((∃d,Is K H x0 d/\(hV d || fJ d)=false /\ ∀H',af H H'->Q (.bl false) H')\/(∃ds,(Is K H x0 (.list ds)\/Is K H x0 (.tuple ds))/\(∀e∈ds,∀x,e=N x->aM 4000 x) /\ ∀H',af H H'->Q (.bl (decide (1<=ds.length)&&decide (ds.length<=8)&&ds.all eE)) H')\/(∃(p:wd)(kvs:List (List Key × V)),x0=.ref p/\H p=some (.dT kvs) /\ ∀H',af H H'->Q (.bl false) H'))
theorem Pk{K:wa}{H:Hp}{Q:VK}{E:XK}{ds:List wu}{v:V}(h:Is K H v (.list ds)\/Is K H v (.tuple ds))(b:∀e∈ds,∀x,e=N x->aM 4000 x)(q:∀H',af H H'->Q (.bl (decide (1<=ds.length)&&decide (ds.length<=8)&&ds.all eE)) H'):zB K [v] H Q E:=⟨_,rfl,.inr (.inl ⟨ds,h,b,q⟩)⟩
def kX(K:wa)(H:Hp)(v:V):Prop:=(∃d,Is K H v d/\(hV d || fJ d)=false)\/(∃ds,(Is K H v (.list ds)\/Is K H v (.tuple ds))/\(∀e∈ds,∀x,e=N x->aM 4000 x)/\(decide (1<=ds.length)&&decide (ds.length<=8)&&ds.all eE)=false)\/(∃(p:wd)(kvs:List (List Key × V)),v=.ref p/\H p=some (.dT kvs))
theorem kX.by{K:wa}{H H':Hp}{v:V}(s:af H H')(h:kX K H v):kX K H' v:=by
 rcases h with⟨d,i,e⟩ | ⟨ds,i,b,e⟩ | ⟨p,kvs,e,h⟩
 ·exact .inl ⟨d,i.by s,e⟩
 ·exact .inr (.inl ⟨ds,i.imp (λz=>z.by s) (λz=>z.by s),b,e⟩)
 ·exact .inr (.inr ⟨p,kvs,e,s _ _ h⟩)
theorem N6{K:wa}{H:Hp}{Q:VK}{E:XK}{v:V}(h:kX K H v)(q:∀H',af H H'->Q (.bl false) H'):zB K [v] H Q E:=by
 rcases h with⟨d,i,e⟩ | ⟨ds,i,b,e⟩ | ⟨p,kvs,e,h⟩
 ·exact⟨_,rfl,.inl ⟨d,i,e,q⟩⟩
 ·exact⟨_,rfl,.inr (.inl ⟨ds,i,b,by rw[e];exact q⟩)⟩
 ·exact⟨_,rfl,.inr (.inr ⟨p,kvs,e,h,q⟩)⟩
theorem Z5(T:Txt K mg a):aK P w K mg base bc 4 a.Eh a.Dw yB (zB K):=by
 refine T.DG.F.ok ZO ?_ ?_;wtm_at "b1"
 refine⟨_,(aF (bI (PW.pt (cv (bA (bC (aD (show ao _ (.builtin "isinstance") (zN K)from Zf) rfl T.z_isinstance dG (aa (pv 0) (aa (hJ (aa (eU (v:=.ty "list") rfl T.z_list Bw rfl) (aa (eU (v:=.ty "tuple") rfl T.z_tuple dY rfl) ae))) ae))))) (cY (bA (KZ gA gA ak (aD (show ao _ (.builtin "len") (a_ K)from bz) rfl T.z_len bo (aa (pv 0) ae)) (eV rfl T.CQ)))))) (aA (aG cK)) bH)
     (aA (aG (aD (show ao _ (.builtin "all") (eY K)from f_ rfl) rfl T.z_all fC (aa (cT rfl (bU.by (N':=["one"]) (src:=[none]) rfl (show cw _ (az pB).names pW ["one"] [none]=true from by decide +kernel)) (kQ (pv 0)) (λ_ _ _ _ _=>(bZ (i:=0) (show(["one"]:List Str).Nodup from by decide) rfl (Or.inl rfl))) (λ_ _ _ _ _=>cI) (λ_ _ _ _ _=>(aB (N_ (K:=K) (mg:=mg) (a:=a) T) hr T.Ej (aa (pv 0) ae)))) ae))))),?_⟩
 wtm_at "cl";rw[show start pW [x0]=[some x0]from rfl];rcases h with⟨d,hd,hn,q⟩ | ⟨ds,hd,bd,q⟩ | ⟨p,kvs,rfl,hp,q⟩
 . k_few
   refine d8 (by simp) (λtp H1 _ S1 e1=>?_);o_head .inl (yp (hd.by S1) e1 ?_);rw[hn];k_few;exact q H1 S1
 . rcases hd with hd | hd
   . k_few
     refine d8 (by simp) (λtp H1 _ S1 e1=>?_);o_head .inl (yp (hd.by S1) e1 ?_);rw[show(hV (.list ds) || fJ (.list ds))=true from rfl];obtain⟨ap,us,rfl,hs,tu⟩:=bO.mp (hd.by S1);have hul:=tu.length;o_head kb hs ?_;rw[hul];k_few
     . rename_i z0 z
       have:=q H1 S1;rw[decide_eq_false (show ¬ ds.length<=8 by omega),We,vi]at this;exact this
     . rename_i z0 z
       have h1:1<=ds.length:=by omega
       have h8:ds.length<=8:=by omega
       refine .inl (fu (o0:=none) (tl:=[]) hs rfl (λj y H'=>y=.bl (eE (ds.getD j .none))) ?_ ?_)
       . intro D i x ys o H2 hx inv
         obtain⟨hi,ix⟩:=dz tu hx;o_head Gm (ix.by inv.same) (λx e=>bd _ (getD_mem hi) x e) ?_;k_few;exact dE inv (by omega) (λ_ _ _ _ _ z=>z) ⟨_,rfl⟩ (af.refl _) rfl
       . intro D ys H2 hn S2 hD hl hr
         have hys:ys=(ds.map eE).map V.bl:=by
           refine vF (by rw[hl,hul,wm,wm]) λj h1 h2=>?_
           have:=hr j ys[j] (wb h1);rw[this,vt,vt,wf,wb]
           rfl
         subst hys;o_head fE (.of hD) ?_;k_few;have e:(ds.map eE).all id=ds.all eE:=by rw[vW];rfl
         have:=q H2 (S1.trans S2);rw[decide_eq_true h1,decide_eq_true h8,<- e]at this;exact this
     . rename_i z
       have:=q H1 S1;rw[decide_eq_false (show ¬ 1<=ds.length by omega),vi,vi]at this;exact this
   . k_few
     refine d8 (by simp) (λtp H1 _ S1 e1=>?_);o_head .inl (yp (hd.by S1) e1 ?_);rw[show(hV (.tuple ds) || fJ (.tuple ds))=true from rfl];obtain⟨ap,us,rfl,hs,tu⟩:=bV.mp (hd.by S1);have hul:=tu.length;o_head KO hs ?_;rw[hul];k_few
     . rename_i z0 z
       have:=q H1 S1;rw[decide_eq_false (show ¬ ds.length<=8 by omega),We,vi]at this;exact this
     . rename_i z0 z
       have h1:1<=ds.length:=by omega
       have h8:ds.length<=8:=by omega
       refine .inr (oZ (o0:=none) (tl:=[]) hs rfl (λj y H'=>y=.bl (eE (ds.getD j .none))) ?_ ?_)
       . intro D i x ys o H2 hx inv
         obtain⟨hi,ix⟩:=dz tu hx;o_head Gm (ix.by inv.same) (λx e=>bd _ (getD_mem hi) x e) ?_;k_few;exact dE inv (by omega) (λ_ _ _ _ _ z=>z) ⟨_,rfl⟩ (af.refl _) rfl
       . intro D ys H2 hn S2 hD hl hr
         have hys:ys=(ds.map eE).map V.bl:=by
           refine vF (by rw[hl,hul,wm,wm]) λj h1 h2=>?_
           have:=hr j ys[j] (wb h1);rw[this,vt,vt,wf,wb]
           rfl
         subst hys;o_head fE (.of hD) ?_;k_few;have e:(ds.map eE).all id=ds.all eE:=by rw[vW];rfl
         have:=q H2 (S1.trans S2);rw[decide_eq_true h1,decide_eq_true h8,<- e]at this;exact this
     . rename_i z
       have:=q H1 S1;rw[decide_eq_false (show ¬ 1<=ds.length by omega),vi,vi]at this;exact this
 . k_few
   refine d8 (by simp) (λtp H1 _ S1 e1=>?_);o_head Yd (S1 _ _ hp) e1 ?_;k_few;exact q H1 S1
theorem IP{a b:Rat}(h:gM a b):eW a b=true:=by
 obtain⟨h1,h2,h3,h4,h5,h6,h7⟩:=h;have k2:¬ (4:Rat)<a:=qB.mpr h2;have k4:¬ b<0:=qB.mpr h4;have k5:¬ (1:Rat)<b:=qB.mpr h5;have k7:¬ a+b<1:=qB.mpr h7;have k3:(a.den:Int)<=8:=by omega
 have k6:(b.den:Int)<=12:=by omega
 simp[eW,kN,kE,h1,k2,k3,k4,k5,k6,k7]
theorem zxk{xs:List Rat}(h:∀x∈xs,jg x):(xs.map N).all eE=true:=by
 rw[wv];intro d hd;obtain⟨x,hx,rfl⟩:=vg.mp hd;rw[Af];exact(h x hx).is
theorem Ze{xs:List Rat}(h:∀x∈xs,jg x):∀e∈xs.map N,∀x,e=N x->aM 4000 x:=by
 intro e he x hx;obtain⟨y,hy,rfl⟩:=vg.mp he;rw[<- Iv hx];exact(h y hy).Zx.mono (by decide)
def zR(K:wa)(H:Hp)(v:V):Prop:=(∃d,Is K H v d/\tm d=true)\/(∃x y:Rat,Is K H v (R x y)/\aM 1000 x/\aM 1000 y/\eW x y=false)
theorem YG{K:wa}{H:Hp}{Q:VK}{E:XK}{v:V}(h:zR K H v)(q:∀H',af H H'->Q (.bl false) H'):pS K [v] H Q E:=by
 rcases h with⟨d,i,e⟩ | ⟨x,y,i,b1,b2,e⟩
 ·exact znI i e q
 ·exact zp i b1 b2 (by rw[e];exact q)
def sZ(K:wa)(a:Ad):Sp:=λvs H Q E=>∃x0 x1,vs=[x0,x1]/\((zR K H x0 /\ ∀H',af H H'->E (.ref a.cA) none H')\/(∃(ra rb:Rat),Is K H x0 (R ra rb)/\gM ra rb/\kX K H x1 /\ ∀H',af H H'->E (.ref a.cz) none H')\/(∃(ra rb:Rat)(xs:List Rat),Is K H x0 (R ra rb)/\gM ra rb/\(Is K H x1 (LN xs)\/Is K H x1 (TN xs))/\1<=xs.length/\xs.length<=8/\(∀x∈xs,jg x) /\ ∀v H',af H H'->Is K H' v (sF ra rb xs)->Q v H'))
theorem zml{K:wa}{a:Ad}{H:Hp}{Q:VK}{E:XK}{v w:V}(h:zR K H v)(q:∀H',af H H'->E (.ref a.cA) none H'):sZ K a [v,w] H Q E:=⟨_,_,rfl,.inl ⟨h,q⟩⟩
theorem zmQ{K:wa}{a:Ad}{H:Hp}{Q:VK}{E:XK}{ra rb:Rat}{v w:V}(h1:Is K H v (R ra rb))(ok:gM ra rb)(h:kX K H w)(q:∀H',af H H'->E (.ref a.cz) none H'):sZ K a [v,w] H Q E:=⟨_,_,rfl,.inr (.inl ⟨ra,rb,h1,ok,h,q⟩)⟩
theorem Rq{K:wa}{a:Ad}{H:Hp}{Q:VK}{E:XK}{ra rb:Rat}{xs:List Rat}{v w:V}(h1:Is K H v (R ra rb))(ok:gM ra rb)(h2:Is K H w (LN xs)\/Is K H w (TN xs))(h3:1<=xs.length)(h4:xs.length<=8)(h5:∀x∈xs,jg x)(q:∀v H',af H H'->Is K H' v (sF ra rb xs)->Q v H'):sZ K a [v,w] H Q E:=⟨_,_,rfl,.inr (.inr ⟨ra,rb,xs,h1,ok,h2,h3,h4,h5,q⟩)⟩
theorem RB(T:Txt K mg a):aK P w K mg base (bX P w) 5 a.EW a.DP sU (sZ K a):=by
 refine T.Ef.F.gR RP ?_ ?_;wtm_at "b2"
 refine⟨_,(aF (bI (bA (bC (aB (PZ T) hr T.Et (aa (pv 0) ae)))) (aA (fm T.Nv rfl rfl T.EM fB (aa ah ae))) bH)
     (aF (bI (bA (bC (aB (Z5 T) hr T.DG (aa (pv 1) ae)))) (aA (fm T.Nl rfl rfl T.Eo fB (aa ah ae))) bH)
     (aA (aG (hJ (aa (pv 0) (aa (eO (show ao _ (.type "tuple") (dS K)from ic) rfl T.z_tuple dY (aa (pv 1) ae)) ae))))))),?_⟩
 wtm_at "cl";rw[show start zY [x0,x1]=[some x0,some x1]from rfl];rcases h with⟨hn,qe⟩ | ⟨ra,rb,hr,ok,hn,qe⟩ | ⟨ra,rb,xs,hr,ok,hp,h1,h8,hph,q⟩
 . k_few
   refine YG hn (λH1 S1=>?_);k_few;exact⟨by simp;decide,qe H1 S1⟩
 . k_few
   refine zp hr (ok.ba.mono (by decide)) (ok.bb.mono (by decide)) (λH1 S1=>?_);rw[IP ok];o_head N6 (hn.by S1) (λH2 S2=>?_);k_few;exact⟨by simp;decide,qe H2 (S1.trans S2)⟩
 . k_few
   refine zp hr (ok.ba.mono (by decide)) (ok.bb.mono (by decide)) (λH1 S1=>?_);rw[IP ok];k_few;have hp1:Is K H1 x1 (LN xs)\/Is K H1 x1 (TN xs):=hp.imp (λz=>z.by S1) (λz=>z.by S1);refine Pk (ds:=xs.map N) hp1 (Ze hph) (λH2 S2=>?_);rw[zxk hph,wm,decide_eq_true h1,decide_eq_true h8,show(true&&true&&true)=true from rfl];have hp2:Is K H2 x1 (LN xs)\/Is K H2 x1 (TN xs):=hp1.imp (λz=>z.by S2) (λz=>z.by S2);have hr2:Is K H2 x0 (R ra rb):=(hr.by S1).by S2;k_few;rcases hp2 with z | z
   . refine nN z (λw H3 S3 i3=>?_)
     o_head jA (ds:=[R ra rb,TN xs]) (by simp) (.cons (hr2.by S3) (.cons i3 .nil)) (λv H4 S4 i4=>?_);exact q v H4 (S1.trans (S2.trans (S3.trans S4))) i4
   . refine BD z ?_
     o_head jA (ds:=[R ra rb,TN xs]) (by simp) (.cons hr2 (.cons z .nil)) (λv H4 S4 i4=>?_);exact q v H4 (S1.trans (S2.trans S4)) i4
def KY(K:wa):Sp:=λvs H Q _=>∃x0 x1,vs=[x0,x1] /\ ∃(h:Rat)(xs:List Rat)(ds:List wu)(n:Nat),Is K H x0 (.tuple (N h::TN xs::ds))/\x1=.int (n:Int)/\xs.length<=950 /\ ∀H',af H H'->Q (.bl (decide (xs.length=n))) H'
theorem GS{K:wa}{H:Hp}{Q:VK}{E:XK}{h:Rat}{xs:List Rat}{ds:List wu}{v:V}{n:Nat}(i:Is K H v (.tuple (N h::TN xs::ds)))(h8:xs.length<=950)(q:∀H',af H H'->Q (.bl (decide (xs.length=n))) H'):KY K [v,.int (n:Int)] H Q E:=⟨_,_,rfl,h,xs,ds,n,i,rfl,h8,q⟩
theorem Lu(T:Txt K mg a):aK P w K mg base bc 3 a.EE a.DA tP (KY K):=by
 refine T.yL.F.ok Tq ?_ ?_;wtm_at "b2"
 refine⟨_,(aF (bI (PW.pt (cv (bA (bC (aB (lq T) hr T.jP (aa (aJ (pv 0)) ae)))) (cv (bA (bC (aD (show ao _ (.builtin "isinstance") (dJ K)from hZ) rfl T.z_isinstance dG (aa (aJ (pv 0)) (aa (eU (v:=.ty "tuple") rfl T.z_tuple dY rfl) ae))))) (cY (bG (show ax _ (wQ .NotEq) (cM K)from dy hu) (aD (show ao _ (.builtin "len") (a_ K)from bz) rfl T.z_len bo (aa (aJ (pv 0)) ae)) (pv 1) (aV _)))))) (aA (aG cK)) bH)
     (aA (aG (aD (show ao _ (.builtin "all") (eY K)from f_ rfl) rfl T.z_all fC (aa (cT rfl (bU.by (N':=["phase"]) (src:=[none]) rfl (show cw _ (az sS).names sW ["phase"] [none]=true from by decide +kernel)) (zxq (aJ (pv 0))) (λ_ _ _ _ _=>(bZ (i:=0) (show(["phase"]:List Str).Nodup from by decide) rfl (Or.inl rfl))) (λ_ _ _ _ _=>cI) (λ_ _ _ _ _=>(aB (lq (K:=K) (mg:=mg) (a:=a) T) hr T.jP (aa (pv 0) ae)))) ae))))),?_⟩
 wtm_at "cl";rw[show start sW [x0,x1]=[some x0,some x1]from rfl];obtain⟨hh,xs,ds,n,hi,rfl,h8,q⟩:=h;have z:1000<=wC:=by decide
 o_head dC (j:=0) hi rfl (λv0 i0=>?_);k_few
 all_goals first | (rename_i e;rw[m_]at e;cases (show true=false from e)) | skip
 refine dC (j:=1) hi rfl (λv1 i1=>?_);k_few
 all_goals first | (rename_i e;cases (show true=false from e)) | skip
 refine dC (j:=1) hi rfl (λv2 i2=>?_);o_head KU i2 ?_;k_few
 . rename_i e
   have:=q H (af.refl _);rw[decide_eq_false (by omega)]at this;exact this
 rename_i e;have e:xs.length=n:=by omega
 rw[decide_eq_true e]at q;refine dC (j:=1) hi rfl (λv3 i3=>?_);k_few;obtain⟨a3,vs3,rfl,s3,t3⟩:=bV.mp i3;refine oZ s3 (o0:=none) (tl:=[]) rfl (λj y _=>y=.bl true) ?_ ?_
 . intro D j x ys o H1 hx inv
   obtain⟨hj,ix⟩:=Pr t3 hx;have ix:=ix.by inv.2.2.1;k_few;rw[m_];exact dE inv (by omega) (λ_ _ _ _ _ h=>h) ⟨_,rfl⟩ (af.refl _) rfl
 . intro D ys H1 n1 S1 e1 l1 r1
   have ey:ys=(w6 ys.length true).map V.bl:=by
     refine vF (by simp) λi h1 h2=>?_
     rw[r1 i ys[i] (wb h1)];simp
   rw[ey]at e1;o_head fE (.of e1) ?_;rw[show(w6 ys.length true).all id=true by simp];exact q _ S1
def iI(n:Nat)(xs:List Rat):List wu->Bool
 | [a,b]=>decide (xs.length=n)&&(de 0 30 a&&de 0 40 b)
 | _=>false
theorem Um{n:Nat}{xs:List Rat}{es:List wu}(h:es.length≠2):iI n xs es=false:=by
 match es with
 | []=>rfl
 | [_]=>rfl
 | [_,_]=>exact absurd rfl h
 | _::_::_::_=>rfl
def LR(K:wa):Sp:=λvs H Q _=>∃x0 x1,vs=[x0,x1] /\ ∃(h:Rat)(xs:List Rat)(es:List wu)(n:Nat),Is K H x0 (.tuple (N h::TN xs::es))/\x1=.int (n:Int)/\xs.length<=950 /\ ∀H',af H H'->Q (.bl (iI n xs es)) H'
theorem zq0{K:wa}{H:Hp}{Q:VK}{E:XK}{h:Rat}{xs:List Rat}{es:List wu}{v:V}{n:Nat}(i:Is K H v (.tuple (N h::TN xs::es)))(h8:xs.length<=950)(q:∀H',af H H'->Q (.bl (iI n xs es)) H'):LR K [v,.int (n:Int)] H Q E:=⟨_,_,rfl,h,xs,es,n,i,rfl,h8,q⟩
theorem YS(T:Txt K mg a):aK P w K mg base bc 4 a.Fm a.El si (LR K):=by
 refine T.EL.F.ok zre ?_ ?_;wtm_at "b2"
 refine⟨_,(aF (bI (PW.pt (cv (bA (bC (aD (show ao _ (.builtin "isinstance") (dJ K)from hZ) rfl T.z_isinstance dG (aa (pv 0) (aa (eU (v:=.ty "tuple") rfl T.z_tuple dY rfl) ae))))) (cv (bG (show ax _ (wQ .NotEq) (cM K)from dy hu) (aD (show ao _ (.builtin "len") (a_ K)from bz) rfl T.z_len bo (aa (pv 0) ae)) ak (aV _)) (cY (bA (bC (aB (Lu T) hr T.yL (aa (pv 0) (aa (pv 1) ae))))))))) (aA (aG cK)) bH)
     (aA (aG (df (aB (yg T) hr T.l_ (aa ak (aa (eV rfl T.Nc) (aa (aJ (pv 0)) ae)))) (eB (aB (yg T) hr T.l_ (aa ak (aa (eV rfl T.M9) (aa (aJ (pv 0)) ae))))))))),?_⟩
 wtm_at "cl";rw[show start A_ [x0,x1]=[some x0,some x1]from rfl];obtain⟨hh,xs,es,n,hi,rfl,h8,q⟩:=h;k_few
 all_goals first | (rename_i e;cases (show true=false from e)) | skip
 refine kh hi ?_;simp only[wW];k_few
 . rename_i e
   have:=q H (af.refl _);rw[Um (by omega)]at this;exact this
 rename_i e
 obtain⟨a,b,rfl⟩:∃a b,es=[a,b]:=by
   match es,e with
   | [a,b],_=>exact⟨a,b,rfl⟩
   | [],e=>simp at e
   | [_],e=>simp at e
   | _::_::_::_,e=>simp at e;omega
 refine GS hi h8 (λH1 S1=>?_);have hi1:=hi.by S1;have q:∀H',af H H'->Q (.bl (decide (xs.length=n)&&(de 0 30 a&&de 0 40 b))) H':=q;cases hn:decide (xs.length=n)with
 | false =>
   rw[hn]at q;k_few;exact q H1 S1
 | true =>
 rw[hn,wP]at q;o_head dC (j:=2) hi1 rfl (λv2 i2=>?_);o_head sO i2 ?_;cases h2:de 0 30 a with
 | false =>
   rw[h2]at q;k_few;exact q H1 S1
 | true =>
 rw[h2,wP]at q;o_head dC (j:=3) hi1 rfl (λv3 i3=>?_);o_head sO i3 ?_;exact q _ S1
theorem g_(n:Nat):(bu n).length=(aZ n).length:=by simp[bu,ub]
theorem YQ:(wq "0123456789")=jl:=by decide
theorem iH{x:wn}(h:x.cps.all (· < 128)=true):vJ x=true:=by
 unfold vJ;rw[<- Vd,wv]at h ⊢;intro c hc;have:=of_decide_eq_true (h c hc);exact decide_eq_true (by omega)
theorem bY(x y:wn):(x++y).length=x.length+y.length:=by
 show(x.cps++y.cps).size=x.cps.size+y.cps.size
 simp
theorem Bz(x:wn):Qd++x=x:=by
 cases x with | mk c=>show(⟨#[]++c⟩:wn)=_;simp
theorem Jb(n:Nat):n<10^(aZ n).length:=by
 induction n using VT with
 | ind n ih =>
  by_cases h:n<10
  ·rw[iF h];simpa using h
  ·rw[j7 (by omega),vQ,V9,W5]
   have:=ih (n / 10) (by omega);omega
structure mn(k:Nat)(r:Rat):Prop where
 n:(aZ r.num.natAbs).length<=k
 d:(aZ r.den).length<=k
theorem G9{n:Nat}(h:(aZ n).length<=400):n.log2<1920:=by
 by_cases z:n=0
 ·subst z;decide
 ·rw[Nat.log2_lt z]
  refine ve (Jb n) (vd (Vu (by decide) h) ?_);rw[show 1920=4*480 from rfl,Nat.pow_mul];exact vd (Nat.pow_le_pow_left (show 10<=2^4 by decide) 400) (Vu (by decide) (by decide))
theorem yD:(wq "/")=⟨#[47]⟩:=by decide
theorem Sn:(wq "-")=⟨#[45]⟩:=by decide
theorem Yr{x:wn}(h:∀c,127<c->c ∉ x.cps.toList):vJ x=true:=iH (by
 rw[<- Vd,wv];intro c hc;refine decide_eq_true ?_;rcases w9 c 128 with z | z
 ·exact z
 ·exact absurd hc (h c (by omega)))
theorem PQ(r:Rat):vJ (iJ r)=true:=Yr λc h=>OK (by omega)
theorem zev(x:wn):x.length=x.cps.toList.length:=by simp[ub]
theorem SA(z:Int):(gH z).length<=(aZ z.natAbs).length+1:=by
 unfold gH
 split
 ·rw[bY,g_]
  show 1+_<=_
  omega
 ·rw[g_];omega
theorem RX(n:Nat):1<=(bu n).length:=by rw[g_];exact List.length_pos_iff.mpr (rn n)
theorem PH(n:Nat):gH (n:Int)=bu n:=by
 unfold gH;rw[if_neg (by omega)]
 rfl
theorem AS(x:V)(xs:List V):d6 (x::xs) (some 1) none=xs:=by
 unfold d6;have e1:HT.aE (x::xs).length 0 (some 1)=1:=by simp[HT.aE]
 have e2:HT.aE (x::xs).length (x::xs).length none=(x::xs).length:=by simp[HT.aE]
 rw[e1,e2];simp
theorem GK(x y z:wn):x++y++z=x++(y++z):=by
 refine V1 (Wp.mp ?_);rw[cx,cx,cx,cx,V5]
def nV(w:wn):Prop:=w=wq "one"\/w=wq "rests"\/w=wq "drawn"
def kT(w:wn):Bool:=(w == wq "one") || ((w == wq "rests") || (w == wq "drawn"))
theorem ZG{w:wn} : kT w=true ↔ nV w:=by
 unfold kT nV;simp only[qp,beq_iff_eq]
def lJ(n:Nat)(xs:List Rat):List wu->Bool
 | [.str w]=>decide (xs.length=n)&&kT w
 | _=>false
theorem Yt{n:Nat}{xs:List Rat}{es:List wu}(h:es.length≠1):lJ n xs es=false:=by
 match es with
 | []=>rfl
 | [_]=>exact absurd rfl h
 | a::_::_=>cases a<;>rfl
def Kx(K:wa):Sp:=λvs H Q _=>∃x0 x1,vs=[x0,x1] /\ ∃(h:Rat)(xs:List Rat)(es:List wu)(n:Nat),Is K H x0 (.tuple (N h::TN xs::es))/\x1=.int (n:Int)/\xs.length<=950/\(∀e∈es,(∃w,e=.str w/\vJ w=true) \/ ∃z,e=.int z) /\ ∀H',af H H'->Q (.bl (lJ n xs es)) H'
theorem Sw{K:wa}{H:Hp}{Q:VK}{E:XK}{h:Rat}{xs:List Rat}{es:List wu}{v:V}{n:Nat}(i:Is K H v (.tuple (N h::TN xs::es)))(h8:xs.length<=950)(he:∀e∈es,(∃w,e=.str w/\vJ w=true) \/ ∃z,e=.int z)(q:∀H',af H H'->Q (.bl (lJ n xs es)) H'):Kx K [v,.int (n:Int)] H Q E:=⟨_,_,rfl,h,xs,es,n,i,rfl,h8,he,q⟩
def sY:List wu:=[.str (wq "one"),.str (wq "rests"),.str (wq "drawn")]
theorem LP{w:wn}(h:vJ w=true):Sh 1 (.str w):=⟨by simpa [Wd] using h,by simp[VG]⟩
theorem ZQ:Wd (.tuple sY)=true:=(zxQ (n:=1) λd hd=>by
 simp only[sY,wO,WH,or_false]at hd;rcases hd with rfl | rfl | rfl<;>exact LP (d4 _)).1
theorem Kr{K:wa}{H:Hp}{Q:VK}{p:wd}{w:wn}(t:aP K H p [.str (wq "one"),.str (wq "rests"),.str (wq "drawn")])(h:vJ w=true)(q:∀k:Bool,(k=true ↔ nV w)->Q (.bl k) H):yt K (.str w) (.ref p) H Q:=by
 refine⟨.str w,sY,dj.mpr rfl,bV.mpr ⟨p,_,rfl,t,.cons (dj.mpr rfl) (.cons (dj.mpr rfl) (.cons (dj.mpr rfl) .nil))⟩,(LP h).mono (by decide),ZQ,q _ ?_⟩;unfold sY nV;simp only[List.any_cons,List.any_nil,Wm,uJ,qp,beq_iff_eq]
 constructor
 ·rintro (h | h | h)
  ·exact .inl h.symm
  ·exact .inr (.inl h.symm)
  ·exact .inr (.inr h.symm)
 ·rintro (h | h | h)
  ·exact .inl h.symm
  ·exact .inr (.inl h.symm)
  ·exact .inr (.inr h.symm)
theorem zkv(T:Txt K mg a):aK P w K mg base bc 4 a.DI a.Dd oU (Kx K):=by
 refine T.Dk.F.ok ZC ?_ ?_;wtm_at "b2";have hgd:=hr.gd
 refine⟨_,(aF (bI (PW.pt (cv (bA (bC (aD (show ao _ (.builtin "isinstance") (dJ K)from hZ) rfl T.z_isinstance dG (aa (pv 0) (aa (eU (v:=.ty "tuple") rfl T.z_tuple dY rfl) ae))))) (cv (bG (show ax _ (wQ .NotEq) (cM K)from dy hu) (aD (show ao _ (.builtin "len") (a_ K)from bz) rfl T.z_len bo (aa (pv 0) ae)) ak (aV _)) (cY (bA (bC (aB (Lu T) hr T.yL (aa (pv 0) (aa (pv 1) ae))))))))) (aA (aG cK)) bH)
     (aA (aG (df (aD (show ao _ (.builtin "isinstance") (dJ K)from hZ) rfl T.z_isinstance dG (aa (aJ (pv 0)) (aa (eU (v:=.ty "str") rfl T.z_str r_ rfl) ae))) (eB (dH (show ax _ (wQ .In) (yt K)from Lk hu) (aJ (pv 0)) (b7 (v:=.ref a.oB) rfl T.Fe rfl) (by with_unfolding_all rfl))))))),?_⟩
 wtm_at "cl";rw[show start zD [x0,x1]=[some x0,some x1]from rfl];obtain⟨hh,xs,es,n,hi,rfl,h8,he,q⟩:=h;k_few
 all_goals first | (rename_i e;cases (show true=false from e)) | skip
 refine kh hi ?_;simp only[wW];k_few
 . rename_i e
   have:=q H (af.refl _);rw[Yt (by omega)]at this;exact this
 rename_i e
 obtain⟨d,rfl⟩:∃d,es=[d]:=by
   match es,e with
   | [d],_=>exact⟨d,rfl⟩
   | [],e=>simp at e
   | _::_::_,e=>simp at e;omega
 refine GS hi h8 (λH1 S1=>?_);have hi1:=hi.by S1;cases hn:decide (xs.length=n)with
 | false =>
   have ef:lJ n xs [d]=false:=by
     rcases he d (by simp)with⟨w,rfl,_⟩ | ⟨z,rfl⟩
     . show(decide (xs.length=n)&&kT w)=false
       rw[hn];rfl
     . rfl
   rw[ef]at q;k_few;exact q H1 S1
 | true =>
 o_head dC (j:=2) hi1 rfl (λv2 i2=>?_);o_head BU i2 ?_;rcases he d (by simp)with⟨w,rfl,hw⟩ | ⟨z,rfl⟩
 . rw[show kS (.str w)=true from rfl]
   have q:∀H',af H H'->Q (.bl (decide (xs.length=n)&&kT w)) H':=q;rw[hn,wP]at q;o_head dC (j:=2) hi1 rfl (λv3 i3=>?_);cases dj.mp i3;o_head Kr (T.Fb _) hw (λk hk=>?_);have ek:k=kT w:=by rw[WP,hk,ZG]
   rw[ek];exact q _ S1
 . rw[show kS (.int z)=false from rfl]
   k_few;exact q _ S1
def gE(c:Nat):Bool:=decide (48<=c)&&decide (c<=57)
theorem Oo(c:Nat):(!(vE jl ⟨#[c]⟩ 0 jl.length 1).isEmpty)=gE c:=by
 have key:(∃i:Nat,jl.cps.toList[i]? = some c) ↔ gE c=true:=by
  unfold gE;rw[wD,decide_eq_true_eq,decide_eq_true_eq]
  constructor
  ·rintro ⟨i,hi⟩
   have:=vz hi;have e:jl.cps.toList=[48,49,50,51,52,53,54,55,56,57]:=rfl;rw[e]at this;simp only[wO,WH,or_false]at this;omega
  ·rintro ⟨h1,h2⟩
   have e:jl.cps.toList=[48,49,50,51,52,53,54,55,56,57]:=rfl;refine⟨c-48,?_⟩;rw[e];obtain⟨d,rfl⟩:∃d,c=48+d:=⟨c-48,by omega⟩;have:d=0\/d=1\/d=2\/d=3\/d=4\/d=5\/d=6\/d=7\/d=8\/d=9:=by omega
   rcases this with rfl | rfl | rfl | rfl | rfl | rfl | rfl | rfl | rfl | rfl<;>rfl
 rcases xf jl ⟨#[c]⟩ 1 (wx 1)with⟨h0,hn⟩ | ⟨i,r,h0,hi,hn⟩
 ·rw[h0]
  cases e:gE c with
  | false=>rfl
  | true =>
   obtain⟨i,hi⟩:=key.mpr e;exact absurd ((XI jl c i).mpr hi) (hn i)
 ·rw[h0,key.mp ⟨i,(XI jl c i).mp hi⟩]
  rfl
def wT(x:wn)(m:Int):Bool:=decide (1<=x.length)&&(decide ((x.length:Int)<=m)&&(x.cps.toList.all gE&&((x == wq "0") || !(x.cps.toList.head? == some 48))))
theorem JL(l:List Nat)(d:Nat):cN (l++[d])=cN l*10+d:=by unfold cN;rw[XG];rfl
theorem JB{P:List Nat->Prop}(h0:P [])(h1:∀l d,P l->P (l++[d])):∀l,P l:=λl=>by
 have:P l.reverse.reverse:=by
  generalize l.reverse=r
  induction r with
  | nil=>exact h0
  | cons d r ih=>rw[QR];exact h1 _ _ ih
 rwa[List.reverse_reverse]at this
theorem Oz:∀{l:List Nat},l≠[]->l.head? ≠ some 0->1<=cN l:=by
 intro l;refine JB (P:=λl=>l≠[]->l.head? ≠ some 0->1<=cN l) ?_ ?_ l
 ·intro h;exact absurd rfl h
 ·intro l d ih _ h
  rw[JL];cases l with
  | nil =>
   have:d≠0:=λe=>h (by rw[e];rfl)
   show 1<=0*10+d
   omega
  | cons e l =>
   have:=ih (by simp) h;omega
theorem Zm:∀{l:List Nat},l≠[]->(∀d∈l,d<10)->(l.head? ≠ some 0\/l=[0])->aZ (cN l)=l:=by
 intro l;refine JB (P:=λl=>l≠[]->(∀d∈l,d<10)->(l.head? ≠ some 0\/l=[0])->aZ (cN l)=l) ?_ ?_ l
 ·intro h;exact absurd rfl h
 ·intro l d ih _ hd h
  have d10:=hd d (by simp);rw[JL];cases l with
  | nil =>
   show aZ (0*10+d)=[d]
   rw[Nat.zero_mul,Nat.zero_add,iF d10]
  | cons e l =>
   have h':(e::l).head? ≠ some 0:=by
    rcases h with h | h
    ·exact h
    ·simp at h
   have p:=Oz (by simp) h';rw[j7 (by omega),show(cN (e::l)*10+d) / 10=cN (e::l) by omega,show(cN (e::l)*10+d) % 10=d by omega,ih (by simp) (λx hx=>hd x (Wl _ hx)) (.inl h')]
def cn(x:wn):Nat:=cN (x.cps.toList.map (· - 48))
theorem rT{x:wn}{m:Int}(h:wT x m=true):x=bu (cn x)/\((aZ (cn x)).length:Int)<=m:=by
 unfold wT at h;rw[wD,wD,wD,decide_eq_true_eq,decide_eq_true_eq]at h;obtain⟨h1,h2,h3,h4⟩:=h;rw[zev]at h1 h2
 have fig:∀c∈x.cps.toList,48<=c/\c<=57:=λc hc=>by
  have:=wv.mp h3 c hc;unfold gE at this;rw[wD,decide_eq_true_eq,decide_eq_true_eq]at this;exact this
 have back:(x.cps.toList.map (· - 48)).map (48 + ·)=x.cps.toList:=by
  rw[Wu]
  conv=>rhs;rw[<- XS x.cps.toList]
  refine VM λc hc=>?_
  have:=fig c hc
  show 48+(c-48)=c
  omega
 have e:aZ (cn x)=x.cps.toList.map (· - 48):=by
  refine Zm (λz=>by rw[Xc]at z;rw[z]at h1;simp at h1) (λd hd=>?_) ?_
  ·obtain⟨c,hc,rfl⟩:=vg.mp hd
   have:=fig c hc
   show c-48<10
   omega
  ·rw[qp]at h4
   rcases h4 with h4 | h4
   ·right
    rw[eq_of_beq h4]
    decide
   ·left
    intro z;rw[List.head?_map]at z;obtain⟨c,hc,e⟩:=vA.mp z;have:=fig c (List.mem_of_mem_head? hc);have e48:c=48:=by omega
    rw[hc,e48]at h4;simp at h4
 refine⟨V1 (Wp.mp ?_),?_⟩
 ·unfold bu
  rw[e]
  simpa using back.symm
 ·rw[e,wm]
  exact h2
theorem Sv(c:Nat):((⟨#[c]⟩:wn) == wq "0")=decide (c=48):=by
 have e:wq "0"=⟨#[48]⟩:=by decide
 rw[e]
 by_cases h:c=48
 ·subst h;simp
 ·rw[decide_eq_false h]
  simp only[beq_eq_false_iff_ne,ne_eq];intro z;exact h (by simpa using congrArg (λs:wn=>s.cps.toList) z)
def jE(g:Bool)(a:Nat)(od:Option Nat):wn:=(if g then⟨#[45]⟩++bu a else bu a)++(match od with | none=>⟨#[]⟩ | some d=>⟨#[47]⟩++bu d)
def eK(g:Bool)(a:Nat):wn:=if g then⟨#[45]⟩++bu a else bu a
def jb(g:Bool)(a:Nat):Int:=if g then -(a:Int)else a
theorem IV{g:Bool}{a c:Nat}(h:c<48/\c≠45\/57<c):c ∉ (eK g a).cps.toList:=by
 have hn:c ∉ (bu a).cps.toList:=by
  rcases h with h | h
  ·exact BG h.1
  ·exact BP h
 unfold eK
 split
 ·exact yA (zJ (by omega)) hn
 ·exact hn
theorem zX(x:wn):x++⟨#[]⟩=x:=by
 refine V1 (Wp.mp ?_);rw[cx];simp
theorem LL(g:Bool)(a:Nat)(od:Option Nat):Wv (jE g a od) "/"=match od with | none=>(eK g a,Qd,Qd) | some d=>(eK g a,⟨#[47]⟩,bu d):=by
 rw[show(wq "/")=⟨#[47]⟩from yD];cases od with
 | none =>
  show Wv (eK g a++⟨#[]⟩) _=_
  rw[zX];exact zqN (IV (by omega))
 | some d =>
  show Wv (eK g a++(⟨#[47]⟩++bu d)) _=_
  rw[<- GK];exact O7 (IV (by omega))
theorem JY{s t:wn}{c:Nat} : ∀{ts:List wn},t∈ts->c∈t.cps.toList->c∈(vb s ts).cps.toList
 | [],h,_=>by cases h
 | [u],h,hc=>by rw[vx.mp h]at hc;exact hc
 | u::w::r,h,hc=>by
  show c∈(u++s++vb s (w::r)).cps.toList
  rw[cx,cx,Wf,Wf];rcases wO.mp h with rfl | h
  ·exact .inl (.inl hc)
  ·exact .inr (JY h hc)
theorem KJ{s t:wn} : ∀{ts:List wn},t∈ts->t.length<=(vb s ts).length
 | [],h=>by cases h
 | [u],h=>by rw[vx.mp h];exact wx _
 | u::w::r,h=>by
  show t.length<=(u++s++vb s (w::r)).length
  rw[bY,bY];rcases wO.mp h with rfl | h
  ·omega
  ·have:=KJ (s:=s) h
   omega
def bQ(x:wn):Prop:=x.cps.all (· < 128)=true
theorem yj{x:wn} : bQ x ↔ ∀c∈x.cps.toList,c<128:=by
 unfold bQ;rw[<- Vd,wv];exact⟨λh c hc=>of_decide_eq_true (h c hc),λh c hc=>decide_eq_true (h c hc)⟩
theorem fI{x s t:wn}(h:t∈wM x s):(bQ x->bQ t)/\t.length<=x.length:=by
 have e:=VI x s;refine⟨λha=>yj.mpr λc hc=>yj.mp ha c ?_,?_⟩
 ·rw[<- e];exact JY h hc
 ·have:=KJ (s:=s) h
  rw[e]at this;exact this
theorem gC{x s:wn}(hs:1<=s.length):(wM x s).length<=x.length+1:=by
 have key:∀ts:List wn,ts.length<=(vb s ts).length+1:=by
  intro ts
  induction ts with
  | nil=>simp
  | cons t ts ih =>
   cases ts with
   | nil=>simp
   | cons u r =>
    show(u::r).length+1<=(t++s++vb s (u::r)).length+1
    rw[bY,bY];omega
 have:=key (wM x s);rw[VI]at this;exact this
def cC(x:wn):wn:=if vP x "-"=true then Vq ((wM x "/").headD ⟨#[]⟩) (some 1) none else(wM x "/").headD ⟨#[]⟩
def fq(x:wn):Option Nat:=((wM x "/").tail.head?).map cn
def jN(x:wn)(m:Int):Bool:=decide ((wM x "/").length<=2)&&(cC x::(wM x "/").tail).all (wT · m)
def nZ(x:wn):Int:=jb (vP x "-") (cn (cC x))
def nD(x:wn):Int:=(((fq x).getD 1:Nat):Int)
def nT(x:wn)(m:Int):Bool:=jN x m&&(dU (nZ x) (nD x)&&(iJ (WY (nZ x) (nD x)) == x))
theorem HQ{x:wn}{m:Int}(h:jN x m=true):x=jE (vP x "-") (cn (cC x)) (fq x)/\((aZ (cn (cC x))).length:Int)<=m /\ ∀d,fq x=some d->((aZ d).length:Int)<=m:=by
 unfold jN at h;rw[wD,decide_eq_true_eq,WI,wD]at h;obtain⟨h1,h2,h3⟩:=h;have t1:=rT h2;have e:=VI x "/";rw[show(wq "/")=⟨#[47]⟩from yD]at e
 have s1:vP x "-"=decide (x.cps.toList[0]? = some 45):=by
  rw[show(wq "-")=⟨#[45]⟩from Sn,UU]
 have sp:wM x "/"=wM x ⟨#[47]⟩:=by rw[show(wq "/")=⟨#[47]⟩from yD]
 unfold fq;unfold cC at t1 ⊢;rw[sp]at h1 h3 t1 ⊢;obtain⟨ps,hps⟩:∃ps,ps=wM x ⟨#[47]⟩:=⟨_,rfl⟩;have ne:=kJ x ⟨#[47]⟩;rw[<- hps]at e h1 h3 t1 ne ⊢
 obtain⟨p0,tl,rfl⟩:∃p0 tl,ps=p0::tl:=by
  cases ps with
  | nil=>exact absurd rfl ne
  | cons p0 tl=>exact⟨p0,tl,rfl⟩
 simp only[xy,Qi]at t1 h3 ⊢
 have hp0:p0=eK (vP x "-") (cn (if vP x "-"=true then Vq p0 (some 1) none else p0)):=by
  cases hg:vP x "-" with
  | false =>
   rw[hg]at t1;simp only[w8,if_false]at t1 ⊢;exact t1.1
  | true =>
   rw[hg]at t1;simp only[if_true]at t1 ⊢;rw[s1,decide_eq_true_eq]at hg
   have h45:∃r,p0=⟨#[45]⟩++r:=by
    cases hc:p0.cps.toList with
    | nil =>
     exfalso
     have pe:p0=⟨#[]⟩:=V1 (Wp.mp (by rw[hc]));cases tl with
     | nil =>
      rw[<- e,pe]at hg;cases hg
     | cons p1 r =>
      rw[<- e,pe]at hg
      have:(vb ⟨#[47]⟩ (⟨#[]⟩::p1::r)).cps.toList=47::(vb ⟨#[47]⟩ (p1::r)).cps.toList:=by
       show(⟨#[]⟩++⟨#[47]⟩++vb ⟨#[47]⟩ (p1::r):wn).cps.toList=_
       rw[cx,cx]
       rfl
      rw[this]at hg;simp at hg
    | cons c r =>
     have hx0:x.cps.toList[0]? = some c:=by
      rw[<- e];cases tl with
      | nil =>
       show p0.cps.toList[0]? = _
       rw[hc];rfl
      | cons p1 r' =>
       show(p0++⟨#[47]⟩++vb ⟨#[47]⟩ (p1::r'):wn).cps.toList[0]? = _
       rw[cx,cx,hc]
       rfl
     rw[hx0]at hg;have c45:c=45:=by simpa using hg
     refine⟨⟨r.toArray⟩,V1 (Wp.mp ?_)⟩;rw[cx,hc,c45]
     rfl
   obtain⟨r,hr⟩:=h45;rw[hr,YN]at t1 ⊢;rw[show eK true (cn r)=⟨#[45]⟩++bu (cn r)from rfl,<- t1.1]
 refine⟨?_,t1.2,?_⟩
 ·cases tl with
  | nil =>
   show x=eK _ _++⟨#[]⟩
   rw[zX,<- hp0,<- e]
   rfl
  | cons p1 r =>
   have hr:r=[]:=by
    cases r with
    | nil=>rfl
    | cons _ _=>simp at h1
   subst hr;rw[WI,wD]at h3;have t2:=rT h3.1
   show x=eK _ _++(⟨#[47]⟩++bu (cn p1))
   rw[<- GK,<- hp0,<- t2.1,<- e]
   rfl
 ·intro d hd
  cases tl with
  | nil=>cases hd
  | cons p1 r =>
   rw[WI,wD]at h3;have t2:=rT h3.1;have:d=cn p1:=by simpa using hd.symm
   rw[this];exact t2.2
def cy(r:Rat × List Rat × List wu):wu:=.tuple (N r.1::TN r.2.1::r.2.2)
def eJ(l:List wn):wn:=l.headD ⟨#[]⟩
abbrev tx(s:String):wn:=wq s
abbrev fQ:=Rat × List Rat × List wu
structure fQ.Ok(r:fQ):Prop where
 l:r.2.1.length<=950
 e:∀e∈r.2.2,(∃w,e=.str w/\vJ w=true) \/ ∃z,e=.int z
def kO(n:Nat)(rs:List fQ):Bool:=match rs.getLast? with
 | none=>false
 | some l=>rs.dropLast.all (λr=>iI n r.2.1 r.2.2)&&lJ n l.2.1 l.2.2
def ID(K:wa):Sp:=λvs H Q _=>∃x0 x1,vs=[x0,x1] /\ ∃(n:Nat)(rs:List fQ),Is K H x0 (.list (rs.map cy))/\x1=.int (n:Int)/\(∀r∈rs,r.Ok)/\rs.length<=950 /\ ∀H',af H H'->Q (.bl (kO n rs)) H'
theorem znN{K:wa}{H:Hp}{Q:VK}{E:XK}{n:Nat}{rs:List fQ}{v:V}(i:Is K H v (.list (rs.map cy)))(ok:∀r∈rs,r.Ok)(hl:rs.length<=950)(q:∀H',af H H'->Q (.bl (kO n rs)) H'):ID K [v,.int (n:Int)] H Q E:=⟨_,_,rfl,n,rs,i,rfl,ok,hl,q⟩
theorem FY{α : Type}(ds:List α)(d : α):L2.cutD (ds++[d]) none (some (-1))=ds:=by
 unfold L2.cutD;have e1:HT.aE (ds++[d]).length 0 none=0:=by simp[HT.aE]
 have e2:HT.aE (ds++[d]).length (ds++[d]).length (some (-1))=ds.length:=by
  rw[vQ,V9];simp[HT.aE];omega
 rw[e1,e2];simp
theorem Uq{K:wa}{H:Hp}{Q:VK}{v:V}{ds:List wu}{d:wu}(h:Is K H v (.list (ds++[d])))(q:∀x,Is K H x d->Q x H):dk K v (.int (-1)) H Q:=by
 obtain⟨a,xs,rfl,hs,t⟩:=bO.mp h;have hl:=t.length;rw[vQ,V9]at hl;obtain⟨x,e1,hx⟩:=t.get (i:=ds.length) (d:=d) (by rw[Wk (wx _),qW];rfl);exact cG hs (Rb (by rw[hl];exact e1)) (q x hx)
theorem zn1(T:Txt K mg a):aK P w K mg base bc 5 a.EJ a.DQ sM (ID K):=by
 refine T.Eb.F.ok RW ?_ ?_;wtm_at "b2"
 refine⟨_,(aF (bI (PW.pt (cv (bA (bC (aD (show ao _ (.builtin "isinstance") (dJ K)from hZ) rfl T.z_isinstance dG (aa (pv 0) (aa (eU (v:=.ty "list") rfl T.z_list Bw rfl) ae))))) (cY (bA (B9 (pv 0)))))) (aA (aG cK)) bH)
     (aA (aG (df (aD (show ao _ (.builtin "all") (eY K)from f_ rfl) rfl T.z_all fC (aa (cT rfl (bU.by (N':=["row","worms"]) (src:=[none,some 1]) rfl (show cw _ (az tq).names sf ["row","worms"] [none,some 1]=true from by decide +kernel)) (fc (br bB (pv 0) bN (bj (yf pA ak)))) (λ_ _ _ _ _=>(bZ (i:=0) (show(["row","worms"]:List Str).Nodup from by decide) rfl (Or.inl rfl))) (λ_ _ _ _ _=>cI) (λ_ _ _ _ _=>(aB (YS (K:=K) (mg:=mg) (a:=a) T) hr T.EL (aa (pv 0) (aa (pv 1) ae))))) ae)) (eB (aB (zkv T) hr T.Dk (aa (gv dh (pv 0) (yf pA ak) (λ_ _=>rfl)) (aa (pv 1) ae)))))))),?_⟩
 wtm_at "cl";rw[show start sf [x0,x1]=[some x0,some x1]from rfl];obtain⟨n,rs,hi,rfl,ok,h5,q⟩:=h;have z:1000<=wC:=by decide
 o_head ztX hi ?_;rw[show hV (PyData.list (rs.map cy))=true from rfl];o_head JO hi ?_;rcases List.eq_nil_or_concat rs with rfl | ⟨ps,l,rfl⟩
 . rw[show(!(([]:List fQ).map cy).isEmpty)=false from rfl]
   k_few;exact q H (af.refl _)
 rw[List.concat_eq_append]at *
 have qe:kO n (ps++[l])=(ps.all (λr=>iI n r.2.1 r.2.2)&&lJ n l.2.1 l.2.2):=by
   unfold kO;rw[List.getLast?_concat,List.dropLast_concat]
 rw[qe]at q;rw[show(!((ps++[l]).map cy).isEmpty)=true by simp]
 have hi:Is K H x0 (.list (ps.map cy++[cy l])):=by
   have e:(ps++[l]).map cy=ps.map cy++[cy l]:=by simp
   rw[<- e];exact hi
 o_head GU hi (λl1 H1 us n1 S1 e1 t1=>?_);rw[FY]at t1;have lt:=t1.length;rw[wm]at lt;rw[vQ]at h5;o_head fu (.of e1) (o0:=none) (tl:=[some (.int (n:Int))]) rfl (λj y _=>y=.bl ((ps.map λr=>iI n r.2.1 r.2.2).getD j false)) ?_ ?_
 . intro D j x ys o H2 hx inv
   obtain⟨hj,ir⟩:=dz t1 hx;rw[wm]at hj;rw[wf,wB,wb hj]at ir;have ir:Is K H1 x (.tuple (N ps[j].1::TN ps[j].2.1::ps[j].2.2)):=ir;have okr:=ok ps[j] (Wl _ (vn hj));o_head zq0 (ir.by inv.2.2.1) okr.l (λH3 S3=>?_);k_few;exact dE inv (by omega) (λ_ _ _ _ _ h=>h) ⟨_,rfl⟩ S3 (by rw[wf,wB,wb hj];rfl)
 . intro D ys H2 n2 S2 e2 l2 r2
   have ey:ys=(ps.map λr=>iI n r.2.1 r.2.2).map V.bl:=by
     refine vF (by simp;omega) λi h1 h2=>?_
     rw[r2 i ys[i] (wb h1)];rw[wm]at h2;rw[wf,wb h2];simp
   rw[ey]at e2;o_head fE (.of e2) ?_;rw[vW,show(id ∘ λr:fQ=>iI n r.2.1 r.2.2)=λr=>iI n r.2.1 r.2.2 from rfl];have T2:=S1.trans S2;cases ha:ps.all λr=>iI n r.2.1 r.2.2 with
   | false =>
     rw[ha]at q;k_few;exact q _ T2
   | true =>
   rw[ha,wP]at q;o_head Uq (hi.by T2) (λv3 i3=>?_);have okl:=ok l (by simp);o_head Sw (show Is K H2 v3 (.tuple (N l.1::TN l.2.1::l.2.2))from i3) okl.l okl.e (λH3 S3=>?_);exact q _ (T2.trans S3)
def dX(d:wu):Bool:=hV d || fJ d
def Lq(K:wa):Sp:=λvs H Q _=>∃x0,vs=[x0] /\ ∃(d:wu),Is K H x0 d /\ ∀H',af H H'->Q (.bl (dX d)) H'
theorem sH{K:wa}{H:Hp}{Q:VK}{E:XK}{v:V}{d:wu}(h:Is K H v d)(q:∀H',af H H'->Q (.bl (dX d)) H'):Lq K [v] H Q E:=⟨_,rfl,d,h,q⟩
theorem yw(T:Txt K mg a):aK P w K mg base bc 1 a.Ep a.DF rY (Lq K):=by
 refine T.me.F.ok Zc ?_ ?_;wtm_at "b1";refine⟨_,(aA (aG (aD (show ao _ (.builtin "isinstance") (rE K)from J5) rfl T.z_isinstance dG (aa (pv 0) (aa (hJ (aa (eU (v:=.ty "list") rfl T.z_list Bw rfl) (aa (eU (v:=.ty "tuple") rfl T.z_tuple dY rfl) ae))) ae))))),?_⟩;wtm_at "cl";rw[show start B5 [x0]=[some x0]from rfl];obtain⟨d,hd,q⟩:=h;o_head d8 (by simp) (λtp H1 _ S1 e1=>?_);o_head yp (hd.by S1) e1 ?_;exact q H1 S1
def aI:wu->List wu
 | .list ds=>ds
 | .tuple ds=>ds
 | _=>[]
theorem ka{K:wa}{H:Hp}{v:V}{d:wu}(h:Is K H v d)(e:dX d=true):Is K H v (.list (aI d))\/Is K H v (.tuple (aI d)):=by
 cases d<;>first | exact .inl h | exact .inr h | cases e
theorem FK{K:wa}{g:TG}{tt:TT}{te:TE}{src:List (Option Nat)}{σ : L2.St}{H:Hp}{Q:VK}{v:V}{ds:List wu}{o0:Option V}{tl:L2.St}(p:wu->Bool)(h:Is K H v (.list ds)\/Is K H v (.tuple ds))(hsrc:cJ src σ = o0::tl)
  (hs:∀D i x ys o H1,i<ds.length->Is K H1 x (ds.getD i .none)->e_ H tl (λ(j:Nat)(y:V)(_:Hp)=>y=V.bl (p (ds.getD j .none))) D i ys (o::tl) H1->fR (e_ H tl (λ(j:Nat)(y:V)(_:Hp)=>y=V.bl (p (ds.getD j .none)))) g tt te D i x (o::tl) H1)
  (hd:∀D H',H D=none->af H H'->H' D=some (.lst ((ds.map p).map V.bl))->Q (.ref D) H'):lZ K g tt te src σ v H Q\/lR K g tt te src σ v H Q:=by
 have fin:∀(us:List V),us.length=ds.length->∀(D:wd)(ys:List V)(H':Hp),H D=none->af H H'->H' D=some (.lst ys)->ys.length=us.length->(∀(j:Nat)(y:V),ys[j]? = some y->y=V.bl (p (ds.getD j .none)))->Q (.ref D) H':=λus hul D ys H' hn S hD hl hr=>by
  have hys:ys=(ds.map p).map V.bl:=by
   refine vF (by rw[hl,hul,wm,wm]) λj h1 h2=>?_
   have:=hr j ys[j] (wb h1);rw[this,vt,vt,wf,wb]
   rfl
  subst hys;exact hd D H' hn S hD
 rcases h with h | h
 ·obtain⟨ap,us,rfl,hs',tu⟩:=bO.mp h
  refine .inl (fu hs' hsrc _ (λD i x ys o H1 hx inv=>?_) λD ys H' hn S hD hl hr=>fin us tu.length D ys H' hn S hD hl hr);obtain⟨hi,ix⟩:=dz tu hx;exact hs D i x ys o H1 hi (ix.by inv.same) inv
 ·obtain⟨ap,us,rfl,hs',tu⟩:=bV.mp h
  refine .inr (oZ hs' hsrc _ (λD i x ys o H1 hx inv=>?_) λD ys H' hn S hD hl hr=>fin us tu.length D ys H' hn S hD hl hr);obtain⟨hi,ix⟩:=dz tu hx;exact hs D i x ys o H1 hi (ix.by inv.same) inv
theorem B6{α : Type}(ds:List α)(p : α -> Bool):(ds.map p).all id=ds.all p:=by rw[vW];rfl
def eR(l m:Int)(d:wu):Bool:=dX d&&(aI d).all (de l m)
def GY(K:wa):Sp:=λvs H Q _=>∃x0 x1 x2,vs=[x0,x1,x2] /\ ∃(l m:Int)(d:wu),x0=.int l/\x1=.int m/\Is K H x2 d/\(aI d).length<=1000 /\ ∀H',af H H'->Q (.bl (eR l m d)) H'
theorem CJ{K:wa}{H:Hp}{Q:VK}{E:XK}{l m:Int}{v:V}{d:wu}(h:Is K H v d)(z:(aI d).length<=1000)(q:∀H',af H H'->Q (.bl (eR l m d)) H'):GY K [.int l,.int m,v] H Q E:=⟨_,_,_,rfl,l,m,d,rfl,rfl,h,z,q⟩
theorem AW(T:Txt K mg a):aK P w K mg base bc 3 a.De a.CV oO (GY K):=by
 refine T.oo.F.ok zhA ?_ ?_;wtm_at "b3";refine⟨_,(aA (aG (df (aB (yw T) hr T.me (aa (pv 2) ae)) (eB (aD (show ao _ (.builtin "all") (eY K)from f_ rfl) rfl T.z_all fC (aa (cT rfl (bU.by (N':=["one","least","most"]) (src:=[none,some 0,some 1]) rfl (show cw _ (az pj).names sT ["one","least","most"] [none,some 0,some 1]=true from by decide +kernel)) (kQ (pv 2)) (λ_ _ _ _ _=>(bZ (i:=0) (show(["one","least","most"]:List Str).Nodup from by decide) rfl (Or.inl rfl))) (λ_ _ _ _ _=>cI) (λ_ _ _ _ _=>(aB (yg (K:=K) (mg:=mg) (a:=a) T) hr T.l_ (aa (pv 1) (aa (pv 2) (aa (pv 0) ae)))))) ae)))))),?_⟩;wtm_at "cl";rw[show start sT [x0,x1,x2]=[some x0,some x1,some x2]from rfl];obtain⟨l,m,d,rfl,rfl,hd,hz,q⟩:=h;o_head sH hd (λH1 S1=>?_);unfold eR at q;cases e:dX d with
 | false =>
  rw[e]at q;k_few;exact q H1 S1
 | true =>
  rw[e]at q;o_head FK (de l m) (o0:=none) (tl:=[some (.int l),some (.int m)]) (ka (hd.by S1) e) rfl ?_ ?_
  ·intro D i x ys o H2 hi ix inv
   o_head sO ix ?_;k_few;exact dE inv (by omega) (λ_ _ _ _ _ z=>z) ⟨_,rfl⟩ (af.refl _) rfl
  ·intro D H2 hn S2 hD
   o_head fE (.of hD) ?_;rw[B6];exact q H2 (S1.trans S2)
def jH(d:wu):Bool:=eR 1 60 d&&(decide (1<=(aI d).length)&&decide ((aI d).length<=8))
def GC(K:wa):Sp:=λvs H Q _=>∃x0,vs=[x0] /\ ∃(d:wu),Is K H x0 d/\(aI d).length<=1000 /\ ∀H',af H H'->Q (.bl (jH d)) H'
theorem IL{K:wa}{H:Hp}{Q:VK}{E:XK}{v:V}{d:wu}(h:Is K H v d)(z:(aI d).length<=1000)(q:∀H',af H H'->Q (.bl (jH d)) H'):GC K [v] H Q E:=⟨_,rfl,d,h,z,q⟩
theorem fO{K:wa}{H:Hp}{Q:VK}{v:V}{ds:List wu}(h:Is K H v (.list ds)\/Is K H v (.tuple ds))(q:Q (.int (ds.length:Int)) H):a_ K [v] H Q:=by
 rcases h with h | h
 ·obtain⟨a,xs,rfl,hs,t⟩:=bO.mp h
  exact kb hs (by rw[t.length];exact q)
 ·exact kh h q
theorem zkI(T:Txt K mg a):aK P w K mg base bc 4 a.D_ a.Dj yu (GC K):=by
 refine T.Dx.F.ok PB ?_ ?_;wtm_at "b1";refine⟨_,(aA (aG (df (aB (AW T) hr T.oo (aa ak (aa (eV rfl T.M_) (aa (pv 0) ae)))) (eB (Mb gA gA ak (aD (show ao _ (.builtin "len") (a_ K)from bz) rfl T.z_len bo (aa (pv 0) ae)) (eV rfl T.Mr)))))),?_⟩;wtm_at "cl";rw[show start zF [x0]=[some x0]from rfl];obtain⟨d,hd,hz,q⟩:=h;o_head CJ hd hz (λH1 S1=>?_);unfold jH at q;cases e:eR 1 60 d with
 | false =>
  rw[e]at q;k_few;exact q H1 S1
 | true =>
  rw[e]at q
  have e1:dX d=true:=by
   unfold eR at e;rw[wD]at e;exact e.1
  have q1:=q H1 S1;o_head fO (ka (hd.by S1) e1) ?_;k_few
  ·rename_i z1
   rw[decide_eq_true (show 1<=(aI d).length by omega),wP,wP,show decide ((aI d).length<=8)=decide (((aI d).length:Int)<=8)from decide_eq_decide.mpr (by omega)]at q1;exact q1
  ·rename_i z1
   rw[decide_eq_false (show ¬ 1<=(aI d).length by omega),vi,We]at q1;exact q1
def dg(d:wu)(ns:List Int):Prop:=d=.list (ns.map .int)\/d=.tuple (ns.map .int)
theorem dg.listed{d:wu}{ns:List Int}(h:dg d ns):dX d=true/\aI d=ns.map .int:=by rcases h with rfl | rfl<;>exact⟨rfl,rfl⟩
theorem dg.is{K:wa}{H:Hp}{v:V}{d:wu}{ns:List Int}(h:dg d ns)(i:Is K H v d):Is K H v (.list (ns.map .int))\/Is K H v (.tuple (ns.map .int)):=by rcases h with rfl | rfl;exact .inl i;exact .inr i
theorem zpy{l m:Int}{ns:List Int}(h:∀n∈ns,l<=n/\n<=m):(ns.map PyData.int).all (de l m)=true:=by
 rw[vW,wv];intro n hn
 show(decide (l<=n)&&decide (n<=m))=true
 rw[decide_eq_true (h n hn).1,decide_eq_true (h n hn).2];rfl
theorem dg.Fi{d:wu}{ns:List Int}{l m:Int}(h:dg d ns)(hn:∀n∈ns,l<=n/\n<=m):eR l m d=true:=by
 unfold eR;rw[h.listed.1,h.listed.2,zpy hn];rfl
def fU(ds:List wu)(rows:List (List Int)):Prop:=ds.length=rows.length /\ ∀i,i<rows.length->dg (ds.getD i .none) (rows.getD i [])
def fS(d:wu)(ds:List wu):Prop:=d=.list ds\/d=.tuple ds
theorem fS.is{K:wa}{H:Hp}{v:V}{d:wu}{ds:List wu}(h:fS d ds)(i:Is K H v d):Is K H v (.list ds)\/Is K H v (.tuple ds):=by rcases h with rfl | rfl;exact .inl i;exact .inr i
theorem fS.listed{d:wu}{ds:List wu}(h:fS d ds):dX d=true/\aI d=ds:=by rcases h with rfl | rfl<;>exact⟨rfl,rfl⟩
def jz(d:wu)(c:Int):Bool:=eR 0 60 d&&decide (((aI d).length:Int)=c)
def j5(d:wu)(rs:List Int):Bool:=dX d&&(decide ((aI d).length=rs.length)&&(vf rs.length).all λi=>jz ((aI d).getD i .none) (rs.getD i 0))
def FO(K:wa):Sp:=λvs H Q _=>∃x0 x1,vs=[x0,x1] /\ ∃(d e:wu)(rs:List Int),Is K H x0 d/\Is K H x1 e/\dg e rs/\rs.length<=8/\(∀t∈aI d,(aI t).length<=1000) /\ ∀H',af H H'->Q (.bl (j5 d rs)) H'
theorem JV{K:wa}{H:Hp}{Q:VK}{E:XK}{v w:V}{d e:wu}{rs:List Int}(h1:Is K H v d)(h4:Is K H w e)(h5:dg e rs)(h7:rs.length<=8)(h8:∀t∈aI d,(aI t).length<=1000)(q:∀H',af H H'->Q (.bl (j5 d rs)) H'):FO K [v,w] H Q E:=⟨_,_,rfl,d,e,rs,h1,h4,h5,h7,h8,q⟩
theorem Ib{l m:Int}{d:wu}(h:eR l m d=true):dX d=true:=by
 unfold eR at h;rw[wD]at h;exact h.1
theorem RH{ds:List wu}{i:Nat}(h:i<ds.length):ds.getD i .none∈ds:=by
 rw[wf,wb h];exact vn h
theorem RD(T:Txt K mg a):aK P w K mg base bc 4 a.EZ a.Ec q_ (FO K):=by
 refine T.EA.F.ok zoI ?_ ?_;wtm_at "b2"
 refine⟨_,(aF (bI (PW.pt (cv (bA (bC (aB (yw T) hr T.me (aa (pv 0) ae)))) (cY (bG (show ax _ (wQ .NotEq) (cM K)from dy hu) (aD (show ao _ (.builtin "len") (a_ K)from bz) rfl T.z_len bo (aa (pv 0) ae)) (aD (show ao _ (.builtin "len") (a_ K)from bz) rfl T.z_len bo (aa (pv 1) ae)) (aV _))))) (aA (aG cK)) bH)
     (aA (aG (aD (show ao _ (.builtin "all") (eY K)from f_ rfl) rfl T.z_all fC (aa (cT rfl (bU.by (N':=["own","count"]) (src:=[none,none]) rfl (show cw _ (az p_).names u_ ["own","count"] [none,none]=true from by decide +kernel)) (JZ rfl T.z_zip (aa (pv 0) (aa (pv 1) ae))) (λ_ _ _ _ _=>by exact(show PG _ _ (mR K 2 _)from BK (n:=2) rfl (j_ (bZ (i:=0) (show(["own","count"]:List Str).Nodup from by decide) rfl (Or.inl rfl)) (j_ (bZ (i:=1) (show(["own","count"]:List Str).Nodup from by decide) rfl (Or.inl rfl)) yZ)))) (λ_ _ _ _ _=>cI) (λ_ _ _ _ _=>(df (aB (AW (K:=K) (mg:=mg) (a:=a) T) hr T.oo (aa ak (aa (eV rfl T.Nt) (aa (pv 0) ae)))) (eB (dH (show ax _ (wQ .Eq) (cU K)from dO hu) (aD (show ao _ (.builtin "len") (a_ K)from bz) rfl T.z_len bo (aa (pv 0) ae)) (pv 1) (aV _)))))) ae))))),?_⟩
 wtm_at "cl";rw[show start u_ [x0,x1]=[some x0,some x1]from rfl];obtain⟨d,e,rs,i0,i1,ie,h8,hz,q⟩:=h;o_head sH i0 (λH1 S1=>?_);unfold j5 at q;cases el:dX d with
 | false =>
   rw[el]at q;k_few;exact q H1 S1
 | true =>
   rw[el,wP]at q;o_head fO (ka (i0.by S1) el) ?_;o_head fO (ie.is (i1.by S1)) ?_;rw[wm];k_few
   . rename_i z
     rw[decide_eq_false (by omega),vi]at q;exact q H1 S1
   . rename_i z
     have hl:(aI d).length=rs.length:=by omega
     rw[decide_eq_true hl,wP]at q;obtain⟨t,a,xs,rfl,hx,tx⟩:=Iq (ka (i0.by S1) el);obtain⟨u,b,ys,rfl,hy,ty⟩:=Iq (ie.is (i1.by S1));have lx:=tx.length;have ly:=ty.length;rw[wm]at ly;refine⟨t,u,Jd hx hy (by omega) (o0:=none) (o0':=none) (tl:=[]) rfl (λj y H'=>y=.bl (jz ((aI d).getD j .none) (rs.getD j 0))) (λ_ _ _ _ _ z=>z) ?_ ?_⟩
     . intro D i x y zs o1 o2 H2 c hx' hy' inv ec
       obtain⟨hi,ix⟩:=dz tx hx';obtain⟨hj,iy⟩:=dz ty hy';rw[wm]at hj
       have iyv:y=.int (rs.getD i 0):=by
         rw[wf,wB,wb hj]at iy;rw[wf,wb hj];exact bR.mp iy
       subst iyv;have S2:=inv.2.2.1;refine pH (y8 (.of ec) rfl ?_);o_head CJ (ix.by S2) (hz _ (RH hi)) (λH3 S3=>?_);cases ew:eR 0 60 ((aI d).getD i .none)with
       | false =>
         k_few;exact BM inv (by omega) (λ_ _ _ _ _ z=>z) ⟨_,_,rfl⟩ S3 (by show V.bl false=V.bl (jz _ _);unfold jz;rw[ew];rfl)
       | true =>
         o_head fO (ka ((ix.by S2).by S3) (Ib ew)) ?_;k_few;exact BM inv (by omega) (λ_ _ _ _ _ z=>z) ⟨_,_,rfl⟩ S3 (by show _=V.bl (jz _ _);unfold jz;rw[ew,wP])
     . intro D zs H2 hn S2 hD hl2 hr
       have hzs:zs=((vf rs.length).map λi=>jz ((aI d).getD i .none) (rs.getD i 0)).map V.bl:=by
         refine vF (by rw[hl2,wm,wm,WO];omega) λj h1 h2=>?_
         rw[hr j zs[j] (wb h1),vt,vt,Qv]
       subst hzs;o_head fE (.of hD) ?_;rw[B6];exact q H2 (S1.trans S2)
def gB(n:Int)(d:wu):Bool:=dX d&&(decide ((aI d).length=3)&&((de 0 (n-1) ((aI d).getD 0 .none)&&de 0 (n-1) ((aI d).getD 1 .none))&&(!PyData.eqv ((aI d).getD 0 .none) ((aI d).getD 1 .none)&&de 0 4 ((aI d).getD 2 .none))))
def LG(K:wa):Sp:=λvs H Q _=>∃x0 x1,vs=[x0,x1] /\ ∃(d:wu)(n:Int),Is K H x0 d/\x1=.int n /\ ∀H',af H H'->Q (.bl (gB n d)) H'
theorem RE{K:wa}{H:Hp}{Q:VK}{E:XK}{v:V}{d:wu}{n:Int}(h1:Is K H v d)(q:∀H',af H H'->Q (.bl (gB n d)) H'):LG K [v,.int n] H Q E:=⟨_,_,rfl,d,n,h1,rfl,q⟩
theorem zv{K:wa}{H:Hp}{Q:VK}{v:V}{ds:List wu}{j:Nat}(h:Is K H v (.list ds)\/Is K H v (.tuple ds))(hj:j<ds.length)(q:∀x,Is K H x (ds.getD j .none)->Q x H):dk K v (.int (j:Int)) H Q:=by
 have e:ds[j]? = some (ds.getD j .none):=by rw[wf,wb hj];rfl
 rcases h with h | h
 ·obtain⟨a,xs,rfl,hs,t⟩:=bO.mp h
  obtain⟨x,e1,hx⟩:=t.get e;exact cG hs (cP e1) (q x hx)
 ·exact dC h e q
theorem Z6{K:wa}{H:Hp}{Q:VK}{v:V}{x y z:wu}(h:Is K H v (.list [x,y,z])\/Is K H v (.tuple [x,y,z]))(q:∀w e H',af H H'->Is K H' w e->fS e [x,y]->Q w H'):jn K v none (some 2) H Q:=by
 have ec:L2.cutD [x,y,z] none (some 2)=[x,y]:=rfl;rcases h with h | h
 ·refine GU h λl H' ys hn S e t=>?_
  rw[ec]at t;exact q _ _ H' S (bO.mpr ⟨l,ys,rfl,.of e,t⟩) (.inl rfl)
 ·refine I_ h (show ¬ (HT.aE 3 0 none=0/\HT.aE 3 3 (some 2)=3)from by decide) λw H' S i=>?_
  rw[ec]at i;exact q _ _ H' S i (.inr rfl)
theorem j6{l m:Int}{d:wu}(h:de l m d=true):∃i:Int,d=.int i/\l<=i/\i<=m:=by
 cases d with
 | int i =>
  have h':(decide (l<=i)&&decide (i<=m))=true:=h;rw[wD,decide_eq_true_eq,decide_eq_true_eq]at h';exact⟨i,rfl,h'⟩
 | _=>cases h
theorem J1{ds:List wu}(h:ds.length=3):ds=[ds.getD 0 .none,ds.getD 1 .none,ds.getD 2 .none]:=by
 match ds,h with
 | [a,b,c],_=>rfl
theorem zrv(T:Txt K mg a):aK P w K mg base bc 4 a.Fl a.Em tL (LG K):=by
 refine T.EI.F.ok PX ?_ ?_;wtm_at "b2"
 refine⟨_,(aF (bI (PW.pt (cv (bA (bC (aB (yw T) hr T.me (aa (pv 0) ae)))) (cv (bG (show ax _ (wQ .NotEq) (cM K)from dy hu) (aD (show ao _ (.builtin "len") (a_ K)from bz) rfl T.z_len bo (aa (pv 0) ae)) ak (aV _)) (cY (bA (bC (aB (AW T) hr T.oo (aa ak (aa (aw Ky (pv 1) ak) (aa (br bB (pv 0) bN (bj ak)) ae)))))))))) (aA (aG cK)) bH)
     (aA (aG (df (dH (show ax _ (wQ .NotEq) (cM K)from dy hu) (aJ (pv 0)) (aJ (pv 0)) (aV _)) (eB (aB (yg T) hr T.l_ (aa ak (aa (eV rfl T.M8) (aa (aJ (pv 0)) ae))))))))),?_⟩
 wtm_at "cl";rw[show start AX [x0,x1]=[some x0,some x1]from rfl];obtain⟨d,n,hd,rfl,q⟩:=h;o_head sH hd (λH1 S1=>?_);unfold gB at q;cases el:dX d with
 | false =>
   rw[el]at q;k_few;exact q H1 S1
 | true =>
   rw[el,wP]at q;have il:=ka (hd.by S1) el;o_head fO il ?_;k_few
   . rename_i z
     rw[decide_eq_false (by omega),vi]at q;exact q H1 S1
   . rename_i z
     have h3:(aI d).length=3:=by omega
     rw[decide_eq_true h3,wP]at q;have e3:=J1 h3;generalize (aI d).getD 0 .none=p0 at *;generalize (aI d).getD 1 .none=p1 at *;generalize (aI d).getD 2 .none=p2 at *;rw[e3]at il;refine Z6 il (λw e H2 S2 iw ie=>?_);o_head CJ iw (by rw[ie.listed.2];simp) (λH3 S3=>?_)
     have ew:eR 0 (n-1) e=(de 0 (n-1) p0&&de 0 (n-1) p1):=by
       unfold eR;rw[ie.listed.1,ie.listed.2];simp
     rw[ew];have T3:=S1.trans (S2.trans S3);have il3:Is K H3 x0 (.list [p0,p1,p2])\/Is K H3 x0 (.tuple [p0,p1,p2]):=il.elim (λh=>.inl ((h.by S2).by S3)) λh=>.inr ((h.by S2).by S3)
     cases eb:(de 0 (n-1) p0&&de 0 (n-1) p1)with
     | false =>
       rw[eb,vi]at q;k_few;exact q H3 T3
     | true =>
       rw[eb,wP]at q;rw[wD]at eb;obtain⟨i,rfl,_⟩:=j6 eb.1;obtain⟨j,rfl,_⟩:=j6 eb.2;o_head zv (j:=0) il3 (by simp) (λy0 iy0=>?_);o_head zv (j:=1) il3 (by simp) (λy1 iy1=>?_);obtain rfl:=bR.mp (show Is K H3 y0 (.int i)from iy0);obtain rfl:=bR.mp (show Is K H3 y1 (.int j)from iy1);rw[BB]at q;k_few
       . rename_i z
         refine zv (j:=2) il3 (by simp) (λy2 iy2=>?_);have iy2:Is K H3 y2 p2:=iy2;o_head sO iy2 ?_;rw[decide_eq_false (by omega),show(!false)=true from rfl,wP]at q;exact q H3 T3
       . rename_i z
         rw[decide_eq_true (by omega),show(!true)=false from rfl,vi]at q;exact q H3 T3
theorem fU.at{ds:List wu}{rows:List (List Int)}(h:fU ds rows){i:Nat}(hi:i<ds.length):i<rows.length/\dg (ds.getD i .none) (rows.getD i []):=⟨by rw[<- h.1];exact hi,h.2 i (by rw[<- h.1];exact hi)⟩
theorem BI{K:wa}{src:List (Option Nat)}{σ : L2.St}{H:Hp}{Q:VK}{v:V}{ds:List wu}{rows:List (List Int)}(h:Is K H v (.list ds)\/Is K H v (.tuple ds))(rd:fU ds rows)(z:ds.length<=1000)(hsrc:cJ src σ = [none])
  (hd:∀D us H',H D=none->af H H'->H' D=some (.lst us)->ay K H' us (rows.map TZ)->Q (.ref D) H'):lZ K (fg 0) kH (lS (dS K) (gk (fo 0) hX)) src σ v H Q\/lR K (fg 0) kH (lS (dS K) (gk (fo 0) hX)) src σ v H Q:=by
 have st:∀D i x ys o H1,i<ds.length->Is K H1 x (ds.getD i .none)->e_ H [] (λ(j:Nat)(y:V)(H':Hp)=>Is K H' y (TZ (rows.getD j []))) D i ys (o::[]) H1->fR (e_ H [] (λ(j:Nat)(y:V)(H':Hp)=>Is K H' y (TZ (rows.getD j [])))) (fg 0) kH (lS (dS K) (gk (fo 0) hX)) D i x (o::[]) H1:=λD i x ys o H1 hi ix inv=>by
  refine pH (By (Ki (og (J0 (Lf (Ht rfl (Ke ?_)))))));rcases (rd.at hi).2 with e | e
  ·rw[e]at ix
   exact nN ix λw H2 S2 i2=>dE inv (by omega) (λ_ _ _ _ k z=>z.Fp k) ⟨_,rfl⟩ S2 i2
  ·rw[e]at ix
   exact BD ix (dE inv (by omega) (λ_ _ _ _ k z=>z.Fp k) ⟨_,rfl⟩ (af.refl _) ix)
 have fin:∀(us:List V),us.length=ds.length->∀(D:wd)(ys:List V)(H':Hp),H D=none->af H H'->H' D=some (.lst ys)->ys.length=us.length->(∀(j:Nat)(y:V),ys[j]? = some y->Is K H' y (TZ (rows.getD j [])))->Q (.ref D) H':=λus hul D ys H' hn S hD hl hr=>by
  refine hd D ys H' hn S hD (t_ (by rw[wm,hl,hul,rd.1]) λi x hx=>?_);have hi:i<rows.length:=by have:=Rf hx;rw[hl,hul,rd.1]at this;exact this
  rw[wf,wB,wb hi];have:=hr i x hx;rw[wf,wb hi]at this;exact this
 rcases h with h | h
 ·obtain⟨ap,us,rfl,hs',tu⟩:=bO.mp h
  refine .inl (fu hs' (o0:=none) (tl:=[]) hsrc _ (λD i x ys o H1 hx inv=>?_) λD ys H' hn S hD hl hr=>fin us tu.length D ys H' hn S hD hl hr);obtain⟨hi,ix⟩:=dz tu hx;exact st D i x ys o H1 hi (ix.by inv.same) inv
 ·obtain⟨ap,us,rfl,hs',tu⟩:=bV.mp h
  refine .inr (oZ hs' (o0:=none) (tl:=[]) hsrc _ (λD i x ys o H1 hx inv=>?_) λD ys H' hn S hD hl hr=>fin us tu.length D ys H' hn S hD hl hr);obtain⟨hi,ix⟩:=dz tu hx;exact st D i x ys o H1 hi (ix.by inv.same) inv
def Jf:wu->Int
 | .int i=>i
 | _=>0
def dN(d:wu):List Int:=(aI d).map Jf
theorem Jk{l m:Int} : ∀{ds:List wu},(ds.all (de l m))=true->(ds.map Jf).map PyData.int=ds
 | [],_=>rfl
 | d::ds,h=>by
  rw[WI,wD]at h;obtain⟨i,rfl,_⟩:=j6 h.1;rw[wU,wU,Jk h.2]
  rfl
theorem zxd{d:wu}(h:dX d=true):fS d (aI d):=by
 cases d<;>first | exact .inl rfl | exact .inr rfl | cases h
theorem IX{d:wu}(h:dX d=true)(e:(dN d).map PyData.int=aI d):dg d (dN d):=by
 unfold dg;rw[e];exact zxd h
theorem Ub{l m:Int}{d:wu}(h:eR l m d=true):dg d (dN d) /\ ∀n∈dN d,l<=n/\n<=m:=by
 have hl:=Ib h;unfold eR at h;rw[hl,wP]at h;refine⟨IX hl (Jk h),λn hn=>?_⟩;obtain⟨e,he,rfl⟩:=vg.mp hn;obtain⟨i,rfl,hi⟩:=j6 (wv.mp h e he);exact hi
theorem Us{n:Int}{d:wu}(h:gB n d=true):∃a b c:Int,dg d [a,b,c]/\dN d=[a,b,c]/\0<=a/\a<=n-1/\0<=b/\b<=n-1/\a≠b/\0<=c/\c<=4:=by
 unfold gB at h;simp only[wD,decide_eq_true_eq,Vo]at h;obtain⟨hl,h3,⟨h0,h1⟩,hne,h2⟩:=h;have e3:=J1 h3;obtain⟨a,ea,ha⟩:=j6 h0;obtain⟨b,eb,hb⟩:=j6 h1;obtain⟨c,ec,hc⟩:=j6 h2;rw[ea,eb,ec]at e3;rw[ea,eb,BB,decide_eq_false_iff_not]at hne;have ei:dN d=[a,b,c]:=by unfold dN;rw[e3];rfl
 refine⟨a,b,c,?_,ei,ha.1,ha.2,hb.1,hb.2,hne,hc.1,hc.2⟩;rw[<- ei];exact IX hl (by rw[ei,e3];rfl)
theorem FT{α : Type}[DecidableEq α]:∀{l:List α},¬ l.Nodup->∃x,x∈l.erase x
 | [],h=>absurd uC h
 | a::l,h=>by
  by_cases ha:a∈l
  ·exact⟨a,by rw[List.erase_cons_head];exact ha⟩
  ·have:¬ l.Nodup:=λz=>h (Vi.mpr ⟨ha,z⟩)
   obtain⟨x,hx⟩:=FT this;refine⟨x,?_⟩;have hne:a≠x:=λe=>ha (e ▸ xM hx)
   rw[List.erase_cons_tail (by simpa using hne)];exact wI _ hx
theorem BY{α : Type}[DecidableEq α]{js rows:List α}(nd:js.Nodup)(h:∀x,x∈js ↔ x∈rows):decide ((js.length:Int)=(rows.length:Int))=decide rows.Nodup:=by
 by_cases z:rows.Nodup
 ·have:=((QL nd z).mpr h).length_eq
  rw[decide_eq_true z,decide_eq_true (by omega)]
 ·obtain⟨x,hx⟩:=FT z
  have hm:=xM hx
  have:js.length<=(rows.erase x).length:=Bx nd λy hy=>by
   by_cases e:y=x
   ·rw[e];exact hx
   ·exact(xU e).mpr ((h y).mp hy)
  rw[Q8 hm]at this;have hp:=xE hm;rw[decide_eq_false z,decide_eq_false (by omega)]
theorem N8{K:wa}{w:wR}{H:Hp}{Q:VK}{v:V}{ks:List (List Int)}(h:Is K H v (.list (ks.map TZ)))(z:ks.length<=999)(q:∀(l:wd)(H':Hp)(ws:List V),H l=none->af H H'->H' l=some (mm w l ws)->decide ((ws.length:Int)=(ks.length:Int))=decide ks.Nodup->Q (.ref l) H'):B0 K w [v] H Q:=by
 obtain⟨p,vs,rfl,hs,t⟩:=bO.mp h;have hl:=t.length;rw[wm]at hl;refine⟨p,vs,λj=>ks.getD j [],rfl,hs,by omega,λj v hv=>?_,λl ws js h1 h2 h3 h4 h5=>?_⟩
 ·obtain⟨hj,ij⟩:=dz t hv
  rw[wm]at hj;rw[wf,wB,wb hj]at ij
  show Bj K H v (ks.getD j [])
  rw[wf,wb hj];exact jI.mp ij
 ·refine q l _ ws h1 (af.upd h1) cb ?_
  rw[h2];refine BY h4 λx=>(h5 x).trans ?_
  constructor
  ·rintro ⟨j,hj,rfl⟩;exact GM.getD_mem (by omega)
  ·intro hx
   obtain⟨j,hj,e⟩:=Y0 [] hx;exact⟨j,by omega,e⟩
def kF(n:Int)(d:wu):Bool:=dX d&&(decide ((aI d).length<=60)&&((aI d).all (gB n)&&decide ((aI d).map dN).Nodup))
def F7(K:wa):Sp:=λvs H Q _=>∃x0 x1,vs=[x0,x1] /\ ∃(d:wu)(n:Int),Is K H x0 d/\x1=.int n /\ ∀H',af H H'->Q (.bl (kF n d)) H'
theorem IH{K:wa}{H:Hp}{Q:VK}{E:XK}{v:V}{d:wu}{n:Int}(h1:Is K H v d)(q:∀H',af H H'->Q (.bl (kF n d)) H'):F7 K [v,.int n] H Q E:=⟨_,_,rfl,d,n,h1,rfl,q⟩
theorem Zw{n:Int}{ds:List wu}(h:ds.all (gB n)=true):fU ds (ds.map dN):=by
 refine⟨by rw[wm],λi hi=>?_⟩;rw[wm]at hi;have ht:=wv.mp h _ (vn hi);obtain⟨a,b,c,h1,h2,_⟩:=Us ht;rw[wf,wb hi,wf,wB,wb hi]
 show dg ds[i] (dN ds[i])
 rw[h2];exact h1
theorem zoa(T:Txt K mg a):aK P w K mg base bc 5 a.EN a.DJ yh (F7 K):=by
 refine T.DZ.F.ok O8 ?_ ?_;wtm_at "b2"
 refine⟨_,(aF (bI (PW.pt (cv (bA (bC (aB (yw T) hr T.me (aa (pv 0) ae)))) (cv (bG sP (aD (show ao _ (.builtin "len") (a_ K)from bz) rfl T.z_len bo (aa (pv 0) ae)) (eV rfl T.Nf) (aV _)) (cY (bA (bC (aD (show ao _ (.builtin "all") (eY K)from f_ rfl) rfl T.z_all fC (aa (cT rfl (bU.by (N':=["tie","worms"]) (src:=[none,some 1]) rfl (show cw _ (az mM).names nQ ["tie","worms"] [none,some 1]=true from by decide +kernel)) (kQ (pv 0)) (λ_ _ _ _ _=>(bZ (i:=0) (show(["tie","worms"]:List Str).Nodup from by decide) rfl (Or.inl rfl))) (λ_ _ _ _ _=>cI) (λ_ _ _ _ _=>(aB (zrv (K:=K) (mg:=mg) (a:=a) T) hr T.EI (aa (pv 0) (aa (pv 1) ae))))) ae)))))))) (aA (aG cK)) bH)
     (aA (aG (dH (show ax _ (wQ .Eq) (cU K)from dO hu) (aD (show ao _ (.builtin "len") (FQ w)from Zq) rfl T.z_len bo (aa (eO (show ao _ (.type "set") (B0 K w)from TF hu rfl) rfl T.z_set zw2 (aa (cT rfl (bU.by (N':=["tie"]) (src:=[none]) rfl (show cw _ (az mM).names nQ ["tie"] [none]=true from by decide +kernel)) (kQ (pv 0)) (λ_ _ _ _ _=>(bZ (i:=0) (show(["tie"]:List Str).Nodup from by decide) rfl (Or.inl rfl))) (λ_ _ _ _ _=>cI) (λ_ _ _ _ _=>(eO (show ao _ (.type "tuple") (dS K)from ic) rfl T.z_tuple dY (aa (pv 0) ae)))) ae)) ae)) (aD (show ao _ (.builtin "len") (a_ K)from bz) rfl T.z_len bo (aa (pv 0) ae)) (aV _))))),?_⟩
 wtm_at "cl";rw[show start nQ [x0,x1]=[some x0,some x1]from rfl];obtain⟨d,n,hd,rfl,q⟩:=h;o_head sH hd (λH1 S1=>?_);unfold kF at q;cases el:dX d with
 | false =>
   rw[el]at q;k_few;exact q H1 S1
 | true =>
   rw[el,wP]at q;have il:∀{H'},af H H'->(Is K H' x0 (.list (aI d))\/Is K H' x0 (.tuple (aI d))):=λs=>ka (hd.by s) el
   o_head fO (il S1) ?_;k_few
   . rename_i z
     rw[decide_eq_false (by omega),vi]at q;exact q H1 S1
   . rename_i z
     have hz:(aI d).length<=60:=by omega
     rw[decide_eq_true hz,wP]at q;refine FK (gB n) (o0:=none) (tl:=[some (.int n)]) (il S1) rfl ?_ ?_
     . intro D i x ys o H2 hi ix inv
       o_head RE ix (λH3 S3=>?_);k_few;exact dE inv (by omega) (λ_ _ _ _ _ z=>z) ⟨_,rfl⟩ S3 rfl
     . intro D H2 hn S2 hD
       have T2:=S1.trans S2;o_head fE (.of hD) ?_;rw[B6];cases ea:(aI d).all (gB n)with
       | false =>
         rw[ea,vi]at q;k_few;exact q H2 T2
       | true =>
         rw[ea,wP]at q;o_head BI (il T2) (Zw ea) (by omega) rfl (λD3 us H3 n3 S3 e3 t3=>?_);have T3:=T2.trans S3;o_head N8 (bO.mpr ⟨D3,us,rfl,.of e3,t3⟩) (by rw[wm];omega) (λl4 H4 ws n4 S4 e4 hw=>?_);o_head ⟨l4,ws,rfl,e4,?_⟩;o_head fO (il (T3.trans S4)) ?_;rw[wm]at hw;k_few;rw[hw];exact q H4 (T3.trans S4)
structure R9(K:wa)(H:Hp)(v0 v1 v2:V)(rs:List Int)(us ts:List (List Int)):Prop where
 r:∃d,Is K H v0 d/\dg d rs
 u:∃d ds,Is K H v1 d/\fS d ds/\fU ds us
 t:∃d ds,Is K H v2 d/\fS d ds/\fU ds ts
 ok:jq rs us ts
def nK(d0 d1 d2:wu):Bool:=jH d0&&(j5 d1 (dN d0)&&kF ((dN d0).length:Int) d2)
def BQ(K:wa)(a:Ad):Sp:=λvs H Q E=>∃x0 x1 x2,vs=[x0,x1,x2] /\ ∃(d0 d1 d2:wu),Is K H x0 d0/\Is K H x1 d1/\Is K H x2 d2/\(aI d0).length<=1000/\(∀t∈aI d1,(aI t).length<=1000)/\((nK d0 d1 d2=false /\ ∀H',af H H'->E (.ref a.cB) none H')\/(∃(rs:List Int)(us ts:List (List Int)),dg d0 rs/\fS d1 (aI d1)/\fU (aI d1) us/\fS d2 (aI d2)/\fU (aI d2) ts/\jq rs us ts /\ ∀v H' ts',af H H'->ts'.Perm ts->i_ ts'->Is K H' v (Av rs us ts')->Q v H'))
theorem Oj{K:wa}{a:Ad}{H:Hp}{Q:VK}{E:XK}{x y z:V}{d0 d1 d2:wu}(h0:Is K H x d0)(h1:Is K H y d1)(h2:Is K H z d2)(z0:(aI d0).length<=1000)(z1:∀t∈aI d1,(aI t).length<=1000)(hn:nK d0 d1 d2=false)(q:∀H',af H H'->E (.ref a.cB) none H'):BQ K a [x,y,z] H Q E:=⟨_,_,_,rfl,d0,d1,d2,h0,h1,h2,z0,z1,.inl ⟨hn,q⟩⟩
theorem RL{d:wu}{ns:List Int}(h:dg d ns):dN d=ns:=by
 unfold dN;rw[h.listed.2,Wu];exact(VM λa _=>rfl).trans (XS _)
theorem Uy{d:wu}{rs:List Int}{us ts:List (List Int)}(s:fS d (aI d))(r:fU (aI d) us)(ok:jq rs us ts):j5 d rs=true:=by
 unfold j5;rw[s.listed.1,decide_eq_true (by rw[r.1,ok.ul]),wP,wP,wv];intro i hi;have hi:=vy.mp hi;have di:=r.2 i (by rw[ok.ul];exact hi);obtain⟨h1,h2⟩:=ok.u i hi;unfold jz;rw[di.Fi h2,di.listed.2,wm,h1];simp
theorem ztH{n:Nat}{d:wu}{t:List Int}(h:dg d t)(k:Mo n t):gB (n:Int) d=true:=by
 obtain⟨a,b,c,rfl,h1,h2,h3,h4⟩:=k;unfold gB;rw[h.listed.1,h.listed.2]
 show(true&&(decide (3=3)&&(((decide ((0:Int)<=(a:Int))&&decide ((a:Int)<=(n:Int)-1))&&(decide ((0:Int)<=(b:Int))&&decide ((b:Int)<=(n:Int)-1)))&&(!PyData.eqv (.int (a:Int)) (.int (b:Int))&&(decide ((0:Int)<=(c:Int))&&decide ((c:Int)<=4))))))=true
 rw[BB,decide_eq_false (show ¬ (a:Int)=(b:Int) by omega),decide_eq_true (show(0:Int)<=(a:Int) by omega),decide_eq_true (show(a:Int)<=(n:Int)-1 by omega),decide_eq_true (show(0:Int)<=(b:Int) by omega),decide_eq_true (show(b:Int)<=(n:Int)-1 by omega),decide_eq_true (show(0:Int)<=(c:Int) by omega),decide_eq_true (show(c:Int)<=4 by omega)]
 rfl
theorem Yb{ds:List wu}{rows:List (List Int)}(r:fU ds rows):ds.map dN=rows:=by
 refine vF (by rw[wm,r.1]) λi h1 h2=>?_
 have:=RL (r.2 i h2);rw[wm]at h1;rw[wf,wb h1,wf,wb h2]at this;rw[vt];exact this
theorem YC{d:wu}{rs:List Int}{us ts:List (List Int)}(s:fS d (aI d))(r:fU (aI d) ts)(ok:jq rs us ts):kF (rs.length:Int) d=true:=by
 unfold kF;rw[s.listed.1,decide_eq_true (by rw[r.1];exact ok.tl),Yb r,decide_eq_true ok.nd,wP,wP,xW,wv];intro e he;obtain⟨i,hi,rfl⟩:=Wg he;have di:=r.2 i (by rw[<- r.1];exact hi);have hi':i<ts.length:=by rw[<- r.1];exact hi
 rw[wf,wb hi,wf,wb hi']at di;exact ztH di (ok.t _ (vn hi'))
theorem OE{d:wu}{rs:List Int}{us ts:List (List Int)}(e0:dg d rs)(ok:jq rs us ts):jH d=true:=by
 have n8:=ok.n8;have n1:=ok.n1;unfold jH;rw[e0.Fi ok.r,e0.listed.2,wm,decide_eq_true n1,decide_eq_true n8];rfl
theorem Z2{K:wa}{a:Ad}{H:Hp}{Q:VK}{E:XK}{x y z:V}{rs:List Int}{us ts:List (List Int)}(h:R9 K H x y z rs us ts)(q:∀v H' ts',af H H'->ts'.Perm ts->i_ ts'->Is K H' v (Av rs us ts')->Q v H'):BQ K a [x,y,z] H Q E:=by
 obtain⟨⟨d0,i0,e0⟩,⟨d1,ds1,i1,s1,r1⟩,⟨d2,ds2,i2,s2,r2⟩,ok⟩:=h;have t1:=s1.listed.2;have t2:=s2.listed.2;subst t1 t2;have n8:=ok.n8;refine⟨_,_,_,rfl,d0,d1,d2,i0,i1,i2,by rw[e0.listed.2,wm];omega,λt ht=>?_,.inr ⟨rs,us,ts,e0,s1,r1,s2,r2,ok,q⟩⟩;obtain⟨i,hi,rfl⟩:=Wg ht;have hi':i<rs.length:=by rw[<- ok.ul,<- r1.1];exact hi
 have di:=r1.2 i (by rw[<- r1.1];exact hi);rw[wf,wb hi]at di;have h1:=(ok.u i hi').1;have h2:=ok.ri hi';have:=di.listed.2
 show(aI (aI d1)[i]).length<=1000
 rw[show aI (aI d1)[i]=_ from this,wm];omega
theorem Oa{K:wa}{H:Hp}{Q:VK}{v:V}{ds:List wu}(h:Is K H v (.list ds)\/Is K H v (.tuple ds))(q:∀w H',af H H'->Is K H' w (.tuple ds)->Q w H'):dS K [v] H Q:=by
 rcases h with h | h
 ·exact nN h q
 ·exact BD h (q v H (af.refl _) h)
theorem Kh(rows:List (List Int)):fU (rows.map TZ) rows:=⟨by rw[wm],λi hi=>.inr (by rw[wf,wB,wb hi,wf,wb hi];rfl)⟩
theorem SN(T:Txt K mg a):aK P w K mg base (bX P w) 6 a.Fn a.Er rF (BQ K a):=by
 refine T.EG.F.gR zq2 ?_ ?_;wtm_at "b3"
 refine⟨_,(aF (bI (bA (bC (aB (zkI T) hr T.Dx (aa (pv 0) ae)))) (aA (fm T.yR rfl rfl T.oA fB (aa ah ae))) bH)
     (aF (bI (bA (bC (aB (RD T) hr T.EA (aa (pv 1) (aa (pv 0) ae))))) (aA (fm T.yR rfl rfl T.oA fB (aa ah ae))) bH)
     (aF (bI (bA (bC (aB (zoa T) hr T.DZ (aa (pv 2) (aa (aD (show ao _ (.builtin "len") (a_ K)from bz) rfl T.z_len bo (aa (pv 0) ae)) ae))))) (aA (fm T.yR rfl rfl T.oA fB (aa ah ae))) bH)
     (aA (aG (hJ (aa (eO (show ao _ (.type "tuple") (dS K)from ic) rfl T.z_tuple dY (aa (pv 0) ae)) (aa (eO (show ao _ (.type "tuple") (dS K)from ic) rfl T.z_tuple dY (aa (cT rfl (bU.by (N':=["own"]) (src:=[none]) rfl (show cw _ (az mH).names mY ["own"] [none]=true from by decide +kernel)) (kQ (pv 1)) (λ_ _ _ _ _=>(bZ (i:=0) (show(["own"]:List Str).Nodup from by decide) rfl (Or.inl rfl))) (λ_ _ _ _ _=>cI) (λ_ _ _ _ _=>(eO (show ao _ (.type "tuple") (dS K)from ic) rfl T.z_tuple dY (aa (pv 0) ae)))) ae)) (aa (eO (show ao _ (.type "tuple") (dS K)from ic) rfl T.z_tuple dY (aa (aD (show ao _ (.builtin "sorted") (zk K)from PN) rfl T.z_sorted Rt (aa (cT rfl (bU.by (N':=["tie"]) (src:=[none]) rfl (show cw _ (az mH).names mY ["tie"] [none]=true from by decide +kernel)) (kQ (pv 2)) (λ_ _ _ _ _=>(bZ (i:=0) (show(["tie"]:List Str).Nodup from by decide) rfl (Or.inl rfl))) (λ_ _ _ _ _=>cI) (λ_ _ _ _ _=>(eO (show ao _ (.type "tuple") (dS K)from ic) rfl T.z_tuple dY (aa (pv 0) ae)))) ae)) ae)) ae))))))))),?_⟩
 wtm_at "cl";rw[show start mY [x0,x1,x2]=[some x0,some x1,some x2]from rfl];obtain⟨d0,d1,d2,i0,i1,i2,z0,z1,h⟩:=h;rcases h with⟨hn,qe⟩ | ⟨rs,us,ts,e0,s1,r1,s2,r2,ok,q⟩
 . unfold nK at hn
   o_head IL i0 z0 (λH1 S1=>?_);cases er:jH d0 with
   | false =>
     k_few;exact⟨by simp;decide,qe H1 S1⟩
   | true =>
     rw[er,wP]at hn;unfold jH at er;simp only[wD,decide_eq_true_eq]at er;obtain⟨ew,hl1,hl8⟩:=er;obtain⟨e0,_⟩:=Ub ew;have hrl:(dN d0).length<=8:=by unfold dN;rw[wm];exact hl8
     generalize dN d0=rs at *;o_head JV (i1.by S1) (i0.by S1) e0 hrl z1 (λH2 S2=>?_);have T2:=S1.trans S2;cases eu:j5 d1 rs with
     | false =>
       k_few;exact⟨by simp;decide,qe H2 T2⟩
     | true =>
       rw[eu,wP]at hn;o_head fO (e0.is (i0.by T2)) ?_;rw[wm];o_head IH (i2.by T2) (λH3 S3=>?_);rw[hn];k_few;exact⟨by simp;decide,qe H3 (T2.trans S3)⟩
 have n8:=ok.n8;have n1:=ok.n1;o_head IL i0 z0 (λH1 S1=>?_);rw[OE e0 ok];o_head JV (i1.by S1) (i0.by S1) e0 n8 z1 (λH2 S2=>?_);rw[Uy s1 r1 ok];have T2:=S1.trans S2;o_head fO (e0.is (i0.by T2)) ?_;rw[wm];o_head IH (i2.by T2) (λH3 S3=>?_);rw[YC s2 r2 ok];have T3:=T2.trans S3;o_head Oa (e0.is (i0.by T3)) (λw0 H4 S4 j0=>?_);have T4:=T3.trans S4;o_head BI (s1.is (i1.by T4)) r1 (by rw[r1.1,ok.ul];omega) rfl (λD5 us5 H5 n5 S5 e5 t5=>?_);have T5:=T4.trans S5;o_head nN (bO.mpr ⟨D5,us5,rfl,.of e5,t5⟩) (λw1 H6 S6 j1=>?_);have T6:=T5.trans S6;o_head BI (s2.is (i2.by T6)) r2 (by have:=ok.tl;rw[r2.1];omega) rfl (λD7 us7 H7 n7 S7 e7 t7=>?_);have T7:=T6.trans S7;o_head RG (.inl (bO.mpr ⟨D7,us7,rfl,.of e7,t7⟩)) (by have:=ok.tl;omega) ok.nd (λk hk z=>?_) (λl8 H8 us8 js n8' S8 e8 pm so t8=>?_)
 . obtain⟨x,y,c,e,_⟩:=ok.t k hk
   rw[e]at z;cases z
 o_head nN (bO.mpr ⟨l8,us8,rfl,.of e8,t8⟩) (λw2 H9 S9 j2=>?_);o_head jA (ds:=[TZ rs,oJ us,oJ js]) (by simp) (.cons (((j0.by S5).by S6).by (S7.trans (S8.trans S9))) (.cons (j1.by (S7.trans (S8.trans S9))) (.cons j2 .nil))) (λv H10 S10 i10=>?_);exact q v H10 js (T7.trans (S8.trans (S9.trans S10))) pm so i10
def FW(K:wa):Sp:=λvs H Q _=>∃x0,vs=[x0] /\ ∃r:Rat,Is K H x0 (N r)/\mn 400 r/\Q (.str (iJ r)) H
theorem RS{K:wa}{H:Hp}{Q:VK}{E:XK}{r:Rat}{v:V}(h:Is K H v (N r))(hf:mn 400 r)(q:Q (.str (iJ r)) H):FW K [v] H Q E:=⟨_,rfl,r,h,hf,q⟩
theorem Ij{r:Rat} : ((r.den:Int)=1) ↔ r.den=1:=by omega
theorem Uz(T:Txt K mg a):aK P w K mg base bc 1 a.DN a.Df pF (FW K):=by
 refine T.Dt.F.ok zP ?_ ?_;wtm_at "b1";have hgd:=hr.gd
 refine⟨_,(aF (aX 1 zP.nd (eO (show ao _ (.type "str") sC from Hx) rfl T.z_str r_ (aa (aJ (pv 0)) ae)))
     (aF (bI (bG (show ax _ (wQ .Eq) (cU K)from dO hu) (aJ (pv 0)) ak (aV _)) (aA (aG (pv 1))) bH)
     (aF (aX 2 zP.nd (eO (show ao _ (.type "str") sC from Hx) rfl T.z_str r_ (aa (aJ (pv 0)) ae)))
     (aA (aG (OW (Jh (pv 1) (O5 (Jh (pv 2) Pn))))))))),?_⟩
 wtm_at "cl";rw[show start Ik [x0]=[some x0,none,none]from rfl];obtain⟨r,hr,hf,q⟩:=h;have z:2000<=wC:=by decide
 have l1:=SA r.num;have f1:=hf.n;have f2:=hf.d;o_head Mj (G9 f1) ?_;rw[KP];k_few
 . rename_i e
   have e:r.den=1:=Ij.mp e;unfold iJ at q;rw[if_pos e]at q;exact q
 . rename_i e
   have e:¬ r.den=1:=λz=>e (Ij.mpr z)
   unfold iJ at q;rw[if_neg e]at q;refine Mj (by rw[Xr];exact G9 f2) ?_;rw[KP,PH];o_head Z3 (Gd ?_);o_head ⟨_,rfl,by omega,by rw[Bz];omega,TU (by rw[Bz,bY];show _+1<=_;omega) (Gd ?_)⟩;rw[Bz];o_head ⟨_,rfl,by rw[g_];omega,by rw[bY,bY,g_];show _+1+_<=_;omega,Z4 (by rw[bY,bY,g_];show _+1+_<=_;omega) ?_⟩;rw[show(wq "/")=⟨#[47]⟩from yD];exact q
def KI(K:wa):Sp:=λvs H Q _=>∃x0 x1,vs=[x0,x1] /\ ∃(x:wn)(m:Int),x0=.str x/\x1=.int m/\x.cps.all (· < 128)=true/\x.length<=1000 /\ ∀H',af H H'->Q (.bl (wT x m)) H'
theorem Hn{K:wa}{H:Hp}{Q:VK}{E:XK}{x:wn}{m:Int}(ha:x.cps.all (· < 128)=true)(hl:x.length<=1000)(q:∀H',af H H'->Q (.bl (wT x m)) H'):KI K [.str x,.int m] H Q E:=⟨_,_,rfl,x,m,rfl,rfl,ha,hl,q⟩
theorem Lj(T:Txt K mg a):aK P w K mg base bc 1 a.Dv a.C2 tf (KI K):=by
 refine T.yH.F.ok Td ?_ ?_;wtm_at "b2"
 refine⟨_,(aF (bI (PW.pt (cv (bA (KZ gA gA ak (aD (show ao _ (.builtin "len") m8 from zC) rfl T.z_len bo (aa (pv 0) ae)) (pv 1))) (cY (bA (bC (aD (show ao _ (.builtin "all") (eY K)from f_ rfl) rfl T.z_all fC (aa (cT rfl (bU.by (N':=["sign"]) (src:=[none]) rfl (show cw _ (az rB).names tX ["sign"] [none]=true from by decide +kernel)) (zyw (pv 0)) (λ_ _ _ _ _=>(bZ (i:=0) (show(["sign"]:List Str).Nodup from by decide) rfl (Or.inl rfl))) (λ_ _ _ _ _=>cI) (λ_ _ _ _ _=>(dH (show ax _ (wQ .In) mK from Bv) (pv 0) (Sg rfl T.Nj) (by with_unfolding_all rfl)))) ae))))))) (aA (aG cK)) bH)
     (aA (aG (RM (dH (show ax _ (wQ .Eq) (cU K)from dO hu) (pv 0) ah (aV _)) (eB (dH (show ax _ (wQ .NotEq) (cM K)from dy hu) (aJ (pv 0)) ah (aV _))))))),?_⟩
 wtm_at "cl";rw[show start tX [x0,x1]=[some x0,some x1]from rfl];obtain⟨x,m,rfl,rfl,ha,hl,q⟩:=h;have z:2000<=wC:=by decide
 o_head CF (by omega) ?_;k_few
 . rename_i h1 h2
   have e:wT x m=false:=by unfold wT;rw[decide_eq_false h2,vi,We]
   rw[e]at q;exact q H (af.refl _)
 . rename_i h1 h2
   refine zop ?_;o_head UY ha (e_ H [] λj y _=>y=.bl (gE (x.cps.toList.getD j 0))) (λD H' n s e=>⟨⟨none,rfl⟩,n,s,e,rfl,λj y z=>by simp at z⟩) ?_ ?_
   . intro D i c ys σ' H1 hc inv
     obtain⟨⟨o,rfl⟩,_⟩:=id inv;have hi:i<x.length:=(vZ.mp hc).1
     have ec:x.cps.toList.getD i 0=c:=by
       rw[wf,vK,hc];rfl
     o_head A3 ?_;rw[YQ,Oo];k_few;exact dE inv (by omega) (λ_ _ _ _ _ h=>h) ⟨_,rfl⟩ (af.refl _) (by rw[ec])
   . rintro D ys σ' H1 ⟨_,n1,S1,e1,l1,r1⟩
     have ey:ys=(x.cps.toList.map gE).map V.bl:=by
       refine vF (by rw[l1,wm,wm];exact zev x) λi h1 h2=>?_
       rw[r1 i ys[i] (wb h1)];rw[wm,wm]at h2;rw[vt,vt,wf,wb h2]
       rfl
     rw[ey]at e1;o_head fE (.of e1) ?_;rw[show(x.cps.toList.map gE).all id=x.cps.toList.all gE by rw[vW];rfl]
     have key:wT x m=(x.cps.toList.all gE&&((x == wq "0") || !(x.cps.toList.head? == some 48))):=by
       unfold wT;rw[decide_eq_true (show 1<=x.length by omega),decide_eq_true h2,wP,wP]
     rw[key]at q;k_few
     . rename_i e
       rw[e,vi]at q;exact q _ S1
     . rename_i e
       rw[e,wP]at q;refine BR (iH ha) (d4 _) ?_;cases hz:(x == wq "0")with
       | true =>
         rw[hz,Bool.true_or]at q;k_few;exact q _ S1
       | false =>
         rw[hz,xX]at q;k_few;cases hc:x.cps.toList with
         | nil =>
           have:=zev x;rw[hc]at this;simp at this;omega
         | cons c0 r0 =>
           have ec:x.cps.toList[0]? = some c0:=by rw[hc];rfl
           refine .inr (.inr ⟨_,_,_,rfl,rfl,by omega,cP (j:=0) ec,?_⟩);k_few
           have c128:c0<128:=by
             rw[<- Vd,hc,WI,wD,decide_eq_true_eq]at ha;exact ha.1
           refine yx (iH (by simp;omega)) (d4 _) ?_;rw[Sv];rw[hc,List.head?_cons]at q;have eb:((some c0 == some 48:Bool))=decide (c0=48):=by rw[WP];simp
           rw[eb]at q;exact q _ S1
 . rename_i h1
   have e:wT x m=false:=by unfold wT;rw[decide_eq_false (by omega),vi]
   rw[e]at q;exact q H (af.refl _)
def k_(K:wa):Sp:=λvs H Q _=>∃x0,vs=[x0] /\ ∃(g:Bool)(b:Nat)(od:Option Nat),x0=.str (jE g b od)/\(aZ b).length<=400/\(∀d,od=some d->(aZ d).length<=400) /\ ∀v H',af H H'->Is K H' v (.tuple [.int (jb g b),.int ((od.getD 1:Nat):Int)])->Q v H'
theorem Kj{K:wa}{H:Hp}{Q:VK}{E:XK}{g:Bool}{b:Nat}{od:Option Nat}(h1:(aZ b).length<=400)(h2:∀d,od=some d->(aZ d).length<=400)(q:∀v H',af H H'->Is K H' v (.tuple [.int (jb g b),.int ((od.getD 1:Nat):Int)])->Q v H'):k_ K [.str (jE g b od)] H Q E:=⟨_,rfl,g,b,od,rfl,h1,h2,q⟩
theorem IF{K:wa}{H:Hp}{QB:Bool->Hp->Prop}{x:wn}(h:x.length<=wC)(q:QB (decide (x.length≠0)) H):pM K (.str x) H QB:=⟨_,⟨h,rfl⟩,by
 have e:(((x.length:Int) != 0):Bool)=decide (x.length≠0):=by rw[WP,decide_eq_true_eq,bne_iff_ne];omega
 rw[e];exact q⟩
theorem zt0(g:Bool)(a:Nat):(eK g a).length<=(aZ a).length+1:=by
 unfold eK
 split
 ·rw[bY,g_]
  show 1+_<=_
  omega
 ·rw[g_];omega
theorem ZX{g:Bool}{a:Nat}{od:Option Nat}(h1:(aZ a).length<=400)(h2:∀d,od=some d->(aZ d).length<=400):(jE g a od).length<=802:=by
 have:=zt0 g a;cases od with
 | none =>
  show(eK g a++⟨#[]⟩).length<=_
  rw[zX];omega
 | some d =>
  have:=h2 d rfl
  show(eK g a++(⟨#[47]⟩++bu d)).length<=_
  rw[bY,bY,g_]
  show _+(1+_)<=_
  omega
theorem zt{H:Hp}{Q:VK}{g:Bool}{b:Nat}(hl:(aZ b).length<=639)(q:Q (.int (jb g b)) H):nC [.str (eK g b)] H Q:=⟨g,b,rfl,hl,q⟩
theorem Hu(T:Txt K mg a):aK P w K mg base bc 1 a.En a.DE pL (k_ K):=by
 refine T.yM.F.ok F9 ?_ ?_;wtm_at "b1"
 refine⟨_,(aF (aX 1 F9.nd (cQ va PySem.F.slot_str_partition PySem.F.type_str_partition (show b_ _ "str.partition" Ax from UT) (pv 0) (aa ah ae)))
     (aA (aG (hJ (aa (eO (show ao _ (.type "int") nC from Gb) rfl T.z_int rj (aa (aJ (pv 1)) ae)) (aa (Ar (B9 (aJ (pv 1))) (eO (show ao _ (.type "int") nC from Gb) rfl T.z_int rj (aa (aJ (pv 1)) ae)) ak) ae)))))),?_⟩
 wtm_at "cl";rw[show start L4 [x0]=[some x0,none]from rfl];obtain⟨g,b,od,rfl,h1,h2,q⟩:=h;have z:2000<=wC:=by decide
 have l1:=ZX (g:=g) h1 h2;cases od with
 | none =>
   o_head eI ?_;o_head Lb (by decide) (by omega) (LL g b none) (λl H1 n1 S1 e1=>?_);o_head gX (.of e1) rfl ?_;o_head zt (by omega) ?_;o_head gX (.of e1) rfl ?_;refine IF (by decide) ?_;rw[show decide (Qd.length≠0)=false from rfl,if_neg (by decide)];o_head jA (ds:=[.int (jb g b),.int 1]) (by simp) (.cons (bR.mpr rfl) (.cons (bR.mpr rfl) .nil)) (λv H2 S2 i2=>?_);exact q v H2 (S1.trans S2) i2
 | some d =>
   have hd:=h2 d rfl;o_head eI ?_;o_head Lb (by decide) (by omega) (LL g b (some d)) (λl H1 n1 S1 e1=>?_);o_head gX (.of e1) rfl ?_;o_head zt (by omega) ?_;o_head gX (.of e1) rfl ?_;have hn:=RX d;refine IF (by rw[g_];omega) ?_;rw[show decide ((bu d).length≠0)=true from decide_eq_true (by omega),if_pos rfl];o_head gX (.of e1) rfl ?_;o_head (show nC [.str (eK false d)] H1 _ from zt (by omega) ?_);o_head jA (ds:=[.int (jb g b),.int (d:Int)]) (by simp) (.cons (bR.mpr rfl) (.cons (bR.mpr rfl) .nil)) (λv H2 S2 i2=>?_);exact q v H2 (S1.trans S2) i2
def Mn(K:wa):Sp:=λvs H Q _=>∃x0 x1,vs=[x0,x1] /\ ∃(x:wn)(m:Int),x0=.str x/\x1=.int m/\bQ x/\x.length<=900/\m<=400 /\ ∀H',af H H'->Q (.bl (nT x m)) H'
theorem R6{K:wa}{H:Hp}{Q:VK}{E:XK}{x:wn}{m:Int}(ha:bQ x)(hl:x.length<=900)(hm:m<=400)(q:∀H',af H H'->Q (.bl (nT x m)) H'):Mn K [.str x,.int m] H Q E:=⟨_,_,rfl,x,m,rfl,rfl,ha,hl,hm,q⟩
theorem R5{x:wn}{lo hi:Option Int}(h:bQ x):bQ (Vq x lo hi):=by
 unfold Vq
 split
 ·exact h
 ·refine yj.mpr λc hc=>?_
  have hc:c∈((XT lo hi 1 x.length).filterMap (x.cps[·]?)):=hc;obtain⟨i,_,e⟩:=VS.mp hc;refine yj.mp h c ?_;rw[<- vK]at e;exact vz e
theorem Pt(T:Txt K mg a):aK P w K mg base bc 3 a.C_ a.CU rP (Mn K):=by
 refine T.C3.F.ok oV ?_ ?_;wtm_at "b2"
 refine⟨_,(aF (aX 2 oV.nd (cQ va Wx Wy (show b_ _ "str.split" iz from jY) (pv 0) (aa ah ae)))
     (aF (aX 3 oV.nd (Ar (bC (cQ va PySem.F.slot_str_startswith PySem.F.type_str_startswith (show b_ _ "str.startswith" Bf from zqI) (pv 0) (aa ah ae))) (br (show fD _ (pR K)from KN) (aJ (pv 2)) (bj ak) bN) (aJ (pv 2))))
     (aF (bI (PW.pt (cv (bG sP (aD (show ao _ (.builtin "len") (a_ K)from bz) rfl T.z_len bo (aa (pv 2) ae)) ak (aV _)) (cY (bA (bC (aD (show ao _ (.builtin "all") (eY K)from f_ rfl) rfl T.z_all fC (aa (cT rfl (bU.by (N':=["part","most"]) (src:=[none,some 1]) rfl (show cw _ (az tR).names Ce ["part","most"] [none,some 1]=true from by decide +kernel)) (fc (aw av (bL (aa (pv 3) ae)) (br (show fD _ (pR K)from KN) (pv 2) (bj ak) bN))) (λ_ _ _ _ _=>(bZ (i:=0) (show(["part","most"]:List Str).Nodup from by decide) rfl (Or.inl rfl))) (λ_ _ _ _ _=>cI) (λ_ _ _ _ _=>(aB (Lj (K:=K) (mg:=mg) (a:=a) T) hr T.yH (aa (pv 0) (aa (pv 1) ae))))) ae))))))) (aA (aG cK)) bH)
     (aF (aX 4 oV.nd (aB (Hu T) hr T.yM (aa (pv 0) ae)))
     (aA (aG (df (aB (lq T) hr T.jP (aa (pv 4) ae)) (eB (dH (show ax _ (wQ .Eq) (cU K)from dO hu) (aB (Uz T) hr T.Dt (aa (pv 4) ae)) (pv 0) (aV _)))))))))),?_⟩
 wtm_at "cl";rw[show start Ce [x0,x1]=[some x0,some x1,none,none,none]from rfl];obtain⟨x,m,rfl,rfl,ha,hl,hm,q⟩:=h;have z:2000<=wC:=by decide
 have iE:=gC (x:=x) (s:="/") (by decide);have ne:=kJ x "/";have pin:=λt h=>fI (x:=x) (s:="/") (t:=t) h
 o_head eI ?_;o_head kr (by decide) (by omega) (by omega) (λl H1 n1 S1 e1=>?_);have nok:∀b,jN x m=b->jN x m=b:=λ_ h=>h
 obtain⟨ps,hps⟩:∃ps,ps=wM x "/":=⟨_,rfl⟩;have eTop:cC x=if vP x "-"=true then Vq ((wM x "/").headD ⟨#[]⟩) (some 1) none else(wM x "/").headD ⟨#[]⟩:=rfl
 have ePok:jN x m=(decide ((wM x "/").length<=2)&&(cC x::(wM x "/").tail).all (wT · m)):=rfl;rw[<- hps]at e1 iE ne pin eTop ePok
 obtain⟨p0,tl,rfl⟩:∃p0 tl,ps=p0::tl:=by
   cases ps with
   | nil=>exact absurd rfl ne
   | cons p0 tl=>exact⟨p0,tl,rfl⟩
 have hp0:=pin p0 (by simp);rw[xy]at eTop;rw[Qi]at ePok
 have aTop:bQ (cC x)/\(cC x).length<=900:=by
   rw[eTop]
   split
   . exact⟨R5 (hp0.1 ha),vd (Txt.slice_le p0 _ _) (by omega)⟩
   . exact⟨hp0.1 ha,by omega⟩
 o_head eI ?_;o_head zrA ?_;k_few
 all_goals
   rename_i hg;refine cG (.of e1) (cP (j:=0) rfl) ?_
   first
     | (rw[if_pos hg]at eTop;o_head TX (by omega) ?_;rw[<- eTop])
     | (rw[if_neg (by rw[hg];decide)]at eTop;rw[<- eTop])
   o_head ⟨l,_,rfl,.inl (.of e1),?_⟩;rw[wm];k_few
   . rename_i hc
     have e:nT x m=false:=by
       unfold nT;rw[ePok,decide_eq_false (by omega),vi,vi]
     rw[e]at q;exact q _ S1
   rename_i hc;rw[decide_eq_true (show(p0::tl).length<=2 by omega),wP]at ePok;refine cW (by simp) (λl2 H2 n2 S2 e2=>?_);o_head .inl (iu (.of (S2 _ _ e1)) (λl3 H3 n3 S3 e3=>?_));rw[wU,AS]at e3;k_few;rw[wW]at hc;refine .inr (.inl ⟨_,_,_,_,rfl,rfl,S3 _ _ e2,e3,(by simp;omega),λl4 n4=>?_⟩);have S4:af H3 (upd H3 l4 (.lst ([.str (cC x)]++tl.map V.str))):=af.upd n4;have e4:(upd H3 l4 (.lst ([.str (cC x)]++tl.map V.str))) l4=some (.lst ((cC x::tl).map V.str)):=cb;generalize upd H3 l4 (.lst ([.str (cC x)]++tl.map V.str))=H4 at *;have T4:=S1.trans (S2.trans (S3.trans S4));o_head fu (.of e4) (o0:=none) (tl:=[some (.int m)]) rfl (λj y _=>y=.bl (wT ((cC x::tl).getD j ⟨#[]⟩) m)) ?_ ?_
   . intro D j y ys o H5 hx inv
     rw[wB]at hx;obtain⟨t,ht,rfl⟩:=vA.mp hx;have hj:=(wX.mp ht).1;rw[wW]at hj
     have at':bQ t/\t.length<=900:=by
       rcases wO.mp (vz ht)with rfl | hm'
       . exact aTop
       . have:=pin t (wI _ hm')
         exact⟨this.1 ha,by omega⟩
     o_head Hn at'.1 (by omega) (λH6 S6=>?_);k_few;exact dE inv (by omega) (λ_ _ _ _ _ h=>h) ⟨_,rfl⟩ S6 (by rw[wf,ht];rfl)
   . intro D ys H5 n5 S5 e5 l5 r5
     have ey:ys=((cC x::tl).map (wT · m)).map V.bl:=by
       refine vF (by rw[l5];simp) λi h1 h2=>?_
       rw[r5 i ys[i] (wb h1)];rw[wm,wm]at h2;rw[vt,vt,wf,wb h2]
       rfl
     rw[ey]at e5;o_head fE (.of e5) ?_;rw[show((cC x::tl).map (wT · m)).all id=jN x m by rw[ePok,vW];rfl];have T5:=T4.trans S5;k_few
     . rename_i hb
       have e:nT x m=false:=by unfold nT;rw[hb,vi]
       rw[e]at q;exact q _ T5
     . rename_i hb
       obtain⟨k1,k2,k3⟩:=HQ hb;have hv:k_ K [.str x] H5=k_ K [.str (jE (vP x "-") (cn (cC x)) (fq x))] H5:=by rw[<- k1]
       rw[hv];refine Kj (by omega) (λd hd=>by have:=k3 d hd;omega) (λv H6 S6 i6=>?_);have eN:nT x m=(dU (nZ x) (nD x)&&(iJ (WY (nZ x) (nD x)) == x)):=by unfold nT;rw[hb,wP]
       rw[eN]at q;have i6:Is K H6 v (.tuple [.int (nZ x),.int (nD x)]):=i6;k_few
       . rename_i hn
         have hn:dU (nZ x) (nD x)=true:=hn;rw[hn,wP]at q;obtain⟨r,er1,er2⟩:=BA hn;have er:WY (nZ x) (nD x)=r:=by rw[er1,er2,QF]
         have i6:Is K H6 v (N r):=by rw[er1,er2]at i6;exact i6
         rw[er]at q
         have fit:mn 400 r:=by
           refine⟨?_,?_⟩
           . have:r.num.natAbs=cn (cC x):=by rw[<- er1];unfold nZ jb;split<;>simp
             rw[this];omega
           . have hdn:r.den=(fq x).getD 1:=by
               have:(r.den:Int)=nD x:=er2.symm;unfold nD at this;omega
             rw[hdn];cases ho:fq x with
             | none =>
               show(aZ 1).length<=400
               rw[iF (by decide)]
               decide
             | some d =>
               have:=k3 d ho
               show(aZ d).length<=400
               omega
         refine RS i6 fit ?_;o_head BR (PQ r) (iH ha) ?_;exact q _ (T5.trans S6)
       . rename_i hn
         have hn:dU (nZ x) (nD x)=false:=hn;rw[hn,vi]at q;exact q _ (T5.trans S6)
def GQ(K:wa)(a:Ad):Sp:=λvs H Q E=>∃x0,vs=[x0] /\ ∃(l:wd)(xs:List wn),x0=.ref l/\aN K H l (xs.map V.str)/\xs.length<=950/\(∀x∈xs,bQ x/\x.length<=900)/\((xs.all (wT · 2)=false /\ ∀H',af H H'->E (.ref a.bg) none H')\/(xs.all (wT · 2)=true /\ ∀v H',af H H'->Is K H' v (TZ (xs.map λx=>((cn x:Nat):Int)))->Q v H'))
theorem G7{K:wa}{a:Ad}{H:Hp}{Q:VK}{E:XK}{l:wd}{xs:List wn}(h:aN K H l (xs.map V.str))(hl:xs.length<=950)(hf:∀x∈xs,bQ x/\x.length<=900)(q1:xs.all (wT · 2)=false->∀H',af H H'->E (.ref a.bg) none H')(q2:xs.all (wT · 2)=true->∀v H',af H H'->Is K H' v (TZ (xs.map λx=>((cn x:Nat):Int)))->Q v H'):GQ K a [.ref l] H Q E:=by
 refine⟨_,rfl,l,xs,rfl,h,hl,hf,?_⟩;cases e:xs.all (wT · 2)with
 | false=>exact .inl ⟨rfl,q1 e⟩
 | true=>exact .inr ⟨rfl,q2 e⟩
theorem JS(T:Txt K mg a):aK P w K mg base (bX P w) 2 a.Ex a.DB oW (GQ K a):=by
 refine T.yJ.F.gR ZZ ?_ ?_;wtm_at "b1"
 refine⟨_,(aF (bI (bA (bC (aD (show ao _ (.builtin "all") (eY K)from f_ rfl) rfl T.z_all fC (aa (cT rfl (bU.by (N':=["word"]) (src:=[none]) rfl (show cw _ (az mW).names nU ["word"] [none]=true from by decide +kernel)) (fc (pv 0)) (λ_ _ _ _ _=>(bZ (i:=0) (show(["word"]:List Str).Nodup from by decide) rfl (Or.inl rfl))) (λ_ _ _ _ _=>cI) (λ_ _ _ _ _=>(aB (Lj (K:=K) (mg:=mg) (a:=a) T) hr T.yH (aa (pv 0) (aa (eV rfl T.MV) ae))))) ae)))) (aA (fm T.iM rfl rfl T.gT fB (aa ah ae))) bH)
     (aA (aG (eO (show ao _ (.type "tuple") (dS K)from ic) rfl T.z_tuple dY (aa (cT rfl (bU.by (N':=["word"]) (src:=[none]) rfl (show cw _ (az mW).names nU ["word"] [none]=true from by decide +kernel)) (fc (pv 0)) (λ_ _ _ _ _=>(bZ (i:=0) (show(["word"]:List Str).Nodup from by decide) rfl (Or.inl rfl))) (λ_ _ _ _ _=>cI) (λ_ _ _ _ _=>(eO (show ao _ (.type "int") nP from Hs) rfl T.z_int rj (aa (pv 0) ae)))) ae))))),?_⟩
 wtm_at "cl";rw[show start nU [x0]=[some x0]from rfl];obtain⟨l,xs,rfl,hs,hl,hz,hc⟩:=h;o_head fu hs (o0:=none) (tl:=[]) rfl (λj y _=>y=.bl (wT (xs.getD j ⟨#[]⟩) 2)) ?_ ?_
 . intro D j x ys o H1 hx inv
   rw[wB]at hx;obtain⟨t,ht,rfl⟩:=vA.mp hx;have hj:=(wX.mp ht).1;obtain⟨b0,b1⟩:=hz t (vz ht);o_head Hn b0 (by omega) (λH2 S2=>?_);k_few;exact dE inv (by omega) (λ_ _ _ _ _ h=>h) ⟨_,rfl⟩ S2 (by rw[wf,ht];rfl)
 . intro D ys H1 n1 S1 e1 l1 r1
   have ey:ys=(xs.map (wT · 2)).map V.bl:=by
     refine vF (by rw[l1];simp) λi h1 h2=>?_
     rw[r1 i ys[i] (wb h1)];rw[wm,wm]at h2;rw[vt,vt,wf,wb h2]
     rfl
   rw[ey]at e1;o_head fE (.of e1) ?_;rw[show(xs.map (wT · 2)).all id=xs.all (wT · 2) by rw[vW];rfl];rcases hc with⟨hb,q⟩ | ⟨hb,q⟩
   . rw[hb]
     k_few;exact⟨by simp;decide,q _ S1⟩
   . rw[hb]
     have hs1:=S1.seq hs;o_head fu hs1 (o0:=none) (tl:=[]) rfl (λj y _=>y=.int (((xs.map λx=>((cn x:Nat):Int))).getD j 0)) ?_ ?_
     . intro D j x ys o H2 hx inv
       rw[wB]at hx;obtain⟨t,ht,rfl⟩:=vA.mp hx;have hj:=(wX.mp ht).1;obtain⟨k1,k2⟩:=rT (wv.mp hb t (vz ht));k_few;have hv:nP [.str t] H2=nP [.str (bu (cn t))] H2:=by rw[<- k1]
       rw[hv];refine Rg (by omega) ?_;k_few;exact dE inv (by omega) (λ_ _ _ _ _ h=>h) ⟨_,rfl⟩ (af.refl _) (by rw[wf,wB,ht];rfl)
     . intro D2 ys2 H2 n2 S2 e2 l2 r2
       have ey2:ys2=(xs.map λx=>((cn x:Nat):Int)).map V.int:=by
         refine vF (by rw[l2];simp) λi h1 h2=>?_
         rw[r2 i ys2[i] (wb h1)];rw[wm]at h2;rw[vt,wf,wb h2]
         rfl
       rw[ey2]at e2;o_head rH (.of e2) (λlt H3 n3 S3 e3=>?_);exact q _ _ (S1.trans (S2.trans S3)) (jI.mpr ⟨lt,rfl,.of e3⟩)
def aR(x:wn):Rat:=WY (nZ x) (nD x)
def Ja(K:wa)(a:Ad):Sp:=λvs H Q E=>∃x0 x1,vs=[x0,x1] /\ ∃(l:wd)(xs:List wn)(m:Int),x0=.ref l/\x1=.int m/\aN K H l (xs.map V.str)/\xs.length<=950/\(∀x∈xs,bQ x/\x.length<=900)/\m<=400/\((xs.all (nT · m)=false /\ ∀H',af H H'->E (.ref a.bg) none H')\/(xs.all (nT · m)=true /\ ∀v H',af H H'->Is K H' v (TN (xs.map aR))->Q v H'))
theorem sG{K:wa}{a:Ad}{H:Hp}{Q:VK}{E:XK}{l:wd}{xs:List wn}{m:Int}(h:aN K H l (xs.map V.str))(hl:xs.length<=950)(hf:∀x∈xs,bQ x/\x.length<=900)(hm:m<=400)(q1:xs.all (nT · m)=false->∀H',af H H'->E (.ref a.bg) none H')(q2:xs.all (nT · m)=true->∀v H',af H H'->Is K H' v (TN (xs.map aR))->Q v H'):Ja K a [.ref l,.int m] H Q E:=by
 refine⟨_,_,rfl,l,xs,m,rfl,rfl,h,hl,hf,hm,?_⟩;cases e:xs.all (nT · m)with
 | false=>exact .inl ⟨rfl,q1 e⟩
 | true=>exact .inr ⟨rfl,q2 e⟩
theorem Jg{x:wn}{m:Int}(h:nT x m=true):x=jE (vP x "-") (cn (cC x)) (fq x)/\((aZ (cn (cC x))).length:Int)<=m/\(∀d,fq x=some d->((aZ d).length:Int)<=m)/\(aR x).num=nZ x/\((aR x).den:Int)=nD x:=by
 unfold nT at h;rw[wD,wD]at h;obtain⟨k1,k2,k3⟩:=HQ h.1;obtain⟨r,er1,er2⟩:=BA h.2.1;have er:aR x=r:=by unfold aR;rw[er1,er2,QF]
 exact⟨k1,k2,k3,by rw[er,er1],by rw[er,er2]⟩
theorem sv(T:Txt K mg a):aK P w K mg base (bX P w) 4 a.Ed a.Ds rQ (Ja K a):=by
 refine T.ma.F.gR T8 ?_ ?_;wtm_at "b2"
 refine⟨_,(aF (bI (bA (bC (aD (show ao _ (.builtin "all") (eY K)from f_ rfl) rfl T.z_all fC (aa (cT rfl (bU.by (N':=["word","most"]) (src:=[none,some 1]) rfl (show cw _ (az nS).names nH ["word","most"] [none,some 1]=true from by decide +kernel)) (fc (pv 0)) (λ_ _ _ _ _=>(bZ (i:=0) (show(["word","most"]:List Str).Nodup from by decide) rfl (Or.inl rfl))) (λ_ _ _ _ _=>cI) (λ_ _ _ _ _=>(aB (Pt (K:=K) (mg:=mg) (a:=a) T) hr T.C3 (aa (pv 0) (aa (pv 1) ae))))) ae)))) (aA (fm T.iM rfl rfl T.gT fB (aa ah ae))) bH)
     (aA (aG (eO (show ao _ (.type "tuple") (dS K)from ic) rfl T.z_tuple dY (aa (cT rfl (bU.by (N':=["word"]) (src:=[none]) rfl (show cw _ (az nS).names nH ["word"] [none]=true from by decide +kernel)) (fc (pv 0)) (λ_ _ _ _ _=>(bZ (i:=0) (show(["word"]:List Str).Nodup from by decide) rfl (Or.inl rfl))) (λ_ _ _ _ _=>cI) (λ_ _ _ _ _=>(aB (Hu (K:=K) (mg:=mg) (a:=a) T) hr T.yM (aa (pv 0) ae)))) ae))))),?_⟩
 wtm_at "cl";rw[show start nH [x0,x1]=[some x0,some x1]from rfl];obtain⟨l,xs,m,rfl,rfl,hs,hl,hz,hm,hc⟩:=h;o_head fu hs (o0:=none) (tl:=[some (.int m)]) rfl (λj y _=>y=.bl (nT (xs.getD j ⟨#[]⟩) m)) ?_ ?_
 . intro D j x ys o H1 hx inv
   rw[wB]at hx;obtain⟨t,ht,rfl⟩:=vA.mp hx;have hj:=(wX.mp ht).1;obtain⟨b0,b1⟩:=hz t (vz ht);o_head R6 b0 b1 hm (λH2 S2=>?_);k_few;exact dE inv (by omega) (λ_ _ _ _ _ h=>h) ⟨_,rfl⟩ S2 (by rw[wf,ht];rfl)
 . intro D ys H1 n1 S1 e1 l1 r1
   have ey:ys=(xs.map (nT · m)).map V.bl:=by
     refine vF (by rw[l1];simp) λi h1 h2=>?_
     rw[r1 i ys[i] (wb h1)];rw[wm,wm]at h2;rw[vt,vt,wf,wb h2]
     rfl
   rw[ey]at e1;o_head fE (.of e1) ?_;rw[show(xs.map (nT · m)).all id=xs.all (nT · m) by rw[vW];rfl];rcases hc with⟨hb,q⟩ | ⟨hb,q⟩
   . rw[hb]
     k_few;exact⟨by simp;decide,q _ S1⟩
   . rw[hb]
     have hs1:=S1.seq hs;o_head fu hs1 (o0:=none) (tl:=[]) rfl (λj y H'=>Is K H' y (N ((xs.map aR).getD j 0))) ?_ ?_
     . intro D j x ys o H2 hx inv
       rw[wB]at hx;obtain⟨t,ht,rfl⟩:=vA.mp hx;have hj:=(wX.mp ht).1;obtain⟨k1,k2,k3,k4,k5⟩:=Jg (wv.mp hb t (vz ht));k_few;have hv:k_ K [.str t] H2=k_ K [.str (jE (vP t "-") (cn (cC t)) (fq t))] H2:=by rw[<- k1]
       rw[hv];refine Kj (by omega) (λd hd=>by have:=k3 d hd;omega) (λv H3 S3 i3=>?_)
       have i3:Is K H3 v (N (aR t)):=by
         show Is K H3 v (.tuple [.int (aR t).num,.int ((aR t).den:Int)])
         rw[k4,k5];exact i3
       k_few;exact dE inv (by omega) (λ_ _ _ _ s h=>h.Zy s) ⟨_,rfl⟩ S3 (by rw[wf,wB,ht];exact i3)
     . intro D2 ys2 H2 n2 S2 e2 l2 r2
       rw[wm]at l2;o_head rH (.of e2) (λlt H3 n3 S3 e3=>?_);exact q _ _ (S1.trans (S2.trans S3)) (bV.mpr ⟨lt,ys2,rfl,.of e3,HN (by rw[l2,wm]) λi x hx=>(r2 i x hx).by S3⟩)
def fT(K:wa)(H:Hp)(v:V):Prop:=∃d,Is K H v d/\kS d=false
theorem fT.by{K:wa}{H H':Hp}{v:V}(s:af H H')(h:fT K H v):fT K H' v:=let ⟨d,i,e⟩:=h;⟨d,i.by s,e⟩
def ze(K:wa)(a:Ad):Sp:=λvs H Q E=>∃x0 x1,vs=[x0,x1] /\ ∃y:wn,x1=.str y/\(y.length == 0)=false/\((fT K H x0 /\ ∀H',af H H'->E (.ref a.bg) none H')\/(∃x:wn,x0=.str x/\x.length<=wC/\(wM x y).length<=wC /\ ∀l H',H l=none->af H H'->H' l=some (.lst ((wM x y).map V.str))->Q (.ref l) H'))
theorem Ln{K:wa}{a:Ad}{H:Hp}{Q:VK}{E:XK}{x y:wn}(hy:(y.length == 0)=false)(h1:x.length<=wC)(h2:(wM x y).length<=wC)(q:∀l H',H l=none->af H H'->H' l=some (.lst ((wM x y).map V.str))->Q (.ref l) H'):ze K a [.str x,.str y] H Q E:=⟨_,_,rfl,y,rfl,hy,.inr ⟨x,rfl,h1,h2,q⟩⟩
theorem Mm{K:wa}{a:Ad}{H:Hp}{Q:VK}{E:XK}{v:V}{y:wn}(hy:(y.length == 0)=false)(h:fT K H v)(q:∀H',af H H'->E (.ref a.bg) none H'):ze K a [v,.str y] H Q E:=⟨_,_,rfl,y,rfl,hy,.inl ⟨h,q⟩⟩
theorem G3(T:Txt K mg a):aK P w K mg base (bX P w) 1 a.EO a.DW pD (ze K a):=by
 refine T.yN.F.gR Yj ?_ ?_;wtm_at "b2";have hgd:=hr.gd
 refine⟨_,(aF (bI (bA (bC (aD (show ao _ (.builtin "isinstance") (dJ K)from hZ) rfl T.z_isinstance dG (aa (pv 0) (aa (eU (v:=.ty "str") rfl T.z_str r_ rfl) ae))))) (aA (fm T.iM rfl rfl T.gT fB (aa ah ae))) bH)
     (aA (aG (cQ va Wx Wy (show b_ _ "str.split" iz from jY) (pv 0) (aa (pv 1) ae))))),?_⟩
 wtm_at "cl";rw[show start zK [x0,x1]=[some x0,some x1]from rfl];obtain⟨y,rfl,hy,h⟩:=h;rcases h with⟨⟨d,hi,hd⟩,q⟩ | ⟨x,rfl,h1,h2,q⟩
 . k_few
   refine BU hi ?_;rw[hd];k_few;exact⟨by simp;decide,q _ (af.refl _)⟩
 . k_few
   refine BU (d:=.str x) (dj.mpr rfl) ?_;rw[show kS (.str x)=true from rfl];o_head eI ?_;k_few;exact kr hy h1 h2 q
def kc(H:Hp)(l:wd)(rows:List (List wn)):Prop:=∃as:List wd,H l=some (.lst (as.map V.ref))/\as.length=rows.length /\ ∀j a,as[j]? = some a->H a=some (.lst ((rows.getD j []).map V.str))
theorem kc.by{H H':Hp}{l:wd}{rows:List (List wn)}(h:kc H l rows)(s:af H H'):kc H' l rows:=by
 obtain⟨as,e,n,r⟩:=h;exact⟨as,s _ _ e,n,λj a z=>s _ _ (r j a z)⟩
theorem FA:∀{ys:List V},(∀y∈ys,∃b,y=V.ref b)->∃as:List wd,ys=as.map V.ref
 | [],_=>⟨[],rfl⟩
 | y::r,h=>by
  obtain⟨b,rfl⟩:=h y (by simp);obtain⟨as,rfl⟩:=FA (ys:=r) (λz hz=>h z (wI _ hz));exact⟨b::as,rfl⟩
def cj(x:wn):List (List wn):=(wM x "\n").map λy=>wM y " "
def Ay(K:wa)(a:Ad):Sp:=λvs H Q E=>∃x0,vs=[x0]/\((fT K H x0 /\ ∀H',af H H'->E (.ref a.bg) none H') \/ ∃x:wn,x0=.str x/\x.length<=900 /\ ∀l H',af H H'->kc H' l (cj x)->Q (.ref l) H')
theorem L_{K:wa}{a:Ad}{H:Hp}{Q:VK}{E:XK}{x:wn}(h1:x.length<=900)(q:∀l H',af H H'->kc H' l (cj x)->Q (.ref l) H'):Ay K a [.str x] H Q E:=⟨_,rfl,.inr ⟨x,rfl,h1,q⟩⟩
theorem IS{K:wa}{a:Ad}{H:Hp}{Q:VK}{E:XK}{v:V}(h:fT K H v)(q:∀H',af H H'->E (.ref a.bg) none H'):Ay K a [v] H Q E:=⟨_,rfl,.inl ⟨h,q⟩⟩
theorem Hl(T:Txt K mg a):aK P w K mg base (bX P w) 2 a.EX a.DR yk (Ay K a):=by
 refine T.yO.F.gR Yx ?_ ?_;wtm_at "b1";refine⟨_,(aA (aG (cT rfl (bU.by (N':=["line"]) (src:=[none]) rfl (show cw _ (az rm).names oH ["line"] [none]=true from by decide +kernel)) (fc (dM (G3 T) hr T.yN fF (aa (pv 0) (aa ah ae)))) (λ_ _ _ _ _=>(bZ (i:=0) (show(["line"]:List Str).Nodup from by decide) rfl (Or.inl rfl))) (λ_ _ _ _ _=>cI) (λ_ _ _ _ _=>(show PE _ _ (yy K _ iz _ _)from(cQ va Wx Wy (show b_ _ "str.split" iz from jY) (pv 0) (aa ah ae))))))),?_⟩;wtm_at "cl";rw[show start oH [x0]=[some x0]from rfl];rcases h with⟨hn,q⟩ | ⟨x,rfl,h1,q⟩
 ·k_few
  exact Mm (by decide) hn (λH' S=>q H' S)
 ·obtain⟨ls,e⟩:∃ls,wM x "\n"=ls:=⟨_,rfl⟩
  have iE:=gC (x:=x) (s:="\n") (by decide)
  have h3:∀y∈ls,y.length<=900/\(wM y " ").length<=901:=λy hy=>by
   have k:=(fI (x:=x) (s:="\n") (t:=y) (by rw[e];exact hy)).2;have:=gC (x:=y) (s:=" ") (by decide);exact⟨by omega,by omega⟩
  rw[e]at iE;have eg:cj x=ls.map λy=>wM y " ":=by unfold cj;rw[e]
  rw[eg]at q;have z:1000<=wC:=by decide
  o_head Ln (by decide) (by omega) (by rw[e];omega) (λl H1 n1 S1 e1=>?_);rw[e]at e1;o_head pU (.of e1) (λD i ys σ' H'=>(∃o,σ'=[o])/\H1 D=none/\af H1 H'/\H' D=some (.lst ys)/\ys.length=i /\ ∀j y,ys[j]? = some y->∃b,y=.ref b/\b≠D/\H' b=some (.lst ((wM (ls.getD j "") " ").map V.str))) ?_ ?_ ?_ ?_
  ·exact λD H' n s e=>⟨⟨none,rfl⟩,n,s,e,rfl,λj y z=>by simp at z⟩
  ·exact λD i ys σ' H' h=>.of (h.2.2.1 _ _ e1)
  ·rintro D i y ys σ' H' hy ⟨⟨o,rfl⟩,n,s,eD,el,r⟩
   rw[wB]at hy;obtain⟨y,hy2,rfl⟩:=vA.mp hy;have hj:i<ls.length:=(wX.mp hy2).1;have ey:ls.getD i ""=y:=by rw[wf,hy2];rfl
   obtain⟨b1,b2⟩:=h3 y (vz hy2);o_head ⟨rfl,?_⟩;o_head kr (by decide) (by omega) (by omega) (λc H3 n3 S3 e3=>?_);have eD3:=S3 _ _ eD;refine m6 eD3 (by omega) (λH6 E6 e6=>⟨⟨_,rfl⟩,n,(s.trans S3).grow n E6,e6,by simp[el],λj z hz=>?_⟩);rcases w9 j ys.length with hl | hl
   ·rw[Wr hl]at hz
    obtain⟨b,rfl,nb,eb⟩:=r j z hz;exact⟨b,rfl,nb,E6 _ _ nb (S3 _ _ eb)⟩
   ·rw[Wk hl]at hz
    obtain⟨hk,hz⟩:=wX.mp hz;have hk0:j-ys.length=0:=by simp at hk;omega
    have hji:j=i:=by omega
    subst hji;have hz:z=.ref c:=by rw[<- hz];simp[hk0]
    have nc:c≠D:=λz=>by rw[z,eD]at n3;cases n3
    exact⟨c,hz,nc,by rw[ey];exact E6 _ _ nc e3⟩
  ·rintro D ys σ' H' ⟨_,n,s,eD,el,r⟩
   refine q D H' (S1.trans s) ?_;rw[wm]at el
   have f:∀y∈ys,∃b,y=V.ref b:=λy hy=>by
    obtain⟨j,hj,rfl⟩:=Qc.mp hy;obtain⟨b,hb,_⟩:=r j ys[j] (wb hj);exact⟨b,hb⟩
   obtain⟨as,rfl⟩:=FA f;refine⟨as,eD,by rw[wm]at el ⊢;exact el,λj b hb=>?_⟩;obtain⟨b',h1,_,h2⟩:=r j (.ref b) (by rw[wB,hb];rfl);cases h1;rw[h2];have hj:j<ls.length:=by rw[<- el,wm];exact(wX.mp hb).1
   rw[wf,wf,wB,wb hj]
   rfl
def lK:List (List wn)->Nat
 | [r0,r1] =>
  if(decide (r0.length=3)&&(decide (2<=r1.length)&&((eJ r0 == wq "rule")&&(eJ r1 == wq "worms"))))=false then 1
  else if(r0.tail.all (nT · 60)&&r1.tail.all (nT · 60))=false then 1
  else match r0.tail.map aR with
   | [a,b]=>if eW a b=false then 2 else if(decide (r1.tail.length<=8)&&(r1.tail.map aR).all d5)=false then 3 else 0
   | _=>1
 | _=>1
def cR(x:wn):Nat:=lK (cj x)
theorem X_{L:List (List wn)}(h:L.length≠2):lK L=1:=by
 match L with
 | []=>rfl
 | [_]=>rfl
 | [_,_]=>exact absurd rfl h
 | _::_::_::_=>rfl
theorem zvy{a b:Rat}(h:eW a b=true):gM a b:=by
 unfold eW kN kE at h;simp only[wD,Vo,decide_eq_true_eq,decide_eq_false_iff_not]at h;have k:∀{p q:Rat},¬ p<q->q<=p:=λh=>qB.mp h
 refine⟨?_,?_,?_,?_,?_,?_,k h.2⟩<;>first | omega | grind
theorem zy0{x:Rat}(h:d5 x=true):jg x:=by
 unfold d5 at h;simp only[wD,Vo,decide_eq_true_eq,decide_eq_false_iff_not]at h;exact⟨qB.mp h.1,h.2.1,by omega⟩
theorem yY{x:wn}{k:Nat}(h:nT x (k:Int)=true)(hk:1<=k):mn k (aR x):=by
 obtain⟨k1,k2,k3,k4,k5⟩:=Jg h;refine⟨?_,?_⟩
 ·have:(aR x).num.natAbs=cn (cC x):=by rw[k4];unfold nZ jb;split<;>simp
  rw[this];omega
 ·have hdn:(aR x).den=(fq x).getD 1:=by unfold nD at k5;omega
  rw[hdn];cases ho:fq x with
  | none =>
   show(aZ 1).length<=k
   rw[iF (by decide)];exact hk
  | some d =>
   have:=k3 d ho
   show(aZ d).length<=k
   omega
theorem Aj{r:Rat}(h:mn 60 r):aM 300 r:=by
 have f:∀{n:Nat},(aZ n).length<=60->n<2^300:=λ{n} h=>by
  have h1:=Jb n;have h2:(10:Nat)^(aZ n).length<=10^60:=Vu (by decide) h;have h3:(10:Nat)^60<2^300:=by decide +kernel
  omega
 exact⟨⟨f h.n⟩,⟨by rw[Xr];exact f h.d⟩⟩
def A2(K:wa)(a:Ad):Sp:=λvs H Q E=>∃x0,vs=[x0]/\((fT K H x0 /\ ∀H',af H H'->E (.ref a.bg) none H') \/ ∃x:wn,x0=.str x/\bQ x/\x.length<=900/\(cR x=1->∀H',af H H'->E (.ref a.bg) none H')/\(cR x=2->∀H',af H H'->E (.ref a.cA) none H')/\(cR x=3->∀H',af H H'->E (.ref a.cz) none H')/\(cR x=0->∃r0 r1 ra rb,cj x=[r0,r1]/\r0.tail.map aR=[ra,rb] /\ ∀v H',af H H'->Is K H' v (sF ra rb (r1.tail.map aR))->Q v H'))
theorem JF(T:Txt K mg a):aK P w K mg base (bX P w) 6 a.fh a.Du sI (A2 K a):=by
 refine T.iL.F.gR BN ?_ ?_;wtm_at "b1"
 refine⟨_,(aF (aX 1 BN.nd (dM (Hl T) hr T.yO fF (aa (pv 0) ae)))
     (aF (bI (PW.pt (cv (bG (show ax _ (wQ .NotEq) (cM K)from dy hu) (aD (show ao _ (.builtin "len") (a_ K)from bz) rfl T.z_len bo (aa (pv 1) ae)) ak (aV _)) (cv (bG (show ax _ (wQ .NotEq) (cM K)from dy hu) (aD (show ao _ (.builtin "len") (a_ K)from bz) rfl T.z_len bo (aa (aJ (pv 1)) ae)) ak (aV _)) (cY (bG zT (aD (show ao _ (.builtin "len") (a_ K)from bz) rfl T.z_len bo (aa (aJ (pv 1)) ae)) ak (aV _)))))) (aA (fm T.iM rfl rfl T.gT fB (aa ah ae))) bH)
     (aF (bI (PW.pt (cv (bG (show ax _ (wQ .NotEq) (cM K)from dy hu) (aJ (aJ (pv 1))) ah (aV _)) (cY (bG (show ax _ (wQ .NotEq) (cM K)from dy hu) (aJ (aJ (pv 1))) ah (aV _))))) (aA (fm T.iM rfl rfl T.gT fB (aa ah ae))) bH)
     (aF (aX 2 BN.nd (dM (sv T) hr T.ma fF (aa (br bB (aJ (pv 1)) (bj ak) bN) (aa (eV rfl T.C7) ae))))
     (aA (aG (dM (RB T) hr T.Ef fF (aa (pv 2) (aa (dM (sv T) hr T.ma fF (aa (br bB (aJ (pv 1)) (bj ak) bN) (aa (eV rfl T.C7) ae))) ae))))))))),?_⟩
 wtm_at "cl";rw[show start G5 [x0]=[some x0,none,none]from rfl];rcases h with⟨hn,q⟩ | ⟨x,rfl,ha,hl,q1,q2,q3,q0⟩
 . k_few
   exact IS hn (λH' S=>q H' S)
 have z:4000<=wC:=by decide
 o_head L_ hl (λl H1 S1 L1=>?_)
 have rin:∀r∈cj x,∀y∈r,bQ y/\y.length<=900:=λr hr y hy=>by
   obtain⟨t,ht,rfl⟩:=vg.mp hr;have k1:=fI ht;have k2:=fI hy;exact⟨k2.1 (k1.1 ha),by omega⟩
 have rlen:∀r∈cj x,r.length<=901/\r≠[]:=λr hr=>by
   obtain⟨t,ht,rfl⟩:=vg.mp hr;have k1:=fI ht;have:=gC (x:=t) (s:=" ") (by decide);exact⟨by omega,kJ _ _⟩
 obtain⟨as,e1,n1,r1⟩:=L1;obtain⟨L,hL⟩:∃L,L=cj x:=⟨_,rfl⟩;have sw:cR x=lK L:=by rw[hL];rfl
 rw[<- hL]at n1 r1 rin rlen q0;o_head ⟨l,_,rfl,.inl (.of e1),?_⟩;rw[wm,n1];k_few
 . rename_i h2
   exact⟨by simp;decide,q1 (by rw[sw];exact X_ (by omega)) _ S1⟩
 rename_i h2
 obtain⟨r0,rr,rfl⟩:∃r0 rr,L=[r0,rr]:=by
   match L,h2 with
   | [r0,rr],_=>exact⟨r0,rr,rfl⟩
   | [],e=>simp at e
   | [_],e=>simp at e
   | _::_::_::_,e=>simp at e;omega
 obtain⟨a0,a1,rfl⟩:∃a0 a1,as=[a0,a1]:=by
   match as,n1 with
   | [a0,a1],_=>exact⟨a0,a1,rfl⟩
   | [],e=>simp at e
   | [_],e=>simp at e
   | _::_::_::_,e=>simp at e
 have g0:H1 a0=some (.lst (r0.map V.str)):=r1 0 a0 rfl;have g1:H1 a1=some (.lst (rr.map V.str)):=r1 1 a1 rfl
 obtain⟨w0,t0,rfl⟩:∃w0 t0,r0=w0::t0:=by
   have:=(rlen r0 (by simp)).2;cases r0 with
   | nil=>exact absurd rfl this
   | cons w0 t0=>exact⟨w0,t0,rfl⟩
 obtain⟨w1,t1,rfl⟩:∃w1 t1,rr=w1::t1:=by
   have:=(rlen rr (by simp)).2;cases rr with
   | nil=>exact absurd rfl this
   | cons w1 t1=>exact⟨w1,t1,rfl⟩
 have sw:cR x=if(decide ((w0::t0).length=3)&&(decide (2<=(w1::t1).length)&&((w0 == wq "rule")&&(w1 == wq "worms"))))=false then 1
   else if(t0.all (nT · 60)&&t1.all (nT · 60))=false then 1
   else match t0.map aR with
     | [a,b]=>if eW a b=false then 2 else if(decide (t1.length<=8)&&(t1.map aR).all d5)=false then 3 else 0
     | _=>1:=by rw[sw];rfl
 have in0:=rin (w0::t0) (by simp);have in1:=rin (w1::t1) (by simp);have rl1:=(rlen (w1::t1) (by simp)).1;clear r1 n1 rin rlen h2;refine cG (.of e1) (cP (j:=0) rfl) ?_;o_head ⟨a0,_,rfl,.inl (.of g0),?_⟩;rw[wm];k_few
 . rename_i h3
   exact⟨by simp;decide,q1 (by rw[sw,decide_eq_false (by omega)];rfl) _ S1⟩
 rename_i h3;refine⟨a1,_,rfl,.inl (.of g1),?_⟩;rw[wm];k_few
 . rename_i h4
   exact⟨by simp;decide,q1 (by rw[sw,decide_eq_true (show(w0::t0).length=3 by omega),decide_eq_false (by omega)];rfl) _ S1⟩
 rename_i h4;rw[decide_eq_true (show(w0::t0).length=3 by omega),decide_eq_true (show 2<=(w1::t1).length by omega),wP,wP]at sw;refine cG (.of g0) (cP (j:=0) rfl) ?_;o_head yx (iH (in0 w0 (by simp)).1) (d4 _) ?_;cases hw0:(w0 == wq "rule")with
 | false =>
   rw[hw0,vi]at sw;k_few;exact⟨by simp;decide,q1 (by rw[sw];rfl) _ S1⟩
 | true =>
 rw[hw0,wP]at sw;o_head cG (.of g1) (cP (j:=0) rfl) ?_;o_head yx (iH (in1 w1 (by simp)).1) (d4 _) ?_;cases hw1:(w1 == wq "worms")with
 | false =>
   rw[hw1]at sw;k_few;exact⟨by simp;decide,q1 (by rw[sw];rfl) _ S1⟩
 | true =>
 rw[hw1,if_neg (by decide)]at sw;o_head iu (.of g0) (λl3 H3 n3 S3 e3=>?_);rw[wU,AS]at e3;rw[wW]at h3 h4 rl1;o_head sG (.of e3) (by omega) (λy hy=>in0 y (wI _ hy)) (by decide) (λhb H4 S4=>?_) (λhb vr H4 S4 i4=>?_)
 . exact q1 (by rw[sw,hb];rfl) _ (S1.trans (S3.trans S4))
 rw[hb,wP]at sw;have T4:=S3.trans S4;have g4:=T4 _ _ g1;have e4:=T4 _ _ e1;o_head iu (.of g4) (λl5 H5 n5 S5 e5=>?_);rw[wU,AS]at e5;o_head sG (.of e5) (by omega) (λy hy=>in1 y (wI _ hy)) (by decide) (λhb1 H6 S6=>?_) (λhb1 vp H6 S6 i6=>?_)
 . exact q1 (by rw[sw,hb1];rfl) _ (S1.trans (T4.trans (S5.trans S6)))
 rw[hb1,if_neg (by decide)]at sw;have T6:=S5.trans S6;have U6:=S1.trans (T4.trans T6)
 obtain⟨u0,u1,rfl⟩:∃u0 u1,t0=[u0,u1]:=by
   match t0,h3 with
   | [u0,u1],_=>exact⟨u0,u1,rfl⟩
   | [],e=>simp at e
   | [_],e=>simp at e
   | _::_::_::_,e=>simp at e;omega
 have i46:Is K H6 vr (R (aR u0) (aR u1)):=i4.by T6;have sw:cR x=if eW (aR u0) (aR u1)=false then 2 else if(decide (t1.length<=8)&&(t1.map aR).all d5)=false then 3 else 0:=sw
 have b0:=Aj (yY (k:=60) (wv.mp hb u0 (by simp)) (by decide));have b1:=Aj (yY (k:=60) (wv.mp hb u1 (by simp)) (by decide))
 have bp:∀e∈(t1.map aR).map N,∀y,e=N y->aM 4000 y:=λe he y hy=>by
   obtain⟨r,hr,rfl⟩:=vg.mp he;obtain⟨t,ht,rfl⟩:=vg.mp hr;rw[<- Iv hy];exact(Aj (yY (k:=60) (wv.mp hb1 t ht) (by decide))).mono (by decide)
 k_few;cases ho:eW (aR u0) (aR u1)with
 | false =>
   rw[ho,if_pos rfl]at sw;exact zml (.inr ⟨_,_,i46,b0.mono (by decide),b1.mono (by decide),ho⟩) (λH7 S7=>q2 sw _ (U6.trans S7))
 | true =>
   rw[ho,if_neg (by decide)]at sw;have okr:gM (aR u0) (aR u1):=zvy ho;cases hp:(decide (t1.length<=8)&&(t1.map aR).all d5)with
   | false =>
     rw[hp,if_pos rfl]at sw;refine zmQ i46 okr (.inr (.inl ⟨(t1.map aR).map N,.inr i6,bp,?_⟩)) (λH7 S7=>q3 sw _ (U6.trans S7));rw[wm,wm,decide_eq_true (show 1<=t1.length by omega),wP];rw[vW,vW]at *;rw[show(eE ∘ N) ∘ aR=d5 ∘ aR by funext y;exact Af _];exact hp
   | true =>
     rw[hp,if_neg (by decide)]at sw;rw[wD,decide_eq_true_eq]at hp;obtain⟨r0',r1',ra,rb,hL',hm',q⟩:=q0 sw;cases hL';cases hm';refine Rq i46 okr (.inr i6) (by rw[wm];omega) (by rw[wm];exact hp.1) (λy hy=>?_) (λv H7 S7 i7=>q v H7 (U6.trans S7) i7);exact zy0 (wv.mp hp.2 y hy)
def dq(rows:List (List wn))(w:wn):List (List wn):=(rows.filter λr=>eJ r == w).map QG
def iZ(r:List wn):List Int:=r.map λx=>((cn x:Nat):Int)
def ik(rs:List (List wn)):Bool:=rs.all λr=>r.all (wT · 2)
def Ic(K:wa)(a:Ad):Sp:=λvs H Q E=>∃x0 x1,vs=[x0,x1] /\ ∃(l:wd)(w:wn)(rows:List (List wn)),x0=.ref l/\x1=.str w/\kc H l rows/\vJ w=true/\(∀r∈rows,r≠[]/\r.length<=901 /\ ∀y∈r,bQ y/\y.length<=900)/\rows.length<=950/\(ik (dq rows w)=false->∀H',af H H'->E (.ref a.bg) none H')/\(ik (dq rows w)=true->∀v H',af H H'->Is K H' v (.list ((dq rows w).map λr=>TZ (iZ r)))->Q v H')
theorem JM{K:wa}{a:Ad}{H:Hp}{Q:VK}{E:XK}{l:wd}{w:wn}{rows:List (List wn)}(h:kc H l rows)(hw:vJ w=true)(hp:∀r∈rows,r≠[]/\r.length<=901 /\ ∀y∈r,bQ y/\y.length<=900)(hl:rows.length<=950)(q1:ik (dq rows w)=false->∀H',af H H'->E (.ref a.bg) none H')(q2:ik (dq rows w)=true->∀v H',af H H'->Is K H' v (.list ((dq rows w).map λr=>TZ (iZ r)))->Q v H'):Ic K a [.ref l,.str w] H Q E:=⟨_,_,rfl,l,w,rows,rfl,rfl,h,hw,hp,hl,q1,q2⟩
theorem OJ{x:V}{xs:List V} : d6 (x::xs) (some 1) none=xs:=by
 show cutD (x::xs) (some 1) none=xs
 rw[AY];rfl
theorem ztv(rs:List (List wn)):cE (rs.map λr=>TZ (iZ r))=true:=by
 have:=GA (rs.map iZ)
 rwa[Wu]at this
theorem zoD{rows:List (List wn)}{w:wn}{i:Nat}(hj:i<rows.length):dq (rows.take (i+1)) w=dq (rows.take i) w++(if(eJ rows[i] == w)=true then [rows[i].tail]else []):=by
 unfold dq;rw[XJ,wb hj,List.filter_append,Wo]
 show _++uZ QG (XU _ [rows[i]])=_
 by_cases c:(eJ rows[i] == w)=true
 ·rw[if_pos c];simp[XU,c]
 ·rw[if_neg c];simp[XU,c]
theorem O4{rows:List (List wn)}{w:wn}{i:Nat}(hj:i<rows.length)(hw:(eJ rows[i] == w)=true)(hb:rows[i].tail.all (wT · 2)=false):ik (dq rows w)=false:=by
 cases h:ik (dq rows w)with
 | false=>rfl
 | true =>
  have:=wv.mp h rows[i].tail (vg.mpr ⟨rows[i],qm.mpr ⟨vn hj,hw⟩,rfl⟩);rw[hb]at this;cases this
theorem H_(T:Txt K mg a):aK P w K mg base (bX P w) 3 a.Ee a.Dr rX (Ic K a):=by
 refine T.yI.F.gR zky ?_ ?_;wtm_at "b2";refine⟨_,(aA (aG (To rfl rfl rfl JD rfl (bU.by (N':=["line","first"]) (src:=[none,some 1]) rfl (show cw _ (az pI).names rV ["line","first"] [none,some 1]=true from by decide +kernel)) (fc (pv 0)) (λ_ _ _ _ _=>(bZ (i:=0) (show(["line","first"]:List Str).Nodup from by decide) rfl (Or.inl rfl))) (λ_ _ _ _ _=>(Yq (bG (show ax _ (wQ .Eq) (cU K)from dO hu) (zV (K:=K) dh (pv 0)) (pv 1) (aV _)))) (λ_ _ _ _ _ _ _ hp=>by exact(dM (JS (K:=K) (mg:=mg) (a:=a) T) hr T.yJ hp (aa (br (show fD _ (jn K)from bB) (pv 0) (bj ak) bN) ae)))))),?_⟩;wtm_at "cl";rw[show start rV [x0,x1]=[some x0,some x1]from rfl];obtain⟨l,w,rows,rfl,rfl,⟨as,e1,el,er⟩,hw,hp,h2,q1,q2⟩:=h;have z:1000<=wC:=by decide
 o_head pU (.of e1) (λD i ys σ' H'=>(∃o,σ'=[o,some (.str w)])/\H D=none/\af H H'/\H' D=some (.lst ys)/\ys.length<=i/\ik (dq (rows.take i) w)=true/\ay K H' ys ((dq (rows.take i) w).map λr=>TZ (iZ r))) ?_ ?_ ?_ ?_
 ·exact λD H' n s e=>⟨⟨none,rfl⟩,n,s,e,wx _,rfl,.nil⟩
 ·exact λD i ys σ' H' h=>.of (h.2.2.1 _ _ e1)
 ·rintro D i y ys σ' H' hy ⟨⟨o,rfl⟩,n,s,eD,ey,ok,r⟩
  rw[wB]at hy;obtain⟨b,hb,rfl⟩:=vA.mp hy;have hj:i<rows.length:=by have:=(wX.mp hb).1;rw[el]at this;exact this
  have eb:=er i b hb;rw[wf,wb hj]at eb;obtain⟨p1,p2,p3⟩:=hp rows[i] (vn hj);have et:=zoD (w:=w) hj;have bad:=O4 (w:=w) hj
  obtain⟨x0,r0,hr0⟩:∃x0 r0,rows[i]=x0::r0:=by
   cases hq:rows[i]with
   | nil=>exact absurd hq p1
   | cons x0 r0=>exact⟨x0,r0,rfl⟩
  rw[hr0]at et bad p2 p3
  have eb:H b=some (.lst (V.str x0::r0.map V.str)):=by
   have:H b=some (.lst (rows[i].map V.str)):=eb;rw[hr0]at this;exact this
  have ehd:eJ (x0::r0)=x0:=rfl;rw[ehd,Qi]at et bad;rw[wW]at p2;o_head cG (.of (s _ _ eb)) (v:=.str x0) (cP (j:=0) rfl) ?_;o_head BR (iH (p3 x0 (by simp)).1) hw ?_;refine⟨_,rfl,?_⟩
  by_cases c:(x0 == w)=true
  ·rw[if_pos c]
   rw[if_pos c]at et;o_head iu (.of (s _ _ eb)) (λm H3 n3 S3 e3=>?_);k_few;rw[OJ]at e3;refine G7 (.of e3) (by omega) (λy hy=>p3 y (wI _ hy)) (λhb H4 S4=>?_) (λhb v H4 S4 i4=>?_)
   ·exact q1 (bad c hb) _ (s.trans (S3.trans S4))
   have eD4:=S4 _ _ (S3 _ _ eD);refine m6 eD4 (by omega) (λH6 E6 e6=>⟨⟨_,rfl⟩,n,(s.trans (S3.trans S4)).grow n E6,e6,by simp;omega,?_,?_⟩)
   ·rw[et]
    unfold ik at ok ⊢;rw[xz,ok,WI,xg,hb]
    rfl
   rw[et,Wo];exact ay.snoc (ay.keep (E6.keep eD4) _ _ (ztv _) (ay.same (S3.trans S4) _ _ r)) (i4.Bs (E6.keep eD4) (oX _))
  ·rw[if_neg c]
   rw[if_neg c,WC]at et;exact⟨ys,⟨_,rfl⟩,n,s,eD,by omega,by rw[et];exact ok,by rw[et];exact r⟩
 ·rintro D ys σ' H' ⟨_,n,s,eD,ey,ok,r⟩
  rw[show rows.take (as.map V.ref).length=rows by rw[wm,el,Q5]]at r ok;exact q2 ok _ H' s (bO.mpr ⟨D,ys,rfl,.of eD,r⟩)
def pX:List (List Int)->Bool
 | x::y::r=>TB.bW x y&&pX (y::r)
 | _=>true
def lW(ts:List (List Int)):Bool:=ts.all (λt=>decide (t.length=3))&&pX ts
def Js(K:wa):Sp:=λvs H Q _=>∃x0,vs=[x0] /\ ∃(ts:List (List Int)),Is K H x0 (.list (ts.map TZ))/\ts.length<=950 /\ ∀H',af H H'->Q (.bl (lW ts)) H'
theorem zfV{K:wa}{H:Hp}{Q:VK}{E:XK}{ts:List (List Int)}{v:V}(h:Is K H v (.list (ts.map TZ)))(hl:ts.length<=950)(q:∀H',af H H'->Q (.bl (lW ts)) H'):Js K [v] H Q E:=⟨_,rfl,ts,h,hl,q⟩
theorem Jt:∀xs ys:List Int,TB.bW xs ys=HT.lexLt xs ys
 | [],[]=>rfl
 | [],_::_=>rfl
 | _::_,[]=>rfl
 | x::xs,y::ys=>by
  show(if x=y then TB.bW xs ys else decide (x<y))=(if x=y then HT.lexLt xs ys else decide (x<y))
  rw[Jt xs ys]
theorem GR:∀ts:List (List Int),pX ts=(vf (ts.length-1)).all λi=>TB.bW (ts.getD i []) (ts.getD (i+1) [])
 | []=>rfl
 | [_]=>rfl
 | x::y::r=>by
  have ih:=GR (y::r)
  show(TB.bW x y&&pX (y::r))=_
  rw[ih,show(x::y::r).length-1=(r.length)+1 from rfl,List.range_succ_eq_map,WI,vW]
  rfl
theorem Gn{n:Nat}{f:Nat->Bool}{ys:List V}(hl:ys.length=n)(h:∀(j:Nat)(y:V),ys[j]? = some y->y=.bl (f j)):ys=((vf n).map f).map V.bl:=by
 refine vF (by rw[wm,wm,WO,hl]) λi h1 h2=>?_
 rw[h i ys[i] (wb h1)];simp
theorem Zs(T:Txt K mg a):aK P w K mg base bc 1 a.CT a.CO oN (Js K):=by
 refine T.CS.F.ok Sj ?_ ?_;wtm_at "b1"
 refine⟨_,(aF (bI (bA (bC (aD (show ao _ (.builtin "all") (eY K)from f_ rfl) rfl T.z_all fC (aa (cT rfl (bU.by (N':=["tie"]) (src:=[none]) rfl (show cw _ (az mS).names mP ["tie"] [none]=true from by decide +kernel)) (fc (pv 0)) (λ_ _ _ _ _=>(bZ (i:=0) (show(["tie"]:List Str).Nodup from by decide) rfl (Or.inl rfl))) (λ_ _ _ _ _=>cI) (λ_ _ _ _ _=>(dH (show ax _ (wQ .Eq) (cU K)from dO hu) (aD (show ao _ (.builtin "len") (a_ K)from bz) rfl T.z_len bo (aa (pv 0) ae)) ak (aV _)))) ae)))) (aA (aG cK)) bH)
     (aA (aG (aD (show ao _ (.builtin "all") (eY K)from f_ rfl) rfl T.z_all fC (aa (cT rfl (bU.by (N':=["one","other"]) (src:=[none,none]) rfl (show cw _ (az mS).names mP ["one","other"] [none,none]=true from by decide +kernel)) (JZ rfl T.z_zip (aa (pv 0) (aa (br bB (pv 0) (bj ak) bN) ae))) (λ_ _ _ _ _=>by exact(show PG _ _ (mR K 2 _)from BK (n:=2) rfl (j_ (bZ (i:=0) (show(["one","other"]:List Str).Nodup from by decide) rfl (Or.inl rfl)) (j_ (bZ (i:=1) (show(["one","other"]:List Str).Nodup from by decide) rfl (Or.inl rfl)) yZ)))) (λ_ _ _ _ _=>cI) (λ_ _ _ _ _=>(dH (show ax _ (wQ .Lt) (Ci K)from OL (Qr (Vc _ 64) hu)) (pv 0) (pv 1) (aV _)))) ae))))),?_⟩
 wtm_at "cl";rw[show start mP [x0]=[some x0]from rfl];obtain⟨ts,hv,hl,q⟩:=h;obtain⟨l,xs,rfl,sl,tx⟩:=bO.mp hv;have lx:=tx.length;rw[wm]at lx;have z:1000<=wC:=by decide
 o_head fu sl (o0:=none) (tl:=[]) rfl (λj y _=>y=.bl (decide ((ts.getD j []).length=3))) ?_ ?_
 . intro D j x ys o H1 hx inv
   obtain⟨hj,iy⟩:=dz tx hx;rw[wm]at hj
   have iy:Is K H x (TZ ts[j]):=by
     rw[wf,wB,wb hj]at iy;exact iy
   have g:ts.getD j []=ts[j]:=by rw[wf,wb hj];rfl
   o_head fO (.inr (iy.by inv.2.2.1)) ?_;rw[wm];k_few;exact dE inv (by omega) (λ_ _ _ _ _ h=>h) ⟨_,rfl⟩ (af.refl _) (by rw[g];congr 1;rw[decide_eq_decide];omega)
 . intro D ys H1 n1 S1 e1 l1 r1
   have hy:=Gn (n:=ts.length) (by omega) r1;subst hy
   have ea:(uZ (λj=>decide ((ts.getD j []).length=3)) (vf ts.length)).all id=ts.all (λt=>decide (t.length=3)):=by
     rw[vW,WP,wv,wv]
     constructor
     . intro h t ht
       obtain⟨i,hi,rfl⟩:=Wg ht;have:=h i (vy.mpr hi)
       simpa [wf,wb hi] using this
     . intro h i hi
       have hi:=vy.mp hi;have:=h _ (vn hi)
       simpa [wf,wb hi] using this
   o_head fE (.of e1) ?_;rw[ea];cases h3:ts.all (λt=>decide (t.length=3))with
   | false =>
     k_few;have:=q H1 S1;unfold lW at this;rw[h3]at this;exact this
   | true =>
   o_head iu (S1.seq sl) (λm H2 n2 S2 e2=>?_);have e2:H2 m=some (.lst xs.tail):=by rw[e2];show some (HO.lst (cutD xs (some 1) none))=_;rw[AY]
   have T2:=S1.trans S2;k_few
   have step:∀(D:wd)(i:Nat)(x y:V)(zs:List V)(o1 o2:Option V)(H3:Hp)(c:wd),xs[i]? = some x->xs.tail[i]? = some y->fP H2 [] (λj y _=>y=V.bl (TB.bW (ts.getD j []) (ts.getD (j+1) []))) D i zs (o1::o2::[]) H3->H3 c=some (.tup [x,y])->fR (fP H2 [] (λj y _=>y=V.bl (TB.bW (ts.getD j []) (ts.getD (j+1) [])))) (mR K 2 (tE (fg 0) (tE (fg 1) zx))) kH (dD (Ci K) (fo 0) (fo 1)) D i (.ref c) (o1::o2::[]) H3:=by
     intro D i x y zs o1 o2 H3 c hx hy inv ec;rw[List.getElem?_tail]at hy;obtain⟨hi,ix⟩:=dz tx hx;obtain⟨hj,iy⟩:=dz tx hy;rw[wm]at hi hj;rw[wf,wB,wb hi]at ix;rw[wf,wB,wb hj]at iy;obtain⟨a1,rfl,s1⟩:=jI.mp (show Is K H x (TZ ts[i])from ix);obtain⟨a2,rfl,s2⟩:=jI.mp (show Is K H y (TZ ts[i+1])from iy);have S3:=T2.trans inv.2.2.1;refine pH (y8 (.of ec) rfl ?_);o_head ⟨a1,a2,ts[i],ts[i+1],rfl,rfl,S3.j3 s1,S3.j3 s2,?_⟩;exact BM inv (by omega) (λ_ _ _ _ _ z=>z) ⟨_,_,rfl⟩ (af.refl _) (by rw[<- Jt];simp[wf,wb hi,wb hj])
   have done:∀(D:wd)(zs:List V)(H':Hp),H2 D=none->af H2 H'->H' D=some (.lst zs)->zs.length=ts.length-1->(∀(j:Nat)(y:V),zs[j]? = some y->y=V.bl (TB.bW (ts.getD j []) (ts.getD (j+1) [])))->eY K [.ref D] H' Q:=by
     intro D zs H' n s e hz r;have hy:=Gn hz r;subst hy;refine fE (.of e) ?_;have:=q H' (T2.trans s);unfold lW at this;rw[h3,wP,GR]at this;rw[vW];exact this
   have sl2:cf false K H2 l xs:=T2.seq sl;have sm2:cf false K H2 m xs.tail:=aN.of e2;refine⟨false,false,?_⟩;rcases Nat.eq_zero_or_pos xs.length with h0 | h0
   . exact Jd sl2 sm2 (by rw[qf];omega) (o0:=none) (o0':=none) (tl:=[]) rfl _ (λ_ _ _ _ _ z=>z) step (λD zs H' n s e hz r=>by
       k_few;exact done D zs H' n s e (by omega) r)
   . exact ztE sl2 sm2 (by rw[qf];omega) (o0:=none) (o0':=none) (tl:=[]) rfl _ (λ_ _ _ _ _ z=>z) step (λD zs H' n s e hz r=>by
       k_few;exact done D zs H' n s e (by rw[qf]at hz;omega) r)
def jx:wn:=wq "worm"
def jB:wn:=wq "tie"
def bh(L:List (List wn)):List (List Int):=(dq L jx).map iZ
def d9(L:List (List wn)):List (List Int):=(dq L jB).map iZ
def nM(L:List (List wn)):Nat :=
 if ik (dq L jx)=false then 1
 else if ik (dq L jB)=false then 1
 else if(bh L).isEmpty then 1
 else if(L.map eJ == w6 (bh L).length jx++w6 (d9 L).length jB)=false then 1
 else if((bh L).all (λr=>!r.isEmpty)&&lW (d9 L))=false then 1
 else if nK (.list ((bh L).map λr=>.int (r.headD 0))) (.list ((bh L).map λr=>TZ r.tail)) (.list ((d9 L).map TZ))=false then 2
 else 0
def eT(x:wn):Nat:=nM (cj x)
def zz(K:wa)(a:Ad):Sp:=λvs H Q E=>∃x0,vs=[x0]/\((fT K H x0 /\ ∀H',af H H'->E (.ref a.bg) none H') \/ ∃x:wn,x0=.str x/\bQ x/\x.length<=900/\(eT x=1->∀H',af H H'->E (.ref a.bg) none H')/\(eT x=2->∀H',af H H'->E (.ref a.cB) none H')/\(eT x=0->jq ((bh (cj x)).map (·.headD 0)) ((bh (cj x)).map QG) (d9 (cj x))/\i_ (d9 (cj x)) /\ ∀v H',af H H'->Is K H' v (Av ((bh (cj x)).map (·.headD 0)) ((bh (cj x)).map QG) (d9 (cj x)))->Q v H'))
theorem BV{α : Type}(x : α):∀n:Nat,(w6 n [x]).flatten=w6 n x
 | 0=>rfl
 | n+1=>by rw[WB,W7,BV x n];rfl
theorem Ip:∀xs ys:List wn,qO (xs.map PyData.str) (ys.map PyData.str)=(xs == ys)
 | [],[]=>by simp[qO]
 | [],_::_=>by simp[qO]
 | _::_,[]=>by simp[qO]
 | x::xs,y::ys=>by
  rw[wU,wU,qO,Ip xs ys]
  show(Wm (.str x) (.str y)&&(xs == ys))=((x == y)&&(xs == ys))
  rw[Wm]
theorem SY(xs ys:List wn):Wm (.list (xs.map PyData.str)) (.list (ys.map PyData.str))=(xs == ys):=by
 rw[Wm,Ip]
theorem LH{xs:List wn}(h:∀x∈xs,vJ x=true):Sh 2 (.list (xs.map PyData.str)):=ZF λd hd=>by
 obtain⟨x,hx,rfl⟩:=vg.mp hd;exact⟨by simp[Wd,h x hx],by simp[VG]⟩
theorem zy{K:wa}{H:Hp} : ∀xs:List wn,ay K H (xs.map V.str) (xs.map PyData.str)
 | []=>.nil
 | x::xs=>.cons (dj.mpr rfl) (zy xs)
theorem zxi{n:Nat}(h:HT.aE (n+1) 0 (some 1)=0):False:=by
 rw[show(some (1:Int))=some ((1:Nat):Int)from rfl,HT.NK]at h;omega
theorem zA{K:wa}{H:Hp} : ∀xs:List Int,ay K H (xs.map V.int) (xs.map PyData.int)
 | []=>.nil
 | x::xs=>.cons (bR.mpr rfl) (zA xs)
theorem Tx{L:List (List wn)}{w:wn}{n:Nat}(h:∀r∈L,r.length<=n):∀r∈(dq L w).map iZ,r.length<=n:=λr hr=>by
 obtain⟨t,ht,rfl⟩:=vg.mp hr;obtain⟨u,hu,rfl⟩:=vg.mp ht;have:=h u (qm.mp hu).1;unfold iZ;rw[wm,qf];omega
theorem II(T:Txt K mg a):aK P w K mg base (bX P w) 7 a.fK a.DS tQ (zz K a):=by
 refine T.jQ.F.gR rA ?_ ?_;wtm_at "b1"
 refine⟨_,(aF (aX 1 rA.nd (dM (Hl T) hr T.yO fF (aa (pv 0) ae)))
     (aF (aX 2 rA.nd (dM (H_ T) hr T.yI fF (aa (pv 1) (aa ah ae))))
     (aF (aX 3 rA.nd (dM (H_ T) hr T.yI fF (aa (pv 1) (aa ah ae))))
     (aF (bI (PW.pt (cv (bA (B9 (pv 2))) (cY (bG (show ax _ (wQ .NotEq) (cM K)from dy hu) (cT rfl (bU.by (N':=["line"]) (src:=[none]) rfl (show cw _ (az lU).names n_ ["line"] [none]=true from by decide +kernel)) (fc (pv 1)) (λ_ _ _ _ _=>(bZ (i:=0) (show(["line"]:List Str).Nodup from by decide) rfl (Or.inl rfl))) (λ_ _ _ _ _=>cI) (λ_ _ _ _ _=>(zV (K:=K) dh (pv 0)))) (aw av (aw (show ax _ (vT .Mult) j4 from yn) (bL (aa ah ae)) (aD (show ao _ (.builtin "len") (a_ K)from bz) rfl T.z_len bo (aa (pv 2) ae))) (aw (show ax _ (vT .Mult) j4 from yn) (bL (aa ah ae)) (aD (show ao _ (.builtin "len") (a_ K)from bz) rfl T.z_len bo (aa (pv 3) ae)))) (aV _))))) (aA (fm T.iM rfl rfl T.gT fB (aa ah ae))) bH)
     (aF (bI (PW.pt (cv (bA (bC (aD (show ao _ (.builtin "all") (Aq K)from Uu rfl) rfl T.z_all fC (aa (pv 2) ae)))) (cY (bA (bC (aB (Zs T) hr T.CS (aa (pv 3) ae))))))) (aA (fm T.iM rfl rfl T.gT fB (aa ah ae))) bH)
     (aA (aG (dM (SN T) hr T.EG fF (aa (cT rfl (bU.by (N':=["worm"]) (src:=[none]) rfl (show cw _ (az lU).names n_ ["worm"] [none]=true from by decide +kernel)) (fc (pv 2)) (λ_ _ _ _ _=>(bZ (i:=0) (show(["worm"]:List Str).Nodup from by decide) rfl (Or.inl rfl))) (λ_ _ _ _ _=>cI) (λ_ _ _ _ _=>(zV (K:=K) dh (pv 0)))) (aa (cT rfl (bU.by (N':=["worm"]) (src:=[none]) rfl (show cw _ (az lU).names n_ ["worm"] [none]=true from by decide +kernel)) (fc (pv 2)) (λ_ _ _ _ _=>(bZ (i:=0) (show(["worm"]:List Str).Nodup from by decide) rfl (Or.inl rfl))) (λ_ _ _ _ _=>cI) (λ_ _ _ _ _=>(br (show fD _ (jn K)from bB) (pv 0) (bj ak) bN))) (aa (pv 3) ae))))))))))),?_⟩
 wtm_at "cl";rw[show start n_ [x0]=[some x0,none,none,none]from rfl];rcases h with⟨hn,q⟩ | ⟨x,rfl,ha,hl,q1,q2,q0⟩
 . k_few
   exact IS hn (λH' S=>q H' S)
 have z:4000<=wC:=by decide
 o_head L_ hl (λl H1 S1 L1=>?_)
 have rin:∀r∈cj x,r≠[]/\r.length<=901 /\ ∀y∈r,bQ y/\y.length<=900:=λr hr=>by
   obtain⟨t,ht,rfl⟩:=vg.mp hr;have k1:=fI ht;have:=gC (x:=t) (s:=" ") (by decide);exact⟨kJ _ _,by omega,λy hy=>by have k2:=fI hy;exact⟨k2.1 (k1.1 ha),by omega⟩⟩
 have iE:=gC (x:=x) (s:="\n") (by decide);have hlen:(cj x).length<=901:=by unfold cj;rw[wm];omega
 have we:eT x=nM (cj x):=rfl;obtain⟨L,hL⟩:∃L,L=cj x:=⟨_,rfl⟩;rw[<- hL]at L1 rin hlen we q0;unfold nM at we;o_head JM (w:=jx) L1 (d4 _) rin (by omega) (λhb H2 S2=>?_) (λhb v2 H2 S2 i2=>?_)
 . rw[hb,if_pos rfl]at we
   exact q1 we _ (S1.trans S2)
 rw[hb,if_neg (by decide)]at we;o_head JM (w:=jB) (L1.by S2) (d4 _) rin (by omega) (λhb3 H3 S3=>?_) (λhb3 v3 H3 S3 i3=>?_)
 . rw[hb3,if_pos rfl]at we
   exact q1 we _ (S1.trans (S2.trans S3))
 rw[hb3,if_neg (by decide)]at we;have i2:Is K H3 v2 (.list ((bh L).map TZ)):=by unfold bh;rw[Wu];exact i2.by S3
 have i3:Is K H3 v3 (.list ((d9 L).map TZ)):=by unfold d9;rw[Wu];exact i3
 o_head JO i2 ?_;rw[List.isEmpty_map];cases he:(bh L).isEmpty with
 | true =>
   rw[he,if_pos rfl]at we;rw[show(!true)=false from rfl];k_few;exact⟨by simp;decide,q1 we _ (S1.trans (S2.trans S3))⟩
 | false =>
 rw[he,if_neg (by decide)]at we;rw[show(!false)=true from rfl];obtain⟨as,e1,n1,r1⟩:=(L1.by S2).by S3;o_head fu (.of e1) (o0:=none) (tl:=[]) rfl (λj y _=>y=.str ((L.map eJ).getD j "")) ?_ ?_
 . intro D j y ys o H4 hy inv
   rw[wB]at hy;obtain⟨b,hb,rfl⟩:=vA.mp hy;have hj:j<L.length:=by have:=(wX.mp hb).1;omega
   have eb:=r1 j b hb;rw[wf,wb hj]at eb;have p1:=(rin L[j] (vn hj)).1
   obtain⟨x0,r0,hr0⟩:∃x0 r0,L[j]=x0::r0:=by
     cases hq:L[j]with
     | nil=>exact absurd hq p1
     | cons x0 r0=>exact⟨x0,r0,rfl⟩
   have eb:H3 b=some (.lst (V.str x0::r0.map V.str)):=by
     have:H3 b=some (.lst (L[j].map V.str)):=eb;rw[hr0]at this;exact this
   o_head cG (.of (inv.2.2.1 _ _ eb)) (v:=.str x0) (cP (j:=0) rfl) ?_;exact dE inv (by omega) (λ_ _ _ _ _ h=>h) ⟨_,rfl⟩ (af.refl _) (by rw[wf,wB,wb hj,hr0];rfl)
 intro D4 ys H4 n4 S4 e4 l4 r4
 have ey:ys=(L.map eJ).map V.str:=by
   rw[wm,n1]at l4;refine vF (by rw[l4];simp) λi h1 h2=>?_
   rw[r4 i ys[i] (wb h1)];rw[wm]at h2;rw[wf,wb h2];simp
 rw[ey]at e4;have hw1:(bh L).length<=901:=by unfold bh dq;rw[wm,wm];have:=xN (λr=>eJ r == jx) L;omega
 have ht1:(d9 L).length<=901:=by unfold d9 dq;rw[wm,wm];have:=xN (λr=>eJ r == jB) L;omega
 o_head cW (by simp) (λp5 H5 n5 S5 e5=>?_);o_head fO (.inl ((i2.by S4).by S5)) ?_;rw[wm];refine A0 e5 (by omega) (by omega) (by simp;omega) (λp6 H6 n6 S6 e6=>?_);rw[BV,V4]at e6;o_head cW (by simp) (λp7 H7 n7 S7 e7=>?_);k_few;have T7:=S4.trans (S5.trans (S6.trans S7));refine fO (.inl (i3.by T7)) ?_;rw[wm];refine A0 e7 (by omega) (by omega) (by simp;omega) (λp8 H8 n8 S8 e8=>?_);rw[BV,V4]at e8;refine jv (S8 _ _ (S7 _ _ e6)) e8 (by simp;omega) (λp9 H9 n9 S9 e9=>?_);have S49:=S5.trans (S6.trans (S7.trans (S8.trans S9)));have T9:=S4.trans S49;have U9:=S1.trans (S2.trans (S3.trans T9));refine yE (d:=.list ((L.map eJ).map PyData.str)) (e:=.list ((w6 (bh L).length jx++w6 (d9 L).length jB).map PyData.str)) (bO.mpr ⟨D4,_,rfl,.of (S49 _ _ e4),zy _⟩) (bO.mpr ⟨p9,_,rfl,.of e9,?_⟩) ((LH λy hy=>?_).shaped (by decide)) ((LH λy hy=>?_).shaped (by decide)) ?_
 . have:=zy (K:=K) (H:=H9) (w6 (bh L).length jx++w6 (d9 L).length jB)
   rw[Wo (f:=V.str),Xs (f:=V.str),Xs (f:=V.str)]at this;exact this
 . obtain⟨r,hr,rfl⟩:=vg.mp hy
   obtain⟨p1,_,p3⟩:=rin r hr;cases r with
   | nil=>exact absurd rfl p1
   | cons x0 r0=>exact iH (p3 x0 (by simp)).1
 . rcases Wf.mp hy with hy | hy
   . rw[(Xu.mp hy).2];exact d4 _
   . rw[(Xu.mp hy).2];exact d4 _
 rw[SY];cases hc:(L.map eJ == w6 (bh L).length jx++w6 (d9 L).length jB)with
 | false =>
   rw[hc,if_pos rfl]at we;rw[show(!false)=true from rfl];k_few;exact⟨by simp;decide,q1 we _ U9⟩
 | true =>
 rw[hc,if_neg (by decide)]at we;rw[show(!true)=false from rfl];o_head ZU (i2.by T9) ?_;cases ha:(bh L).all λr=>!r.isEmpty with
 | false =>
   rw[ha,vi,if_pos rfl]at we;k_few;exact⟨by simp;decide,q1 we _ U9⟩
 | true =>
 rw[ha,wP]at we;o_head zfV (i3.by T9) (by omega) (λH10 S10=>?_);have T10:=T9.trans S10;have U10:=U9.trans S10;cases ho:lW (d9 L)with
 | false =>
   rw[ho,if_pos rfl]at we;k_few;exact⟨by simp;decide,q1 we _ U10⟩
 | true =>
 rw[ho,if_neg (by decide)]at we;k_few;have hrl:∀r∈bh L,r.length<=901:=Tx λr hr=>(rin r hr).2.1
 have hne:∀r∈bh L,r≠[]:=λr hr z=>by
   have:=wv.mp ha r hr;rw[z]at this;cases this
 have i3':=i3.by T10;obtain⟨l2,xs2,rfl,s2,t2⟩:=bO.mp (i2.by T10);have l2':=t2.length;rw[wm]at l2'
 have at2:∀{j:Nat}{x:V},xs2[j]? = some x->j<(bh L).length/\Is K H10 x (TZ ((bh L).getD j []))/\(bh L).getD j []∈bh L:=λ{j x} hx=>by
   obtain⟨hj,ix⟩:=dz t2 hx;rw[wm]at hj;rw[wf,wB,wb hj]at ix;rw[wf,wb hj];exact⟨hj,ix,vn hj⟩
 refine fu s2 (o0:=none) (tl:=[]) rfl (λj y _=>y=.int (((bh L).getD j []).headD 0)) ?_ ?_
 . intro D j x ys o H11 hx inv
   obtain⟨hj,ix,hm⟩:=at2 hx
   obtain⟨r0,rr,hrow⟩:∃r0 rr,(bh L).getD j []=r0::rr:=by
     cases hq:(bh L).getD j []with
     | nil=>exact absurd hq (hne _ hm)
     | cons r0 rr=>exact⟨r0,rr,rfl⟩
   rw[hrow]at ix;o_head Pu (ix.by inv.2.2.1) (by decide) (by rw[wW];omega) ?_;exact dE inv (by omega) (λ_ _ _ _ _ h=>h) ⟨_,rfl⟩ (af.refl _) (by rw[hrow];rfl)
 intro D11 ys H11 n11 S11 e11 l11 r11;o_head fu (S11.seq s2) (o0:=none) (tl:=[]) rfl (λj y H'=>Is K H' y (TZ ((bh L).getD j []).tail)) ?_ ?_
 . intro D j x ys o H12 hx inv
   obtain⟨hj,ix,hm⟩:=at2 hx
   obtain⟨r0,rr,hrow⟩:∃r0 rr,(bh L).getD j []=r0::rr:=by
     cases hq:(bh L).getD j []with
     | nil=>exact absurd hq (hne _ hm)
     | cons r0 rr=>exact⟨r0,rr,rfl⟩
   rw[hrow]at ix;o_head I_ ((ix.by S11).by inv.2.2.1) (by rw[wm,wW];exact λz=>zxi z.1) (λw13 H13 S13 i13=>?_);rw[AY]at i13;k_few;exact dE inv (by omega) (λ_ _ _ _ k h=>h.Bs k (oX _)) ⟨_,rfl⟩ S13 (by rw[hrow];exact i13)
 intro D12 zs H12 n12 S12 e12 l12 r12;k_few;have S12':=S11.trans S12
 have j0:Is K H12 (.ref D11) (.list ((bh L).map λr=>.int (r.headD 0))):=by
   refine bO.mpr ⟨D11,ys,rfl,.of (S12 _ _ e11),t_ (by rw[wm];omega) λi x hx=>?_⟩;have hi:i<(bh L).length:=by have:=(wX.mp hx).1;omega
   rw[r11 i x hx,wf,wf,wB,wb hi];exact bR.mpr rfl
 have j1:Is K H12 (.ref D12) (.list ((bh L).map λr=>TZ r.tail)):=by
   refine bO.mpr ⟨D12,zs,rfl,.of e12,t_ (by rw[wm];omega) λi x hx=>?_⟩;have hi:i<(bh L).length:=by have:=(wX.mp hx).1;omega
   have:=r12 i x hx;rw[wf,wb hi]at this;rw[wf,wB,wb hi];exact this
 cases hB:nK (.list ((bh L).map λr=>.int (r.headD 0))) (.list ((bh L).map λr=>TZ r.tail)) (.list ((d9 L).map TZ))with
 | true =>
   rw[hB,if_neg (by decide)]at we;obtain⟨ok,so,q⟩:=q0 we;have j0:Is K H12 (.ref D11) (.list (((bh L).map (·.headD 0)).map PyData.int)):=by rw[Wu];exact j0
   have j1:Is K H12 (.ref D12) (.list (((bh L).map QG).map TZ)):=by rw[Wu];exact j1
   refine Z2 (rs:=(bh L).map (·.headD 0)) (us:=(bh L).map QG) (ts:=d9 L) ⟨⟨_,j0,.inl rfl⟩,⟨_,_,j1,.inl rfl,Kh _⟩,⟨_,_,i3'.by S12',.inl rfl,Kh _⟩,ok⟩ (λv H13 ts' S13 pm so' i13=>?_);rw[i_.uniq so' so pm]at i13;exact q v H13 (U10.trans (S12'.trans S13)) i13
 | false =>
   rw[hB,if_pos rfl]at we;refine Oj j0 j1 (i3'.by S12') (by show((bh L).map _).length<=1000;rw[wm];omega) (λt ht=>?_) hB (λH13 S13=>q2 we _ (U10.trans (S12'.trans S13)));have ht:t∈(bh L).map λr=>TZ r.tail:=ht
   obtain⟨r,hr,rfl⟩:=vg.mp ht
   show(r.tail.map PyData.int).length<=1000
   rw[wm,qf];have:=hrl r hr;omega
def dP(x:wn):Option (Rat × List Rat × List wu) :=
 match wM x " : " with
 | [p0,p1,p2] =>
  if(nT p0 x.length&&(wM p1 " ").all (nT · x.length))=false then none
  else if(p2 == wq "one") || ((p2 == wq "rests") || (p2 == wq "drawn"))then some (aR p0,(wM p1 " ").map aR,[.str p2])
  else if(wM p2 " ").all (wT · 2)=false then none
  else some (aR p0,(wM p1 " ").map aR,(wM p2 " ").map λy=>.int ((cn y:Nat):Int))
 | _=>none
def HW(K:wa)(a:Ad):Sp:=λvs H Q E=>∃x0,vs=[x0] /\ ∃x:wn,x0=.str x/\bQ x/\x.length<=300/\(dP x=none->∀H',af H H'->E (.ref a.bg) none H')/\(∀r,dP x=some r->∀v H',af H H'->Is K H' v (cy r)->Q v H')
theorem OU{K:wa}{a:Ad}{H:Hp}{Q:VK}{E:XK}{x:wn}(ha:bQ x)(hl:x.length<=300)(q1:dP x=none->∀H',af H H'->E (.ref a.bg) none H')(q2:∀r,dP x=some r->∀v H',af H H'->Is K H' v (cy r)->Q v H'):HW K a [.str x] H Q E:=⟨_,rfl,x,rfl,ha,hl,q1,q2⟩
theorem Yy{x:wn}(h:(wM x " : ").length≠3):dP x=none:=by
 unfold dP
 split
 ·rename_i e
  rw[e]at h;exact absurd rfl h
 ·rfl
theorem zv7(x:V)(xs:List V):d6 (x::xs) none (some 1)=[x]:=by
 unfold d6;have e1:HT.aE (x::xs).length 0 none=0:=by simp[HT.aE]
 have e2:HT.aE (x::xs).length (x::xs).length (some 1)=1:=by simp[HT.aE]
 rw[e1,e2];simp
theorem ZM(x y z:V):d6 [x,y,z] (some 2) none=[z]:=rfl
theorem Of(T:Txt K mg a):aK P w K mg base (bX P w) 5 a.Fj a.Ew ym (HW K a):=by
 refine T.ES.F.gR mZ ?_ ?_;wtm_at "b1"
 refine⟨_,(aF (aX 1 mZ.nd (cQ va Wx Wy (show b_ _ "str.split" iz from jY) (pv 0) (aa ah ae)))
     (aF (bI (bG (show ax _ (wQ .NotEq) (cM K)from dy hu) (aD (show ao _ (.builtin "len") (a_ K)from bz) rfl T.z_len bo (aa (pv 1) ae)) ak (aV _)) (aA (fm T.iM rfl rfl T.gT fB (aa ah ae))) bH)
     (aF (aX 2 mZ.nd (aJ (dM (sv T) hr T.ma fF (aa (br bB (pv 1) bN (bj ak)) (aa (aD (show ao _ (.builtin "len") m8 from zC) rfl T.z_len bo (aa (pv 0) ae)) ae)))))
     (aF (aX 3 mZ.nd (dM (sv T) hr T.ma fF (aa (cQ va Wx Wy (show b_ _ "str.split" iz from jY) (aJ (pv 1)) (aa ah ae)) (aa (aD (show ao _ (.builtin "len") m8 from zC) rfl T.z_len bo (aa (pv 0) ae)) ae))))
     (aF (aX 4 mZ.nd (Ar (bG (show ax _ (wQ .In) (yt K)from Lk hu) (aJ (pv 1)) (b7 (v:=.ref a.oB) rfl T.Fe rfl) (by with_unfolding_all rfl)) (eO (show ao _ (.type "tuple") (dS K)from ic) rfl T.z_tuple dY (aa (br bB (pv 1) (bj ak) bN) ae)) (dM (JS T) hr T.yJ fF (aa (cQ va Wx Wy (show b_ _ "str.split" iz from jY) (aJ (pv 1)) (aa ah ae)) ae))))
     (aA (aG (aw (show ax _ (vT .Add) (Ca K)from zu4) (hJ (aa (pv 2) (aa (pv 3) ae))) (pv 4))))))))),?_⟩
 wtm_at "cl";rw[show start Jj [x0]=[some x0,none,none,none,none]from rfl];obtain⟨x,rfl,ha,hl,q1,q2⟩:=h;have z:10000<=wC:=by decide
 have iE:=gC (x:=x) (s:=" : ") (by decide);have pin:=λt h=>fI (x:=x) (s:=" : ") (t:=t) h
 o_head eI ?_;o_head kr (by decide) (by omega) (by omega) (λl H1 n1 S1 e1=>?_);o_head ⟨l,_,rfl,.inl (.of e1),?_⟩;rw[wm];k_few
 . rename_i h3
   exact⟨by simp;decide,q1 (Yy (by omega)) _ S1⟩
 rename_i h3;have eg:dP x=dP x:=rfl
 conv at eg=>rhs;unfold dP
 obtain⟨ps,hps⟩:∃ps,ps=wM x " : ":=⟨_,rfl⟩;rw[<- hps]at e1 h3 pin
 obtain⟨p0,p1,p2,rfl⟩:∃p0 p1 p2,ps=[p0,p1,p2]:=by
   match ps,h3 with
   | [p0,p1,p2],_=>exact⟨p0,p1,p2,rfl⟩
   | [],e=>simp at e
   | [_],e=>simp at e
   | [_,_],e=>simp at e
   | _::_::_::_::_,e=>simp at e;omega
 have eg:dP x=if(nT p0 x.length&&(wM p1 " ").all (nT · x.length))=false then none
   else if(p2 == wq "one") || ((p2 == wq "rests") || (p2 == wq "drawn"))then some (aR p0,(wM p1 " ").map aR,[.str p2])
   else if(wM p2 " ").all (wT · 2)=false then none
   else some (aR p0,(wM p1 " ").map aR,(wM p2 " ").map λy=>.int ((cn y:Nat):Int)):=by
   unfold dP;rw[<- hps]
 have k0:=pin p0 (by simp);have k1:=pin p1 (by simp);have k2:=pin p2 (by simp);simp only[wU,WG]at e1;refine iu (.of e1) (λl2 H2 n2 S2 e2=>?_);rw[zv7]at e2;o_head CF (by omega) ?_;o_head sG (xs:=[p0]) (.of e2) (by simp) (λy hy=>by simp at hy;subst hy;exact⟨k0.1 ha,by omega⟩) (by omega) (λhb H3 S3=>?_) (λhb vh H3 S3 i3=>?_)
 . rw[WI,xg,xW]at hb
   exact q1 (by rw[eg,hb];rfl) _ (S1.trans (S2.trans S3))
 rw[WI,xg,xW]at hb;rw[hb,wP]at eg;o_head zvl i3 (by decide) (by simp) (λv4 i4=>?_);have i4:Is K H3 v4 (N (aR p0)):=i4;have T3:=S2.trans S3;have e3:=T3 _ _ e1;have f1:=gC (x:=p1) (s:=" ") (by decide);have f2:=gC (x:=p2) (s:=" ") (by decide);o_head eI ?_;o_head kr (by decide) (by omega) (by omega) (λl5 H5 n5 S5 e5=>?_);o_head CF (by omega) ?_;o_head sG (.of e5) (by omega) (λy hy=>by have:=fI hy;exact⟨this.1 (k1.1 ha),by omega⟩) (by omega) (λhb1 H6 S6=>?_) (λhb1 vp H6 S6 i6=>?_)
 . exact q1 (by rw[eg,hb1];rfl) _ (S1.trans (T3.trans (S5.trans S6)))
 rw[hb1,if_neg (by decide)]at eg;have T6:=S5.trans S6;have e6:=T6 _ _ e3;have i46:=i4.by T6;have U6:=S1.trans (T3.trans T6);o_head Kr (T.Fb _) (iH (k2.1 ha)) (λk hk=>?_)
 have hk:k=((p2 == wq "one") || ((p2 == wq "rests") || (p2 == wq "drawn"))):=by
   rw[WP,hk];unfold nV;simp only[qp,beq_iff_eq]
 rw[<- hk]at eg;cases k with
 | false =>
   rw[if_neg (by decide)]at eg;o_head eI ?_;o_head kr (by decide) (by omega) (by omega) (λl7 H7 n7 S7 e7=>?_);o_head G7 (.of e7) (by omega) (λy hy=>by have:=fI hy;exact⟨this.1 (k2.1 ha),by omega⟩) (λhb2 H8 S8=>?_) (λhb2 v8 H8 S8 i8=>?_)
   . exact q1 (by rw[eg,hb2];rfl) _ (U6.trans (S7.trans S8))
   rw[hb2,if_neg (by decide)]at eg;k_few;have S8:=S7.trans S8;refine jA (ds:=[N (aR p0),TN ((wM p1 " ").map aR)]) (by simp) (.cons (i46.by S8) (.cons (i6.by S8) .nil)) (λv9 H9 S9 i9=>?_);o_head JA i9 (i8.by S9) (by simp only[wW,WD,wm];omega) (λv10 H10 S10 i10=>?_);refine q2 _ eg v10 H10 (U6.trans (S8.trans (S9.trans S10))) ?_;rw[Wu]at i10;exact i10
 | true =>
   rw[if_pos rfl]at eg;o_head iu (.of e6) (λl7 H7 n7 S7 e7=>?_);rw[ZM]at e7;o_head rH (.of e7) (λl8 H8 n8 S8 e8=>?_);k_few;have S8:=S7.trans S8;have i7:Is K H8 (.ref l8) (.tuple [.str p2]):=bV.mpr ⟨l8,_,rfl,.of e8,.cons (dj.mpr rfl) .nil⟩;refine jA (ds:=[N (aR p0),TN ((wM p1 " ").map aR)]) (by simp) (.cons (i46.by S8) (.cons (i6.by S8) .nil)) (λv9 H9 S9 i9=>?_);o_head JA i9 (i7.by S9) (by simp only[wW,WD];omega) (λv10 H10 S10 i10=>?_);exact q2 _ eg v10 H10 (U6.trans (S8.trans (S9.trans S10))) i10
def fX(x:wn):List (Option fQ):=(wM x "; ").map dP
def kn(x:wn):Bool:=(fX x).all qg&&(decide ((((fX x).filterMap id).headD (0,[],[])).2.1.length<=8)&&kO (((fX x).filterMap id).headD (0,[],[])).2.1.length ((fX x).filterMap id))
def Cw(K:wa)(a:Ad):Sp:=λvs H Q E=>∃x0,vs=[x0]/\((fT K H x0 /\ ∀H',af H H'->E (.ref a.bg) none H') \/ ∃x:wn,x0=.str x/\bQ x/\x.length<=300/\(kn x=false->∀H',af H H'->E (.ref a.bg) none H')/\(kn x=true->∀v H',af H H'->Is K H' v (.list (((fX x).filterMap id).map cy))->Q v H'))
theorem Yn{x:wn}{r:fQ}(ha:bQ x)(hl:x.length<=300)(h:dP x=some r):r.Ok:=by
 unfold dP at h
 split at h
 ·rename_i p0 p1 p2 hs
  have k1:=fI (x:=x) (s:=" : ") (t:=p1) (by rw[hs];simp);have k2:=fI (x:=x) (s:=" : ") (t:=p2) (by rw[hs];simp);have f1:=gC (x:=p1) (s:=" ") (by decide)
  split at h
  ·cases h
  ·split at h
   ·cases h
    refine⟨by show((wM p1 " ").map aR).length<=950;rw[wm];omega,λe he=>.inl ⟨p2,?_,iH (k2.1 ha)⟩⟩;exact vx.mp he
   ·split at h
    ·cases h
    ·cases h
     refine⟨by show((wM p1 " ").map aR).length<=950;rw[wm];omega,λe he=>.inr ?_⟩;obtain⟨y,_,rfl⟩:=vg.mp he;exact⟨_,rfl⟩
 ·cases h
theorem KD:∀{es:List wu},(∀e∈es,(∃w,e=.str w/\vJ w=true) \/ ∃z,e=.int z)->cE es=true
 | [],_=>by simp[cE]
 | x::xs,h=>by
  have hx:eL x=true:=by
   rcases h x (by simp)with⟨w,rfl,_⟩ | ⟨z,rfl⟩<;>simp[eL]
  rw[cE,hx,KD λe he=>h e (wI _ he)];rfl
theorem Jo{r:fQ}(h:r.Ok):eL (cy r)=true:=by
 unfold cy;rw[eL,cE,cE,yW,zxT,KD h.e];rfl
theorem Iy:∀{rs:List fQ},(∀r∈rs,r.Ok)->cE (rs.map cy)=true
 | [],_=>by simp[cE]
 | x::xs,h=>by rw[wU,cE,Jo (h x (by simp)),Iy λr hr=>h r (wI _ hr)];rfl
theorem IY{α : Type} : ∀rs:List α,(rs.map some).filterMap id=rs
 | []=>rfl
 | x::r=>by rw[wU,List.filterMap_cons_some (by rfl),IY r]
theorem GL(T:Txt K mg a):aK P w K mg base (bX P w) 6 a.gm a.Di rO (Cw K a):=by
 refine T.kz.F.gR Ba ?_ ?_;wtm_at "b1"
 refine⟨_,(aF (Yh (i:=1) Ba.nd rfl (Or.inl rfl) rfl rfl rfl JD rfl (bU.by (N':=["part"]) (src:=[none]) rfl (show cw _ (az sV).names Bt ["part"] [none]=true from by decide +kernel)) (fc (dM (G3 T) hr T.yN fF (aa (pv 0) (aa ah ae)))) (λ_ _ _ _ _=>(bZ (i:=0) (show(["part"]:List Str).Nodup from by decide) rfl (Or.inl rfl))) (λ_ _ _ _ _=>cI) (λ_ _ _ _ _ _ _ hp=>by exact(dM (Of (K:=K) (mg:=mg) (a:=a) T) hr T.ES hp (aa (pv 0) ae))))
     (aF (aX 2 Ba.nd (aD (show ao _ (.builtin "len") (a_ K)from bz) rfl T.z_len bo (aa (aJ (aJ (pv 1))) ae)))
     (aF (bI (PW.pt (cv (bG sP (pv 2) (eV rfl T.CQ) (aV _)) (cY (bA (bC (aB (zn1 T) hr T.Eb (aa (pv 1) (aa (pv 2) ae)))))))) (aA (fm T.iM rfl rfl T.gT fB (aa ah ae))) bH)
     (aA (aG (pv 1)))))),?_⟩
 wtm_at "cl";rw[show start Bt [x0]=[some x0,none,none]from rfl];rcases h with⟨hn,q⟩ | ⟨x,rfl,ha,hl,q1,q2⟩
 . k_few
   exact Mm (by decide) hn (λH' S=>q H' S)
 have z:4000<=wC:=by decide
 have iE:=gC (x:=x) (s:="; ") (by decide);o_head Ln (by decide) (by omega) (by omega) (λl1 H1 n1 S1 e1=>?_);k_few;obtain⟨ps,hps⟩:∃ps,ps=wM x "; ":=⟨_,rfl⟩
 have pin:∀y∈ps,bQ y/\y.length<=300:=λy hy=>by
   have:=fI (x:=x) (s:="; ") (t:=y) (by rw[<- hps];exact hy);exact⟨this.1 ha,by omega⟩
 have pne:ps≠[]:=by rw[hps];exact kJ _ _
 have hrp:fX x=ps.map dP:=by rw[hps];rfl
 rw[<- hps]at e1 iE;refine pU (.of e1) (λD i ys σ' H'=>(∃o,σ'=[o])/\H1 D=none/\af H1 H'/\H' D=some (.lst ys)/\ys.length=i /\ ∃rs:List fQ,(ps.take i).map dP=rs.map some/\(∀r∈rs,r.Ok)/\ay K H' ys (rs.map cy)) ?_ ?_ ?_ ?_
 . exact λD H' n s e=>⟨⟨none,rfl⟩,n,s,e,rfl,[],rfl,(λr hr=>by cases hr),.nil⟩
 . exact λD i ys σ' H' h=>.of (h.2.2.1 _ _ e1)
 . rintro D i y ys σ' H' hy ⟨⟨o,rfl⟩,n,s,eD,ey,rs,er,ok,r⟩
   rw[wB]at hy;obtain⟨y,hy2,rfl⟩:=vA.mp hy;have hj:i<ps.length:=(wX.mp hy2).1;have my:=vz hy2;o_head OU (pin y my).1 (pin y my).2 (λhn H4 S4=>?_) (λrr hr v H4 S4 i4=>?_)
   . refine q1 ?_ _ (S1.trans (s.trans S4))
     have:(fX x).all qg=false:=by
       cases hh:(fX x).all qg with
       | false=>rfl
       | true =>
         have:=wv.mp hh (dP y) (by rw[hrp];exact vg.mpr ⟨y,my,rfl⟩);rw[hn]at this;cases this
     unfold kn;rw[this];rfl
   have okr:=Yn (pin y my).1 (pin y my).2 hr;have eD4:=S4 _ _ eD;refine m6 eD4 (by omega) (λH6 E6 e6=>⟨⟨_,rfl⟩,n,(s.trans S4).grow n E6,e6,by simp;omega,rs++[rr],?_,λr hr=>?_,?_⟩)
   . rw[XJ,hy2,Wo,er,Wo]
     show _++[dP y]=_
     rw[hr];rfl
   . rcases Wf.mp hr with h | h
     . exact ok r h
     . rw[vx.mp h];exact okr
   . rw[Wo]
     exact ay.snoc (ay.keep (E6.keep eD4) _ _ (Iy ok) (ay.same S4 _ _ r)) (i4.Bs (E6.keep eD4) (Jo okr))
 . rintro D ys σ' H' ⟨_,n,s,eD,ey,rs,er,ok,r⟩
   rw[show ps.take (ps.map V.str).length=ps by rw[wm,Q5]]at er;have efm:(fX x).filterMap id=rs:=by rw[hrp,er,IY]
   have eal:(fX x).all qg=true:=by rw[hrp,er,vW];exact wv.mpr λ_ _=>rfl
   unfold kn at q1 q2;rw[eal,wP,efm]at q1 q2;have rlen:rs.length<=301:=by have:=congrArg List.length er;rw[wm,wm]at this;omega
   obtain⟨r0,aO,rfl⟩:∃r0 aO,rs=r0::aO:=by
     cases rs with
     | nil=>exact absurd (Xc.mp er) pne
     | cons r0 aO=>exact⟨r0,aO,rfl⟩
   rw[xy]at q1 q2;have ok0:=ok r0 (by simp);have T1:=S1.trans s;have ir:Is K H' (.ref D) (.list ((r0::aO).map cy)):=bO.mpr ⟨D,ys,rfl,.of eD,r⟩;o_head YX (j:=0) (d:=cy r0) ir rfl (λv3 i3=>?_);o_head dC (j:=1) (ds:=N r0.1::TN r0.2.1::r0.2.2) i3 rfl (λv4 i4=>?_);o_head KU i4 ?_;k_few
   . rename_i e
     exact⟨by simp;decide,q1 (by rw[decide_eq_false (by omega)];rfl) _ T1⟩
   rename_i e;rw[decide_eq_true (show r0.2.1.length<=8 by omega),wP]at q1 q2;refine znN ir ok (by omega) (λH3 S3=>?_);cases hp:kO r0.2.1.length (r0::aO)with
   | false =>
     k_few;exact⟨by simp;decide,q1 hp _ (T1.trans S3)⟩
   | true =>
     k_few;exact q2 hp _ _ (T1.trans S3) (ir.by S3)
def aQ(H:Hp)(p:wd)(k:Int):Prop:=0<=k /\ ∃(a:Int)(b:Bool),H p=some (.lst [.int a,.bl b])
theorem aQ.same{H H':Hp}{p:wd}{k:Int}(s:af H H')(h:aQ H p k):aQ H' p k:=by
 obtain⟨k0,x,y,e⟩:=h;exact⟨k0,x,y,s _ _ e⟩
theorem aQ.exc{H H':Hp}{p l:wd}{k:Int}(h:aQ H p k)(s:Exc l H H')(n:p≠l):aQ H' p k:=by
 obtain⟨k0,x,y,e⟩:=h;exact⟨k0,x,y,s _ _ n e⟩
theorem aQ.ne{H:Hp}{p q:wd}{k:Int}(e:H q=none)(h:aQ H p k):q≠p:=by
 obtain⟨_,x,y,z⟩:=h;exact(gN z e).symm
def Fz(K:wa):Sp:=λvs H Q _=>∃x0 x1,vs=[x0,x1] /\ ∃(a:wd)(ns:List Int)(k:Int),x0=.ref a/\x1=.int k/\jk K H a (ns.map V.int)/\ns.length<=63/\0<=k/\k<=1000 /\
 ∀p H',H p=none->af H H'->aQ H' p 0->Q (.ref p) H'
theorem zoR{K:wa}{H:Hp}{Q:VK}{E:XK}{a:wd}{ns:List Int}{k:Int}(h:jk K H a (ns.map V.int))(hl:ns.length<=63)(h0:0<=k)(h1:k<=1000)
  (q:∀p H',H p=none->af H H'->aQ H' p 0->Q (.ref p) H'):Fz K [.ref a,.int k] H Q E:=⟨_,_,rfl,a,ns,k,rfl,rfl,h,hl,h0,h1,q⟩
local macro_rules | `(tactic| wtm_at "pen")=>`(tactic| first
 | assumption
 | (apply aQ.same;(focus assumption);wtm_at "pen"))
local macro_rules | `(tactic| wtm_at "ne")=>`(tactic| ((with_reducible apply aQ.ne); (focus assumption); wtm_at "pen"))
local macro_rules | `(tactic| wtm_at "penle")=>`(tactic| exact aQ.le (by wtm_at "pen") (by omega))
theorem zoy(T:Txt K mg a):aK P w K mg base bc 1 a.E_ a.Ei pG (Fz K):=by
 refine T.Ez.F.ok CI ?_ ?_;wtm_at "b2"
 refine⟨_,(aF (aX 2 CI.nd (aw av (aw fL ak (pv 1)) ak))
     (aF (bI (bG sP (aD (show ao _ (.builtin "len") (a_ K)from bz) rfl T.z_len bo (aa (pv 0) ae)) ak (aV _)) (aA (aX 2 CI.nd (aw av (gv dh (pv 0) (aw jm (pv 1) (aD (show ao _ (.builtin "len") (a_ K)from bz) rfl T.z_len bo (aa (pv 0) ae))) (λ_ _=>rfl)) (aw fL (aw jc (pv 1) (aD (show ao _ (.builtin "len") (a_ K)from bz) rfl T.z_len bo (aa (pv 0) ae))) ak)))) bH)
     (aF (bI (PW.pt (zxr (bG zT (pv 1) (aD (show ao _ (.builtin "len") (a_ K)from bz) rfl T.z_len bo (aa (pv 0) ae)) (aV _)) (YK (bG JQ (pv 2) (RU (v:=1000000000000000000) ⟨by decide,by decide,by decide⟩ (by decide +kernel)) (aV _))))) (aA (aG (bL (aa (pv 2) (aa cK ae))))) bH)
     (aA (aG (bL (aa (aw jm (aw fL (aw av (aw av (aw jm (pv 2) ak) (aw fL ak (pv 1))) ak) ak) ak) (aa cK ae)))))))),?_⟩
 wtm_at "cl";rw[show start FZ [x0,x1]=[some x0,some x1,none]from rfl];obtain⟨a',ns,k,rfl,rfl,hs,hl,h0,h1,q⟩:=h;have fin:∀(x:Int)(y:Bool),t6 K [.int x,.bl y] H Q:=λx y=>cW (by show 2<=1000;decide) λp H' hp s e=>q p H' hp s ⟨by decide,x,y,e⟩
 o_head kb hs.sq ?_;k_few
 . rename_i hz
   rw[wm]at hz;refine kb hs.sq ?_;rw[wm];o_head zxu hs (xx _ (by omega)) (by rw[wm];exact QE _ (by omega)) (λz=>?_);o_head kb hs.sq ?_;rw[wm];o_head Jc ⟨by omega,(Bd.yV (by omega) (by omega)).mono (by decide)⟩ ?_;o_head kb hs.sq ?_;k_few
   all_goals exact fin _ _
 . refine kb hs.sq ?_
   k_few
   all_goals exact fin _ _
def Lw(K:wa):Sp:=λvs H Q _=>∃x0 x1,vs=[x0,x1] /\ ∃(p:wd)(k m:Int),x0=.ref p/\x1=.int m/\aQ H p k/\0<m/\Bd 8999 m /\
 ∀(r:Int)(H':Hp),0<=r->r<m->Exc p H H'->aU H H'->aQ H' p k->Q (.int r) H'
theorem zn0{K:wa}{H:Hp}{Q:VK}{E:XK}{p:wd}{k m:Int}(h:aQ H p k)(hm:0<m)(hb:Bd 8999 m)
  (q:∀(r:Int)(H':Hp),0<=r->r<m->Exc p H H'->aU H H'->aQ H' p k->Q (.int r) H'):Lw K [.ref p,.int m] H Q E:=⟨_,_,rfl,p,k,m,rfl,rfl,h,hm,hb,q⟩
local macro_rules | `(tactic| wtm_at "gs")=>`(tactic| ((with_reducible apply zn0); (focus wtm_at "pen"); (focus (first | decide | omega)); (focus wtm_at "bd128"); intro _ _ _ _ _ _ _))
theorem d7(T:Txt K mg a):aK P w K mg base bc 1 a.EH a.DY sQ (Lw K):=by
 refine T.dF.F.ok zI ?_ ?_;wtm_at "b2"
 refine⟨_,(aF (bI (bC (aJ (pv 0))) (aF (aX 2 zI.nd (aw jm (aJ (pv 0)) (pv 1)))
     (aF (Cq (aw jc (aJ (pv 0)) (pv 1)) (Ck (pv 0) ak Aa))
     (aA (aG (pv 2))))) bH)
     (aF (Cq (aw jm (aw av (aw fL (aJ (pv 0)) ak) ak) ak) (Ck (pv 0) ak Aa))
     (aF (aX 3 zI.nd (aw jm (aw fL (aw av (aw av (aw fL (aw jm (aJ (pv 0)) ak) ak) (aw jc (aJ (pv 0)) ak)) ak) ak) ak))
     (aA (aG (aw jm (aw jc (pv 3) ak) (pv 1))))))),?_⟩
 wtm_at "cl";rw[show start IT [x0,x1]=[some x0,some x1,none,none]from rfl];obtain⟨p,k,m,rfl,rfl,⟨hk0,x,y,hp⟩,hm,hbm,q⟩:=h;k_few
 all_goals
   exact q _ _ (xx _ (by omega)) (QE _ hm) (by wtm_at "exc") (Exc.keep (p:=p) (by wtm_at "exc") hp) ⟨hk0,_,_,by assumption⟩
def je(K:wa)(a:Ad)(H:Hp)(f:wd)(w:V)(d:wn):Prop :=
 (f=a.fh\/f=a.fK\/f=a.gm)/\fT K H w/\d="text" \/
 ∃x:wn,w=.str x/\bQ x/\x.length<=300/\(f=a.fh/\(cR x=1/\d="text"\/cR x=2/\d="rule"\/cR x=3/\d="swarm") \/
  f=a.fK/\(eT x=1/\d="text"\/eT x=2/\d="web")\/f=a.gm/\kn x=false/\d="text")
theorem je.by{K:wa}{a:Ad}{H H':Hp}{f:wd}{w:V}{d:wn}(s:af H H')(h:je K a H f w d):je K a H' f w d:=by
 rcases h with⟨h1,h2,h3⟩ | h
 ·exact .inl ⟨h1,h2.by s,h3⟩
 ·exact .inr h
def Gw(K:wa)(a:Ad):Sp:=λvs H Q _=>∃x0 x1,vs=[x0,x1] /\ ∃(f:wd)(d:wn),x0=.ref f/\je K a H f x1 d /\ ∀H',af H H'->Q (.str d) H'
theorem Ut{K:wa}{a:Ad}{H:Hp}{Q:VK}{E:XK}{f:wd}{x:V}{d:wn}(h:je K a H f x d)(q:∀H',af H H'->Q (.str d) H'):Gw K a [.ref f,x] H Q E:=⟨_,_,rfl,f,d,rfl,h,q⟩
def UM(a:Ad)(C:wd)(d:wn):Prop:=C=a.bg/\d="text"\/C=a.cA/\d="rule"\/C=a.cz/\d="swarm"\/C=a.cB/\d="web"
theorem je.ZJ{K:wa}{a:Ad}{H:Hp}{f:wd}{w:V}{d:wn}(h:je K a H f w d):∃C sp,(f,sp)∈[(a.fh,A2 K a),(a.fK,zz K a),(a.gm,Cw K a)]/\UM a C d /\
  ∀Q E,(∀H',af H H'->E (.ref C) none H')->sp [w] H Q E:=by
 rcases h with⟨rfl | rfl | rfl,hn,rfl⟩ | ⟨x,rfl,ha,hl,h⟩
 ·exact⟨a.bg,_,.head _,.inl ⟨rfl,rfl⟩,λQ E e=>⟨_,rfl,.inl ⟨hn,e⟩⟩⟩
 ·exact⟨a.bg,_,.tail _ (.head _),.inl ⟨rfl,rfl⟩,λQ E e=>⟨_,rfl,.inl ⟨hn,e⟩⟩⟩
 ·exact⟨a.bg,_,.tail _ (.tail _ (.head _)),.inl ⟨rfl,rfl⟩,λQ E e=>⟨_,rfl,.inl ⟨hn,e⟩⟩⟩
 rcases h with⟨rfl,h⟩ | ⟨rfl,h⟩ | ⟨rfl,h,rfl⟩
 ·have no:∀{i j:Nat},cR x=i->i≠j->∀{P:Prop},cR x=j->P:=λe1 n _ e2=>absurd (e1.symm.trans e2) n
  rcases h with⟨h,rfl⟩ | ⟨h,rfl⟩ | ⟨h,rfl⟩
  ·exact⟨a.bg,_,.head _,.inl ⟨rfl,rfl⟩,λQ E e=>⟨_,rfl,.inr ⟨x,rfl,ha,by omega,λ_=>e,no h (by decide),no h (by decide),no h (by decide)⟩⟩⟩
  ·exact⟨a.cA,_,.head _,.inr (.inl ⟨rfl,rfl⟩),λQ E e=>⟨_,rfl,.inr ⟨x,rfl,ha,by omega,no h (by decide),λ_=>e,no h (by decide),no h (by decide)⟩⟩⟩
  ·exact⟨a.cz,_,.head _,.inr (.inr (.inl ⟨rfl,rfl⟩)),λQ E e=>⟨_,rfl,.inr ⟨x,rfl,ha,by omega,no h (by decide),no h (by decide),λ_=>e,no h (by decide)⟩⟩⟩
 ·have no:∀{i j:Nat},eT x=i->i≠j->∀{P:Prop},eT x=j->P:=λe1 n _ e2=>absurd (e1.symm.trans e2) n
  rcases h with⟨h,rfl⟩ | ⟨h,rfl⟩
  ·exact⟨a.bg,_,.tail _ (.head _),.inl ⟨rfl,rfl⟩,λQ E e=>⟨_,rfl,.inr ⟨x,rfl,ha,by omega,λ_=>e,no h (by decide),no h (by decide)⟩⟩⟩
  ·exact⟨a.cB,_,.tail _ (.head _),.inr (.inr (.inr ⟨rfl,rfl⟩)),λQ E e=>⟨_,rfl,.inr ⟨x,rfl,ha,by omega,no h (by decide),λ_=>e,no h (by decide)⟩⟩⟩
 ·exact⟨a.bg,_,.tail _ (.tail _ (.head _)),.inl ⟨rfl,rfl⟩,λQ E e=>⟨_,rfl,.inr ⟨x,rfl,ha,hl,λ_=>e,λz=>by rw[h]at z;cases z⟩⟩⟩
theorem Ot{H':Hp}{ex:wd}{C:wg}{P:Hp->Prop}(h:H' ex=none)(q:∀H1,af H' H1->H1 ex=some (jf ex C)->P H1):P (upd H' ex (jf ex C)):=q _ (af.upd h) cb
theorem zl6(T:Txt K mg a):aK P w K mg base bc 8 a.Es a.Dz sN (Gw K a):=by
 refine T.DO.F.ok ng ?_ ?_;wtm_at "b2"
 refine⟨_,(aF (aX 2 ng.nd Hy)
     (aF (SF (i:=3) (tb:=λW=>Ac (z6 [(a.fh,A2 K a),(a.fK,zz K a),(a.gm,Cw K a)] W 0 (gk (fo 1) hX))) (th:=λex C=>jo (fo 3) (fg 2)) rfl rfl ng.nd rfl rfl rfl T.Nb (λW pn E' hx=>by exact(aA (GB (UB (i:=0) rfl (Or.inl rfl) (zM (JF T) (hr.mono (by decide)) T.iL.F.kp T.iL.b (zM (II T) (hr.mono (by decide)) T.jQ.F.kp T.jQ.b (zM (GL T) (hr.mono (by decide)) T.kz.F.kp T.kz.b SV))) hx (aa (pv 1) ae))))) (λpn ex C oe hob=>by exact(aA (aX 2 ng.nd (pv 3)))))
     (aF (bI (PW.pt (cv (bC (aD (show ao _ (.builtin "isinstance") (iB K)from lE) rfl T.z_isinstance dG (aa (pv 2) (aa (hJ (by exact(@aa _ _ _ _ _ (b7 (v:=.ref a.jU) rfl T.Nw rfl) (@aa _ _ _ _ _ (b7 (v:=.ref a.jR) rfl T.Ng rfl) (@aa _ _ _ _ _ (b7 (v:=.ref a.jV) rfl T.NH rfl) (@aa _ _ _ _ _ (b7 (v:=.ref a.jS) rfl T.Nq rfl) (@aa _ _ _ _ _ (b7 (v:=.ref a.jT) rfl T.Nn rfl) ae fY) fY) fY) fY) fY))) ae)))) (cY (bA (bC (aD (show ao _ (.builtin "isinstance") (iB K)from lE) rfl T.z_isinstance dG (aa (pv 2) (aa (eU (v:=.ty "ValueError") rfl T.z_ValueError OD rfl) ae)))))))) (aA (aG ah)) bH)
     (aF (aX 4 ng.nd (bL (aa (aD (show ao _ (.builtin "isinstance") (iB K)from lE) rfl T.z_isinstance dG (aa (pv 2) (aa (b7 (v:=.ref a.bg) rfl T.gT rfl) ae))) (aa (aD (show ao _ (.builtin "isinstance") (iB K)from lE) rfl T.z_isinstance dG (aa (pv 2) (aa (b7 (v:=.ref a.cA) rfl T.EM rfl) ae))) (aa (aD (show ao _ (.builtin "isinstance") (iB K)from lE) rfl T.z_isinstance dG (aa (pv 2) (aa (b7 (v:=.ref a.cz) rfl T.Eo rfl) ae))) ae)))))
     (aF (GB (cQ qF PySem.F.slot_list_append PySem.F.type_list_append zS (pv 4) (aa (aD (show ao _ (.builtin "isinstance") (iB K)from lE) rfl T.z_isinstance dG (aa (pv 2) (aa (b7 (v:=.ref a.cB) rfl T.oA rfl) ae))) ae)))
     (aF (bI (bG (show ax _ (wQ .NotEq) (cM K)from dy hu) (cQ qF xl PySem.F.type_list_count (show b_ _ "list.count" (Gq K)from Pc) (pv 4) (aa cK ae)) ak (aV _)) (aA (aG ah)) bH)
     (aA (aG (gv dh (bL (by exact(@aa _ _ _ _ _ ah (@aa _ _ _ _ _ ah (@aa _ _ _ _ _ ah (@aa _ _ _ _ _ ah ae aj) aj) aj) aj))) (cQ qF xh PySem.F.type_list_index Ro (pv 4) (aa cK ae)) (λ_ _=>rfl)))))))))),?_⟩
 wtm_at "cl";rw[show start Gu [x0,x1]=[some x0,some x1,none,none,none]from rfl];obtain⟨f,d,rfl,hc,q⟩:=h;obtain⟨C,sp,hm,hd,hs⟩:=hc.ZJ;clear hc;o_head Yg (λσ' C' o H'=>σ'=[some (.ref f),some x1,some .bM,none,none]/\C'=.ref C/\af H H') ?_ ?_
 . k_few
   refine Pp f sp hm rfl ?_;k_few;exact hs _ _ (λH' S=>⟨rfl,rfl,S⟩)
 . rintro σ' C' o H' ⟨rfl,rfl,S0⟩
   rcases hd with⟨rfl,rfl⟩ | ⟨rfl,rfl⟩ | ⟨rfl,rfl⟩ | ⟨rfl,rfl⟩
   all_goals
     refine⟨by first | exact T.Ny | exact T.NA | exact T.Nk | exact T.NJ,λex hex=>?_⟩;k_few;intro hex2;refine Ot hex2 (λH1 Sx ee=>?_);o_head d8 (by simp) (λtp H2 n2 S2 e2=>?_);k_few
     refine Oe (cs:=[a.jU,a.jR,a.jV,a.jS,a.jT]) (S2 _ _ ee) (by wtm_at "ecls") (.of e2) (λc hc=>by
       simp only[wO,WH,or_false]at hc;rcases hc with rfl | rfl | rfl | rfl | rfl<;>wtm_at "kit") ?_
     have ee2:=S2 _ _ ee;o_head zqV ee2 (by wtm_at "ecls") (by wtm_at "kit") ?_;o_head tY ee2 (by wtm_at "ecls") (by wtm_at "kit") ?_;o_head tY ee2 (by wtm_at "ecls") (by wtm_at "kit") ?_;o_head tY ee2 (by wtm_at "ecls") (by wtm_at "kit") ?_;o_head cW (by simp) (λl3 H3 n3 S3 e3=>?_);o_head zc (.of e3) ?_;o_head tY (S3 _ _ ee2) (by wtm_at "ecls") (by wtm_at "kit") ?_;o_head T_ e3 (by simp) (λH4 E4 e4=>?_);have S4:af H H4:=(S0.trans (Sx.trans (S2.trans S3))).grow ((S0.trans (Sx.trans S2)).free n3) E4;clear S0 Sx S2 S3 E4 ee ee2 e2 n2 n3 e3 hs;o_head zc (.of e4) ?_;o_head ⟨l3,[_,_,_,_],rfl,rfl,.of e4,?_⟩;rw[show((List.count true _:Nat):Int)=1 from by decide];o_head cW (by show 4<=1000;decide) (λl5 H5 n5 S5 e5=>?_);o_head zc (.of (S5 _ _ e4)) ?_;k_few
     first
       | refine oQ (bs:=[_,_,_,_]) 0 (.of (S5 _ _ e4)) (by simp) rfl (λm hm=>by rcases m with _ | _ | _ | m<;>first | rfl | omega) ?_
       | refine oQ (bs:=[_,_,_,_]) 1 (.of (S5 _ _ e4)) (by simp) rfl (λm hm=>by rcases m with _ | _ | _ | m<;>first | rfl | omega) ?_
       | refine oQ (bs:=[_,_,_,_]) 2 (.of (S5 _ _ e4)) (by simp) rfl (λm hm=>by rcases m with _ | _ | _ | m<;>first | rfl | omega) ?_
       | refine oQ (bs:=[_,_,_,_]) 3 (.of (S5 _ _ e4)) (by simp) rfl (λm hm=>by rcases m with _ | _ | _ | m<;>first | rfl | omega) ?_
     refine cG (.of e5) rfl ?_;exact q _ (S4.trans S5)
theorem UR{H:Hp}{p l:wd}{k:Int}{xs:List wn}(hp:aQ H p k)(e:H l=some (.lst (xs.map V.str))):l≠p:=λz=>by
 obtain⟨_,a,b,g⟩:=hp;rw[z,g]at e;cases xs with
 | nil=>cases e
 | cons x r=>rw[wU]at e;cases e
theorem cH{H H':Hp}{p:wd}{k:Int}{v:V}{xs:List wn}(h:b8 H v xs)(hp:aQ H p k)(s:Exc p H H'):b8 H' v xs:=let ⟨l,e,g⟩:=h;⟨l,e,s _ _ (UR hp g) g⟩
theorem JE{H H':Hp}{p:wd}{k:Int}(hp:aQ H p k)(s:Exc p H H'):∀{vs:List V}{rs:List (List wn)},eS H vs rs->eS H' vs rs
 | [],[],_=>trivial
 | _::_,_::_,⟨a,b⟩=>⟨cH a hp s,JE hp s b⟩
 | [],_::_,h=>h.elim
 | _::_,[],h=>h.elim
theorem Lc{H H':Hp}{p:wd}{k:Int}{v:V}{rs:List (List wn)}(h:ib H v rs)(hp:aQ H p k)(s:Exc p H H'):ib H' v rs:=by
 obtain⟨l,vs,e,g,a⟩:=h;refine⟨l,vs,e,s _ _ (λz=>?_) g,JE hp s a⟩;obtain⟨_,x,y,g2⟩:=hp;rw[z,g2]at g;cases g;cases rs with
 | nil=>exact a
 | cons r rs =>
  obtain⟨⟨l,e,_⟩,_⟩:=a;cases e
theorem ztK{H H':Hp}{v:V}{xs:List wn}(h:b8 H v xs)(s:af H H'):b8 H' v xs:=h.by s
theorem LW{α : Type}{xs:List α}{lo hi:Option Int}{y : α}(h:y∈cutD xs lo hi):y∈xs:=List.mem_of_mem_drop (List.mem_of_mem_take h)
local macro_rules | `(tactic| wtm_at "atl")=>`(tactic| first
 | assumption
 | exact ztK (by assumption) (by wtm_at "same")
 | exact atM_thru (by assumption) (by wtm_at "same"))
local macro_rules | `(tactic| wtm_at "pl")=>`(tactic| first
 | decide +kernel
 | assumption
 | apply_assumption
 | (simp only[vQ,wW,WD,Xb,L2.cutD,VB,qP,vB,bY];omega))
local macro_rules | `(tactic| wtm_at "pu")=>`(tactic| first
 | exact N4
 | exact SK
 | exact zyJ
 | exact zsG
 | exact Zv
 | exact Tt rfl
 | exact zyA rfl
 | exact zyM rfl (by wtm_at "atl")
 | exact Rh rfl (by wtm_at "atl")
 | ((with_reducible apply Py);wtm_at "pu")
 | ((with_reducible apply ZP);(focus wtm_at "pu");wtm_at "pu")
 | ((with_reducible apply Rm);(focus wtm_at "pu");wtm_at "pu")
 | ((with_reducible apply zyU);(focus wtm_at "pu");wtm_at "pl")
 | ((with_reducible apply zy8);(focus wtm_at "pu");wtm_at "pl")
 | ((with_reducible apply TM);(focus wtm_at "pu");wtm_at "pu")
 | ((with_reducible apply UO);(focus wtm_at "pu");(focus wtm_at "pu");wtm_at "pl")
 | ((with_reducible apply zvk);(focus wtm_at "pu");(focus wtm_at "pu");wtm_at "pl")
 | ((with_reducible apply Tg);(focus wtm_at "pu");(focus wtm_at "pu");wtm_at "pl")
 | ((with_reducible apply N3);(focus wtm_at "pu");(focus wtm_at "pu");wtm_at "pu")
 | ((with_reducible apply Tc);(focus wtm_at "pu");(focus wtm_at "pu");(focus wtm_at "pl");(focus wtm_at "pl");wtm_at "pl")
 | ((with_reducible apply Rp);(focus wtm_at "pu");(focus wtm_at "pu");(focus decide);(focus decide);decide)
 | ((with_reducible apply Zd);(focus wtm_at "pu");(focus wtm_at "pu");(focus decide);(focus decide);decide)
 | ((with_reducible apply ztn);(focus wtm_at "pu");wtm_at "pl")
 | ((with_reducible apply YI);(focus wtm_at "pu");wtm_at "pl")
 | ((with_reducible apply UP);wtm_at "pu")
 | ((with_reducible apply Zl);(focus wtm_at "pu");(focus wtm_at "pu");(first | assumption | rfl)))
local macro_rules | `(tactic| wtm_at "gn")=>`(tactic| ((with_reducible refine By ?_); (try dsimp only [QC,QD]); (try wtm_at "tl")))
theorem rl{H:Hp}{v:V}{xs:List wn}{j:Int}{K:wa}{Q:VK}(h:b8 H v xs)(h0:0<=j)(h1:j<xs.length)(q:∀x∈xs,Q (.str x) H):dk K v (.int j) H Q:=by
 obtain⟨l,rfl,g⟩:=h;obtain⟨j,rfl⟩:∃m:Nat,j=(m:Int):=⟨j.toNat,by omega⟩;have hj:j<xs.length:=by omega
 exact cG (.of g) (v:=.str xs[j]) (cP (by rw[wB,wb hj];rfl)) (q _ (vn hj))
theorem pQ{H:Hp}{v:V}{xs:List wn}{K:wa}{Q:VK}(h:b8 H v xs)(q:Q (.int xs.length) H):a_ K [v] H Q:=by
 obtain⟨l,rfl,g⟩:=h;exact⟨l,_,rfl,.inl (.of g),by rw[wm];exact q⟩
def h_(ws:List wn)(b:wn)(i:Int):wn:=vb " " (cutD ws none (some i)++[b]++cutD ws (some (i+1)) none)
def Gs(K:wa):Sp:=λvs H Q _=>∃x0 x1 x2,vs=[x0,x1,x2] /\ ∃(p:wd)(k:Int)(ws:List wn)(b:wn),x0=.ref p/\b8 H x1 ws/\x2=.str b/\aQ H p k/\2<=ws.length/\ws.length<=8/\(∀y∈ws,y.length<=900)/\b.length<=900 /\ ∀(i:Int) H',1<=i->i<ws.length->Exc p H H'->aU H H'->aQ H' p k->Q (.str (h_ ws b i)) H'
theorem CM{K:wa}{H:Hp}{Q:VK}{E:XK}{p:wd}{k:Int}{ws:List wn}{b:wn}{v:V}(h:b8 H v ws)(hp:aQ H p k)(h2:2<=ws.length)(h8:ws.length<=8)(hy:∀y∈ws,y.length<=900)(hb:b.length<=900)(q:∀(i:Int) H',1<=i->i<ws.length->Exc p H H'->aU H H'->aQ H' p k->Q (.str (h_ ws b i)) H'):Gs K [.ref p,v,.str b] H Q E:=⟨_,_,_,rfl,p,k,ws,b,rfl,h,rfl,hp,h2,h8,hy,hb,q⟩
theorem Ae(T:Txt K mg a):aK P w K mg base bc 2 a.EV a.DM rz (Gs K):=by
 refine T.oz.F.ok Lg ?_ ?_;wtm_at "b3"
 refine⟨_,(aF (aX 3 Lg.nd (aw av ak (aB (d7 T) hr T.dF (aa (pv 0) (aa (aw Ky (aD (show ao _ (.builtin "len") (a_ K)from bz) rfl T.z_len bo (aa (pv 1) ae)) ak) ae)))))
     (aA (aG (cQ va vX vY (show b_ _ "str.join" (fH K)from g6) ah (aa (aw av (aw av (br bB (pv 1) bN (bj (pv 3))) (bL (aa (pv 2) ae))) (br bB (pv 1) (bj (aw av (pv 3) ak)) bN)) ae))))),?_⟩
 wtm_at "cl";rw[show start Gk [x0,x1,x2]=[some x0,some x1,some x2,none]from rfl];obtain⟨p,k,ws,b,rfl,hl,rfl,hp,h2,h8,hy,hb,q⟩:=h;obtain⟨l,rfl,e⟩:=id hl;wtm_at "gt";refine⟨l,_,rfl,.inl (.of e),?_⟩;rw[wm];wtm_at "gt";rename_i d H1 d0 d1 E1 K1 P1;have hl1:=cH hl hp E1;clear hl
 have hj:∀i:Int,∀y∈cutD ws none (some i)++[b]++cutD ws (some (i+1)) none,y.length<=900:=λi y hy'=>by
   rcases Wf.mp hy' with hy' | hy'
   . rcases Wf.mp hy' with hy' | hy'
     . exact hy y (LW hy')
     . rw[vx.mp hy'];exact hb
   . exact hy y (LW hy')
 wtm_at "tl";refine Jx ?_
 apply dB.go
 . wtm_at "pu"
 . intro H2 S2
   exact q (1+d) _ (by omega) (by omega) (E1.trans S2.exc) (K1.trans S2.keep) (P1.same S2)
def jL(ls:List wn)(i:Int)(y:wn):List (List wn) :=
 [ls++[tx ""],[tx ""]++ls,cutD ls none (some i)++[y++tx " "]++cutD ls (some (i+1)) none]++[cutD ls none (some i)++[tx ""]++cutD ls (some i) none] ++
 [cutD ls none (some i)++[tx " "++y]++cutD ls (some (i+1)) none]++[cutD ls none (some i)++[fk 1 y " " "  "]++cutD ls (some (i+1)) none] ++
 [cutD ls none (some i)++[Qz y]++cutD ls (some (i+1)) none,cutD ls none (some 1)++[tx "x"]++cutD ls (some 1) none,[tx ""]]++[ls.reverse]
def mE(ls:List wn):Bool:=decide (1<=ls.length)&&decide (ls.length<=8)&&(vf ls.length).all λi=>decide ((ls.getD i "").length<=100) && !(ql (Qz (ls.getD i "")).length)&&(jL ls i (ls.getD i "")).all λr=>decide (r.length<=100)&&r.all λy=>decide (y.length<=900)
def GN(K:wa):Sp:=λvs H Q _=>∃x0 x1,vs=[x0,x1] /\ ∃(p:wd)(k:Int)(ls:List wn),x0=.ref p/\b8 H x1 ls/\aQ H p k/\mE ls=true /\ ∀(i j:Nat) H',i<ls.length->j<10->Exc p H H'->aU H H'->aQ H' p k->Q (.str (vb "\n" ((jL ls i (ls.getD i "")).getD j []))) H'
theorem Jw{K:wa}{H:Hp}{Q:VK}{E:XK}{p:wd}{k:Int}{ls:List wn}{v:V}(h:b8 H v ls)(hp:aQ H p k)(ok:mE ls=true)(q:∀(i j:Nat) H',i<ls.length->j<10->Exc p H H'->aU H H'->aQ H' p k->Q (.str (vb "\n" ((jL ls i (ls.getD i "")).getD j []))) H'):GN K [.ref p,v] H Q E:=⟨_,_,rfl,p,k,ls,rfl,h,hp,ok,q⟩
theorem JH(T:Txt K mg a):aK P w K mg base bc 2 a.EB a.Dy yC (GN K):=by
 refine T.yK.F.ok iS ?_ ?_;wtm_at "b2"
 refine⟨_,(aF (aX 2 iS.nd (aB (d7 T) hr T.dF (aa (pv 0) (aa (aD (show ao _ (.builtin "len") (a_ K)from bz) rfl T.z_len bo (aa (pv 1) ae)) ae))))
     (aF (aX 3 iS.nd (gv dh (pv 1) (pv 2) (λ_ _=>rfl)))
     (Ie (J8 (i:=4) iS.nd rfl (Or.inl rfl) (IQ (L7 (RY av (pv 1) (IQ (L7 JN ae))) (aa (aw av (bL (aa ah ae)) (pv 1)) (aa (aw av (aw av (br bB (pv 1) bN (bj (pv 2))) (bL (aa (aw av (pv 3) ah) ae))) (br bB (pv 1) (bj (aw av (pv 2) ak)) bN)) ae)))))
     (cX (PS.p (aX 4 iS.nd (aw av (pv 4) (bL (aa (aw av (aw av (br bB (pv 1) bN (bj (pv 2))) (bL (aa ah ae))) (br bB (pv 1) (bj (pv 2)) bN)) ae)))))
     (cX (PS.p (aX 4 iS.nd (aw av (pv 4) (bL (aa (aw av (aw av (br bB (pv 1) bN (bj (pv 2))) (bL (aa (aw av ah (pv 3)) ae))) (br bB (pv 1) (bj (aw av (pv 2) ak)) bN)) ae)))))
     (cX (p4 (i:=4) iS.nd rfl (Or.inl rfl) (lH av (PE.p (pv 4)) (nO (iq (lH av (lH av (PE.p (br bB (pv 1) bN (bj (pv 2)))) (nO (iq (tV (pv 3)) (PA.p ae)))) (PE.p (br bB (pv 1) (bj (aw av (pv 2) ak)) bN))) (PA.p ae)))))
     (cX (PS.p (aX 4 iS.nd (aw av (pv 4) (bL (aa (aw av (aw av (br bB (pv 1) bN (bj (pv 2))) (bL (aa (Ue va PySem.F.slot_str_upper PySem.F.type_str_upper (show b_ _ "str.upper" AN from SE) (pv 3)) ae))) (br bB (pv 1) (bj (aw av (pv 2) ak)) bN)) (aa (aw av (aw av (br bB (pv 1) bN (bj ak)) (bL (aa ah ae))) (br bB (pv 1) (bj ak) bN)) (aa (bL (aa ah ae)) ae)))))))
     (cX (PS.p (aX 4 iS.nd (aw av (pv 4) (bL (aa (Tv (pv 1)) ae)))))
     (cV.p (aA (aG (cQ va vX vY (show b_ _ "str.join" (fH K)from g6) ah (aa (gv dh (pv 4) (aB (d7 T) hr T.dF (aa (pv 0) (aa (aD (show ao _ (.builtin "len") (a_ K)from bz) rfl T.z_len bo (aa (pv 4) ae)) ae))) (λ_ _=>rfl)) ae))))))))))))),?_⟩
 wtm_at "cl";rw[show start LU [x0,x1]=[some x0,some x1,none,none,none]from rfl];obtain⟨p,k,ls,rfl,hl,hp,ok,q⟩:=h;unfold mE at ok;simp only[wD,decide_eq_true_eq,wv,vy,Vo]at ok;obtain⟨⟨h1,h8⟩,ok⟩:=ok;obtain⟨l,rfl,e⟩:=id hl;wtm_at "gt";refine⟨l,_,rfl,.inl (.of e),?_⟩;rw[wm];wtm_at "gt";rename_i d H1 d0 d1 E1 K1 P1;have hl1:=cH hl hp E1;clear hl e;obtain⟨i,rfl⟩:∃i:Nat,d=(i:Int):=⟨d.toNat,by omega⟩;have hi:i<ls.length:=by omega
 obtain⟨⟨y1,y2⟩,y3⟩:=ok i hi;have hat:eC ls (i:Int)=some (ls.getD i ""):=cP (by rw[wf,wb hi];rfl);generalize hy:ls.getD i ""=y at *;have y4:y.length<=1000:=by omega
 have y5:y.length+(wq " ").length<=wC:=by rw[vB,show(wq " ").length=1 from by decide];omega
 have y6:(wq " ").length+y.length<=wC:=by omega
 wtm_at "tl";wtm_at "sq";refine bD ?_
 apply dB.go
 . wtm_at "pu"
 intro H2 S2;wtm_at "gn";wtm_at "sq";refine bD ?_
 apply dA.go
 . wtm_at "pu"
 intro v3 H3 S3 i3;wtm_at "gn";wtm_at "sq";refine bD ?_
 apply dA.go
 . wtm_at "pu"
 intro v4 H4 S4 i4;clear i3;wtm_at "gn";wtm_at "sq";refine bD ?_
 apply dA.go
 . wtm_at "pu"
 intro v5 H5 S5 i5;clear i4;wtm_at "gn";wtm_at "sq";refine bD ?_
 apply dA.go
 . wtm_at "pu"
 intro v6 H6 S6 i6;clear i5;wtm_at "gn";wtm_at "sq";refine bD ?_
 apply dA.go
 . wtm_at "pu"
 intro v7 H7 S7 i7;clear i6;wtm_at "gn";wtm_at "sq";refine bD ?_
 apply dA.go
 . wtm_at "pu"
 intro v8 H8 S8 i8;clear i7;wtm_at "gn";have S:=S2.trans (S3.trans (S4.trans (S5.trans (S6.trans (S7.trans S8)))));have i8:ib H8 v8 (jL ls i y):=i8;have P8:=P1.same S;have hlen:(jL ls i y).length=10:=rfl;obtain⟨l8,vs,rfl,g8,a8⟩:=id i8;clear S2 S3 S4 S5 S6 S7 S8 hl1 P1;o_head eI ?_;o_head ⟨l8,_,rfl,.inl (.of g8),?_⟩;rw[a8.len,hlen];k_few;rename_i j H9 j0 j1 E9 K9 P9;obtain⟨l',vs',e',g9,a9⟩:=Lc i8 P8 E9;cases e';obtain⟨j,rfl⟩:∃n:Nat,j=(n:Int):=⟨j.toNat,by omega⟩;have hj:j<(jL ls i y).length:=by rw[hlen];omega
 obtain⟨u,hu1,hu2⟩:=a9.get (wb hj);obtain⟨lu,rfl,gu⟩:=hu2;refine cG (.of g9) (cP hu1) ?_;o_head jK (.of gu) (y3 _ (vn hj)).2 ?_ ?_
 . have z:=(y3 _ (vn hj)).1
   rw[show(wq "\n").length=1 from by decide];omega
 . have:=q i j H9 hi (by omega) (E1.trans (S.exc.trans E9)) (K1.trans (S.keep.trans K9)) P9
   rw[hy,wf,wb hj]at this;exact this
def eM(c:Nat):List Nat->List (List Nat)
 | []=>[[]]
 | a::r=>if a=c then []::eM c r else match eM c r with
  | []=>[[a]]
  | h::t=>(a::h)::t
def au(l:List Nat):wn:=⟨l.toArray⟩
theorem pK(c:Nat):∀l,eM c l≠[]
 | []=>by simp[eM]
 | a::r=>by
  unfold eM
  split
  ·simp
  ·split<;>simp
theorem tT(c:Nat):∀l,∀t∈eM c l,c ∉ t
 | [],t,ht=>by simp[eM]at ht;subst ht;simp
 | a::r,t,ht=>by
  unfold eM at ht
  split at ht
  ·rcases wO.mp ht with rfl | ht
   ·simp
   ·exact tT c r t ht
  ·rename_i hac
   split at ht
   ·rename_i e
    exact absurd e (pK c r)
   ·rename_i h tl e
    rcases wO.mp ht with rfl | ht
    ·intro hc
     rcases wO.mp hc with z | z
     ·exact hac z.symm
     ·exact tT c r h (by rw[e];simp) z
    ·exact tT c r t (by rw[e];exact wI _ ht)
theorem Mi(c:Nat):∀l,fj c (eM c l)=l
 | []=>rfl
 | a::r=>by
  have ih:=Mi c r;unfold eM
  split
  ·rename_i h
   cases e:eM c r with
   | nil=>exact absurd e (pK c r)
   | cons p q =>
    rw[e]at ih
    show []++c::fj c (p::q)=_
    rw[ih,h];rfl
  ·split
   ·rename_i e
    exact absurd e (pK c r)
   ·rename_i p q e
    rw[e]at ih;cases q with
    | nil =>
     have ih:p=r:=ih
     show a::p=a::r
     rw[ih]
    | cons q1 q2 =>
     have ih:p++c::fj c (q1::q2)=r:=ih
     show(a::p)++c::fj c (q1::q2)=a::r
     rw[<- ih];rfl
theorem z7(x:wn)(c:Nat):wM x ⟨#[c]⟩=(eM c x.cps.toList).map au:=by
 have e:vb ⟨#[c]⟩ ((eM c x.cps.toList).map au)=x:=by
  apply V1
  apply Wp.mp
  rw[rN,Wu,show((λs:wn=>s.cps.toList) ∘ au)=id from rfl,XS,Mi]
 conv=>lhs;rw[<- e]
 exact N7 (by simpa using pK c _) (λt ht=>by
  obtain⟨l,hl,rfl⟩:=vg.mp ht;exact tT c _ l hl)
def gz(c:Nat)(x:wn):List wn:=(eM c x.cps.toList).map au
theorem Cz(x:wn):wM x "/"=gz 47 x:=by rw[show(wq "/")=⟨#[47]⟩from by decide +kernel];exact z7 x 47
theorem Ah(x:wn):wM x " "=gz 32 x:=by rw[show(wq " ")=⟨#[32]⟩from by decide +kernel];exact z7 x 32
theorem Tp(x:wn):wM x "\n"=gz 10 x:=by rw[show(wq "\n")=⟨#[10]⟩from by decide +kernel];exact z7 x 10
def tN(x:wn):wn:=if vP x "-"=true then Vq ((gz 47 x).headD ⟨#[]⟩) (some 1) none else(gz 47 x).headD ⟨#[]⟩
def y7(x:wn):Option Nat:=((gz 47 x).tail.head?).map cn
def Jv(x:wn)(m:Int):Bool:=decide ((gz 47 x).length<=2)&&(tN x::(gz 47 x).tail).all (wT · m)
def nA(x:wn):Int:=jb (vP x "-") (cn (tN x))
def mC(x:wn):Int:=(((y7 x).getD 1:Nat):Int)
def lF(x:wn)(m:Int):Bool:=Jv x m&&(dU (nA x) (mC x)&&(iJ (WY (nA x) (mC x)) == x))
theorem HG(x:wn):cC x=tN x:=by unfold cC tN;rw[Cz]
theorem YR(x:wn):fq x=y7 x:=by unfold fq y7;rw[Cz]
theorem Hv(x:wn):nZ x=nA x:=by unfold nZ nA;rw[HG]
theorem IA(x:wn):nD x=mC x:=by unfold nD mC;rw[YR]
theorem Cp(x:wn)(m:Int):nT x m=lF x m:=by
 unfold nT lF jN Jv;rw[Cz,HG,Hv,IA]
def kZ(x:wn):List (List wn):=(gz 10 x).map (gz 32)
def Cy(l:List Nat):List (List wn):=(eM 10 l).map λr=>(eM 32 r).map au
theorem ko(c:Nat)(ts:List wn):(vb (au [c]) ts).cps.toList=fj c (ts.map λt=>t.cps.toList):=rN c ts
def fZ(f:List (List wn)->Bool)(l:List Nat):Bool:=f (Cy l)&&l.all (· < 128)&&decide (l.length<=300)
theorem nR(x:wn):x.cps.all (· < 128)=x.cps.toList.all (· < 128):=by rw[Vd]
def eX:List wn:=["01","+1","1/1","2/4","1/0","-0","0/5","1/-2","--1","x","","1.5","1//2","1/2/3","/2"].map tx++["1/","00"].map tx++[tx "1/02",Qm "9" 61,tx "1/"++Qm "7" 61,tx "-",tx "1_0",tx "-1/1",tx "0x1"]
def Lr:List wn:=[au [48,49],au [43,49],au [49,47,49],au [50,47,52],au [49,47,48],au [45,48],au [48,47,53],au [49,47,45,50],au [45,45,49],au [120],au [],au [49,46,53],au [49,47,47,50],au [49,47,50,47,51],au [47,50],au [49,47],au [48,48],au [49,47,48,50],au [57,57,57,57,57,57,57,57,57,57,57,57,57,57,57,57,57,57,57,57,57,57,57,57,57,57,57,57,57,57,57,57,57,57,57,57,57,57,57,57,57,57,57,57,57,57,57,57,57,57,57,57,57,57,57,57,57,57,57,57,57],au [49,47,55,55,55,55,55,55,55,55,55,55,55,55,55,55,55,55,55,55,55,55,55,55,55,55,55,55,55,55,55,55,55,55,55,55,55,55,55,55,55,55,55,55,55,55,55,55,55,55,55,55,55,55,55,55,55,55,55,55,55,55,55],au [45],au [49,95,48],au [45,49,47,49],au [48,120,49]]
theorem lB:eX=Lr:=by decide +kernel
theorem lz:wq " "=au [32]:=by decide +kernel
theorem ky:wq "\n"=au [10]:=by decide +kernel
def Ji(K:wa):Sp:=λvs H Q _=>∃x0,vs=[x0] /\ ∃(p:wd)(k:Int),x0=.ref p/\aQ H p k /\ ∀b H',b∈eX->Exc p H H'->aU H H'->aQ H' p k->Q (.str b) H'
theorem AR{K:wa}{H:Hp}{Q:VK}{E:XK}{p:wd}{k:Int}(hp:aQ H p k)(q:∀b H',b∈eX->Exc p H H'->aU H H'->aQ H' p k->Q (.str b) H'):Ji K [.ref p] H Q E:=⟨_,rfl,p,k,rfl,hp,q⟩
theorem BW(T:Txt K mg a):aK P w K mg base bc 2 a.Dc a.CY pk (Ji K):=by
 refine T.oq.F.ok pJ ?_ ?_;wtm_at "b1"
 refine⟨_,(@gc.h _ _ _ (bf (bS 1 pJ.nd (bF (ai (ag ah) (ai (ag ah) (ai (ag ah) (ai (ag ah) (ai (ag ah) (ai (ag ah) (ai (ag ah) (ai (ag ah) (ai (ag ah) (ai (ag ah) (ai (ag ah) (ai (ag ah) (ai (ag ah) (ai (ag ah) (ai (ag ah) aH aj) aj) aj) aj) aj) aj) aj) aj) aj) aj) aj) aj) aj) aj) aj)))
     (bf (bS 1 pJ.nd (bK av (ag (pv 1)) (bF (ai (ag ah) (ai (ag ah) aH aj) aj))))
     (bf (bS 1 pJ.nd (bK av (ag (pv 1)) (bF (ai (ag ah) (ai (ag (aw (show ax _ (vT .Mult) lA from yd) ah ak)) (ai (bK av (ag ah) (ag (aw (show ax _ (vT .Mult) lA from yd) ah ak))) (ai (ag ah) (ai (ag ah) (ai (ag ah) (ai (ag ah) aH aj) aj) aj) aj) cS) cS) aj))))
     (dI (eQ (jC dh (ag (pv 1)) (ag (aB (d7 T) hr T.dF (aa (pv 0) (aa (aD (show ao _ (.builtin "len") (a_ K)from bz) rfl T.z_len bo (aa (pv 1) ae)) ae)))) (λ_ _=>rfl)))))))),?_⟩
 wtm_at "cl";rw[show start Jy [x0]=[some x0,none]from rfl];obtain⟨p,k,rfl,hp,q⟩:=h;wtm_at "sq";refine bD ?_
 apply bq.go
 . wtm_at "pu"
 intro v1 H1 S1 i1;wtm_at "gn";wtm_at "sq";refine bD ?_
 apply bq.go
 . wtm_at "pu"
 intro v2 H2 S2 i2;wtm_at "gn";wtm_at "sq";refine bD ?_
 apply bq.go
 . wtm_at "pu"
 intro v3 H3 S3 i3;wtm_at "gn";have S:=S1.trans (S2.trans S3);have P3:=hp.same S;have i3:b8 H3 v3 eX:=i3;clear i1 i2 hp;obtain⟨l,rfl,e⟩:=id i3;o_head ⟨l,_,rfl,.inl (.of e),?_⟩;rw[wm,show eX.length=24 from by decide];k_few;rename_i d H4 d0 d1 E4 K4 P4;obtain⟨l',e',g⟩:=cH i3 P3 E4;cases e';obtain⟨j,rfl⟩:∃j:Nat,d=(j:Int):=⟨d.toNat,by omega⟩;have hj:j<eX.length:=by rw[show eX.length=24 from by decide];omega
 refine cG (.of g) (v:=.str eX[j]) (cP (by rw[wB,wb hj];rfl)) ?_;exact q _ _ (vn hj) (S.exc.trans E4) (S.keep.trans K4) P4
def ig(x:wn):Rat:=WY (nA x) (mC x)
theorem HZ(x:wn):aR x=ig x:=by unfold aR ig;rw[Hv,IA]
theorem w_(x:wn):cj x=kZ x:=by
 unfold cj kZ;rw[Tp];exact VM λy _=>Ah y
theorem jy(x:wn):cj x=Cy x.cps.toList:=by
 rw[w_];unfold kZ Cy gz;rw[Wu]
 rfl
def kY:List (List wn)->Nat
 | [r0,r1] =>
  if(decide (r0.length=3)&&(decide (2<=r1.length)&&((eJ r0 == wq "rule")&&(eJ r1 == wq "worms"))))=false then 1
  else if(r0.tail.all (lF · 60)&&r1.tail.all (lF · 60))=false then 1
  else match r0.tail.map ig with
   | [a,b]=>if eW a b=false then 2 else if(decide (r1.tail.length<=8)&&(r1.tail.map ig).all d5)=false then 3 else 0
   | _=>1
 | _=>1
theorem AI(L:List (List wn)):lK L=kY L:=by
 have e1:(λx:wn=>nT x 60)=λx=>lF x 60:=funext λx=>Cp x 60
 have e2:aR=ig:=funext HZ
 match L with
 | []=>rfl
 | [_]=>rfl
 | [r0,r1]=>show lK _=kY _;unfold lK kY;simp only[Cp,e2];try rfl
 | _::_::_::_=>rfl
theorem UJ(x:wn):cR x=kY (kZ x):=by unfold cR;rw[w_,AI]
def gL:List wn:=["rule","3/2","1/4"].map tx
def dr(n:Int):List wn:=L2.cutD (["worms","0","1/2","7/60"].map tx) none (some n)
theorem tJ:gL=[au [114,117,108,101],au [51,47,50],au [49,47,52]]:=by decide +kernel
theorem pY:["worms","0","1/2","7/60"].map tx=[au [119,111,114,109,115],au [48],au [49,47,50],au [55,47,54,48]]:=by decide +kernel
def lO:List wn:=["rule 3/2\nworms 0","rule 3/2 1/4 1\nworms 0","rule 3/2 1/4\nworms","rule 3/2 1/4","worms 0"].map tx++["rule 3/2 1/4 worms 0","rule 3/2 1/4\nworms 0\nworms 0","rule 5 1/4\nworms 01"].map tx++["rule 9 9\nworms"].map tx
def fA(x:wn):Bool:=decide (cR x=1)&&x.cps.all (· < 128)&&decide (x.length<=300)
theorem G_(x:wn):fA x=fZ (λL=>decide (kY L=1)) x.cps.toList:=by
 unfold fA fZ cR;rw[jy,AI,nR,zev]
theorem Zp:([2,3,4]:List Int).all (λn=>mE [vb " " gL,vb " " (dr n)]&&(vf 2).all λi=>(vf 10).all λj=>fA (vb "\n" ((jL [vb " " gL,vb " " (dr n)] i ([vb " " gL,vb " " (dr n)].getD i "")).getD j [])))=true:=by simp only[G_,dr,tJ,pY,lz,ky,ko];decide +kernel
def sx:List (List wn)->Bool
 | [r0,r1]=>(r0.tail++r1.tail).any λb=>eX.contains b
 | _=>true
def mL:List (List wn)->Bool
 | [r0,r1]=>(r0.tail++r1.tail).any λb=>Lr.contains b
 | _=>true
theorem S_(L:List (List wn)):sx L=mL L:=by
 match L with
 | []=>rfl
 | [_]=>rfl
 | [_,_]=>unfold sx mL;rw[lB]
 | _::_::_::_=>rfl
theorem Rx:eX.all (λb=>!lF b 60)=true:=by rw[lB];decide +kernel
theorem Rw{x:wn}(h:sx (kZ x)=true):cR x=1:=by
 unfold cR;rw[w_];generalize kZ x=L at h
 match L,h with
 | [],_=>rfl
 | [_],_=>rfl
 | _::_::_::_,_=>rfl
 | [r0,r1],h =>
  unfold sx at h;rw[List.any_eq_true]at h;obtain⟨b,hb,hc⟩:=h
  have nb:nT b 60=false:=by
   rw[Cp];have:=wv.mp Rx b (by simpa using hc)
   simpa using this
  have al:(r0.tail.all (nT · 60)&&r1.tail.all (nT · 60))=false:=by
   rw[<- xz];cases e:(r0.tail++r1.tail).all (nT · 60)with
   | false=>rfl
   | true =>
    have:=wv.mp e b hb;rw[nb]at this;cases this
  show(if _=false then 1 else if _=false then 1 else _)=1
  rw[if_pos al]
  split<;>rfl
theorem Jq{x:wn}(h:fZ mL x.cps.toList=true):fA x=true:=by
 unfold fZ at h;simp only[wD]at h;unfold fA;rw[decide_eq_true (Rw (x:=x) (by rw[<- w_,jy,S_];exact h.1.1)),nR,h.1.2,zev,h.2]
 rfl
theorem UC:([2,3,4]:List Int).all (λn=>eX.all λb=>([1,2]:List Int).all λi=>fZ mL (h_ gL b i++tx "\n"++vb " " (dr n)).cps.toList)=true:=by simp only[h_,dr,tJ,pY,lB,tx,lz,ky,cx,ko];decide +kernel
theorem PR:([2,3,4]:List Int).all (λn=>eX.all λb=>([1,2,3]:List Int).all λi=>!decide (i<n) || fZ mL (vb " " gL++tx "\n"++h_ (dr n) b i).cps.toList)=true:=by simp only[h_,dr,tJ,pY,lB,tx,lz,ky,cx,ko];decide +kernel
theorem YO:lO.all fA=true:=by simp only[show fA=λx=>_ from funext G_];decide +kernel
theorem SJ:(([2,3,4]:List Int).all λn=>decide ((dr n).length=n.toNat)&&(dr n).all λy=>decide (y.length<=5))=true:=by simp only[dr,pY];decide +kernel
theorem Ov:eX.all (λb=>decide (b.length<=70)&&b.cps.all (· < 128))=true:=by rw[lB];decide +kernel
def Ga(K:wa):Sp:=λvs H Q _=>∃x0,vs=[x0] /\ ∃(p:wd)(k:Int),x0=.ref p/\aQ H p k /\ ∀x H',fA x=true->Exc p H H'->aU H H'->aQ H' p k->Q (.str x) H'
theorem YT{K:wa}{H:Hp}{Q:VK}{E:XK}{p:wd}{k:Int}(hp:aQ H p k)(q:∀x H',fA x=true->Exc p H H'->aU H H'->aQ H' p k->Q (.str x) H'):Ga K [.ref p] H Q E:=⟨_,rfl,p,k,rfl,hp,q⟩
theorem Mk{x:wn}(h:fA x=true):x.length<=300:=by
 unfold fA at h;simp only[wD,decide_eq_true_eq]at h;exact h.2
theorem HB{n:Int}(h2:2<=n)(h4:n<=4):n∈([2,3,4]:List Int):=by simp;omega
theorem OR{n:Int}(h2:2<=n)(h4:n<=4):(dr n).length=n.toNat /\ ∀y∈dr n,y.length<=5:=by
 have:=wv.mp SJ n (HB h2 h4)
 simpa using this
theorem HI{b:wn}(h:b∈eX):b.length<=70:=by
 have:=wv.mp Ov b h;simp only[wD,decide_eq_true_eq]at this;exact this.1
theorem Zg(T:Txt K mg a):aK P w K mg base bc 3 a.Dq a.C6 sD (Ga K):=by
 refine T.C8.F.ok ki ?_ ?_;wtm_at "b1"
 refine⟨_,(@gc.h _ _ _ (bf (bS 1 ki.nd (bF (ai (ag ah) (ai (ag ah) (ai (ag ah) aH aj) aj) aj)))
     (bf (bS 2 ki.nd (ag (br bB (bL (by exact(@aa _ _ _ _ _ ah (@aa _ _ _ _ _ ah (@aa _ _ _ _ _ ah (@aa _ _ _ _ _ ah ae aj) aj) aj) aj))) bN (bj (aw av ak (aB (d7 T) hr T.dF (aa (pv 0) (aa ak ae))))))))
     (bf (bS 3 ki.nd (ag (aB (d7 T) hr T.dF (aa (pv 0) (aa ak ae)))))
     (bf (gx (bG (show ax _ (wQ .Eq) (cU K)from dO hu) (pv 3) ak (aV _)) (dI (eQ (ag (aB (JH T) hr T.yK (aa (pv 0) (aa (bL (aa (cQ va vX vY (show b_ _ "str.join" (fH K)from g6) ah (aa (pv 1) ae)) (aa (cQ va vX vY (show b_ _ "str.join" (fH K)from g6) ah (aa (pv 2) ae)) ae))) ae)))))) gq)
     (bf (gx (bG (show ax _ (wQ .Eq) (cU K)from dO hu) (pv 3) ak (aV _)) (dI (eQ (bK av (bK av (ag (aB (Ae T) hr T.oz (aa (pv 0) (aa (pv 1) (aa (aB (BW T) hr T.oq (aa (pv 0) ae)) ae))))) (ag ah)) (ag (cQ va vX vY (show b_ _ "str.join" (fH K)from g6) ah (aa (pv 2) ae)))))) gq)
     (bf (gx (bG (show ax _ (wQ .Eq) (cU K)from dO hu) (pv 3) ak (aV _)) (dI (eQ (bK av (bK av (ag (cQ va vX vY (show b_ _ "str.join" (fH K)from g6) ah (aa (pv 1) ae))) (ag ah)) (ag (aB (Ae T) hr T.oz (aa (pv 0) (aa (pv 2) (aa (aB (BW T) hr T.oq (aa (pv 0) ae)) ae)))))))) gq)
     (bf (bS 4 ki.nd (bF (ai (ag ah) (ai (ag ah) (ai (ag ah) (ai (ag ah) (ai (ag ah) aH aj) aj) aj) aj) aj)))
     (bf (bS 4 ki.nd (bK av (ag (pv 4)) (bF (ai (ag ah) (ai (ag ah) (ai (ag ah) aH aj) aj) aj))))
     (bf (bS 4 ki.nd (bK av (ag (pv 4)) (bF (ai (ag ah) aH aj))))
     (dI (eQ (jC dh (ag (pv 4)) (ag (aB (d7 T) hr T.dF (aa (pv 0) (aa (aD (show ao _ (.builtin "len") (a_ K)from bz) rfl T.z_len bo (aa (pv 4) ae)) ae)))) (λ_ _=>rfl)))))))))))))),?_⟩
 wtm_at "cl";rw[show start HY [x0]=[some x0,none,none,none,none]from rfl];obtain⟨p,k,rfl,hp,q⟩:=h;wtm_at "sq";refine bD ?_
 apply bq.go
 . wtm_at "pu"
 intro v1 H1 S1 i1;have i1:b8 H1 v1 gL:=i1;wtm_at "gn";have P1:=hp.same S1;wtm_at "gt";refine cW (by simp) (λl2 H2 n2 S2 e2=>?_);have P2:=P1.same S2;have i2:=i1.by S2;have m2:b8 H2 (.ref l2) (["worms","0","1/2","7/60"].map tx):=⟨l2,rfl,e2⟩;clear i1 P1 e2 n2 hp;wtm_at "gt";rename_i d H3 d0 d1 E3 K3 P3;have i3:=cH i2 P2 E3;obtain⟨l',e',g3⟩:=cH m2 P2 E3;cases e';have X3:Exc p H H3:=(S1.trans S2).exc.trans E3;have Y3:aU H H3:=(S1.trans S2).keep.trans K3;clear i2 P2 m2 E3 K3 S1 S2;refine iu (.of g3) (λl4 H4 n4 S4 e4=>?_);rw[JI]at e4;have m4:b8 H4 (.ref l4) (dr (2+d)):=⟨l4,rfl,e4⟩;have i4:=i3.by S4;have P4:=P3.same S4;have X4:=X3.trans S4.exc;have Y4:=Y3.trans S4.keep;have n2':2<=2+d:=by omega
 have n4':2+d<=4:=by omega
 generalize 2+d=n at *;obtain⟨ml,my⟩:=OR n2' n4';have nm:=HB n2' n4';clear i3 P3 X3 Y3 S4 g3 e4 n4 d0 d1;wtm_at "gt";wtm_at "tl";wtm_at "gt";rename_i wy H5 w0 w1 E5 K5 P5;have i5:=cH i4 P4 E5;have m5:=cH m4 P4 E5;have X5:=X4.trans E5;have Y5:=Y4.trans K5;clear i4 m4 P4 X4 Y4 E5 K5;have done:∀x H',fA x=true->Exc p H5 H'->aU H5 H'->aQ H' p k->Q (.str x) H':=λx H' hx e1 e2 e3=>q x H' hx (X5.trans e1) (Y5.trans e2) e3
 clear q X5 Y5;have el:(dr n).length=n.toNat:=ml;have e1:(wq "\n").length=1:=by decide
 have e0:(wq " ").length=1:=by decide
 have hw:∀y∈gL,y.length<=10:=by rw[tJ];decide
 have hwl:gL.length=3:=by decide
 have mj:∀y∈dr n,y.length<=10:=λy hy=>vd (my y hy) (by decide)
 have mz:(dr n).length*10+(dr n).length*(wq " ").length<=16777216:=by rw[e0];omega
 k_few
 . obtain⟨l1,rfl,g1⟩:=i5
   obtain⟨l2,e2,g2⟩:=m5;cases e2;refine eI ?_;o_head jK (B:=10) (.of g1) hw (by decide) ?_;o_head eI ?_;o_head jK (B:=10) (.of g2) mj mz ?_;o_head cW (by show 2<=1000;decide) (λl7 H7 n7 S7 e7=>?_);k_few;have ok:=wv.mp Zp n nm;rw[wD]at ok;refine Jw (ls:=[vb " " gL,vb " " (dr n)]) ⟨l7,rfl,e7⟩ (P5.same S7) ok.1 (λi j H8 hi hj E8 K8 P8=>?_);have z:=wv.mp (wv.mp ok.2 i (vy.mpr hi)) j (vy.mpr hj);exact done _ _ z (S7.exc.trans E8) (S7.keep.trans K8) P8
 . refine AR P5 (λb H8 hb E8 K8 P8=>?_)
   o_head CM (ws:=gL) (cH i5 P5 E8) P8 (by omega) (by omega) (λy hy=>vd (hw y hy) (by decide)) (vd (HI hb) (by decide)) (λi H9 h1 h2 E9 K9 P9=>?_);obtain⟨l2,e2,g2⟩:=cH (cH m5 P5 E8) P8 E9;cases e2;have hi:i∈([1,2]:List Int):=by rw[hwl]at h2;simp;omega
   have hz:=Jq (wv.mp (wv.mp (wv.mp UC n nm) b hb) i hi);have hl:=Mk hz;rw[bY,bY,show(tx "\n").length=1 from e1]at hl;o_head .inr (.inr ⟨_,_,rfl,rfl,by rw[vB,e1];omega,?_⟩);o_head eI ?_;o_head jK (B:=10) (.of g2) mj mz ?_;refine .inr (.inr ⟨_,_,rfl,rfl,by rw[bY,vB,e1];omega,?_⟩);exact done _ _ hz (E8.trans E9) (K8.trans K9) P9
 . obtain⟨l1,rfl,g1⟩:=i5
   refine eI ?_;o_head jK (B:=10) (.of g1) hw (by decide) ?_;o_head .inr (.inr ⟨_,_,rfl,rfl,by decide,?_⟩);o_head AR P5 (λb H8 hb E8 K8 P8=>?_);o_head CM (ws:=dr n) (cH m5 P5 E8) P8 (by omega) (by omega) (λy hy=>vd (mj y hy) (by decide)) (vd (HI hb) (by decide)) (λi H9 h1 h2 E9 K9 P9=>?_);have hi:i∈([1,2,3]:List Int):=by simp;omega
   have hin:i<n:=by omega
   have hz:=wv.mp (wv.mp (wv.mp PR n nm) b hb) i hi;rw[decide_eq_true hin,W9,xX]at hz;have hz:=Jq hz;have hl:=Mk hz;rw[bY,bY]at hl;refine .inr (.inr ⟨_,_,rfl,rfl,by rw[bY,vB];exact vd hl (by decide),?_⟩);exact done _ _ hz (E8.trans E9) (K8.trans K9) P9
 . refine cW (by show 5<=1000;decide) (λl6 H6 n6 S6 e6=>?_)
   o_head cW (by show 3<=1000;decide) (λl7 H7 n7 S7 e7=>?_);refine jv (S7 _ _ e6) e7 (by decide) (λl8 H8 n8 S8 e8=>?_);o_head cW (by show 1<=1000;decide) (λl9 H9 n9 S9 e9=>?_);refine jv (S9 _ _ e8) e9 (by decide) (λl10 H10 n10 S10 e10=>?_);have i10:b8 H10 (.ref l10) lO:=⟨l10,rfl,e10⟩;have S:=S6.trans (S7.trans (S8.trans (S9.trans S10)));have P10:=P5.same S;k_few;obtain⟨l0,e0',g0⟩:=id i10;cases e0';refine⟨l10,_,rfl,.inl (.of g0),?_⟩;rw[wm,show lO.length=9 from by decide];clear S6 S7 S8 S9 S10 e6 e7 e8 e9 e10 n6 n7 n8 n9 n10 P5;k_few;rename_i j H11 j0 j1 E11 K11 P11;obtain⟨l',e',g⟩:=cH i10 P10 E11;cases e';obtain⟨j,rfl⟩:∃m:Nat,j=(m:Int):=⟨j.toNat,by omega⟩;have hj:j<lO.length:=by rw[show lO.length=9 from by decide];omega
   refine cG (.of g) (v:=.str lO[j]) (cP (by rw[wB,wb hj];rfl)) ?_;exact done _ _ (wv.mp YO _ (vn hj)) (S.exc.trans E11) (S.keep.trans K11) P11
def bE:List wn:=["worm 2 1 0","worm 3 0 2 60","tie 0 1 0","tie 0 1 4","tie 1 0 2"].map tx
def gK:List wn:=["01","+1","100","-1","x","","1/2","1.0","00","1_0"].map tx
def o_:List (List wn) :=
 [L2.cutD bE (some 2) none,L2.cutD bE none (some 2)++["tie 1 0 2","tie 0 1 0"].map tx,L2.cutD bE none (some 3)++[tx "tie 0 1 0"]]++[L2.cutD bE none (some 1)++L2.cutD bE (some 2) (some 3)++L2.cutD bE (some 1) (some 2)] ++
 [L2.cutD bE none (some 2)++[tx "tie 0 1"],L2.cutD bE none (some 2)++[tx "tie 0 1 0 0"],L2.cutD bE none (some 2)++[tx "tie"]]++[[tx "worm"]++L2.cutD bE (some 1) (some 2)] ++
 [bE++[tx "web"],bE++L2.cutD bE none (some 1),["worm 1 0","ties 0 1 0"].map tx,L2.cutD bE none (some 4)++L2.cutD bE (some 3) none]++[[tx "web 1 0"],["worm 0 0","tie 0 1 x"].map tx,["worm 1 61","worm 01 0"].map tx]
theorem nB:bE=[au [119,111,114,109,32,50,32,49,32,48],au [119,111,114,109,32,51,32,48,32,50,32,54,48],au [116,105,101,32,48,32,49,32,48],au [116,105,101,32,48,32,49,32,52],au [116,105,101,32,49,32,48,32,50]]:=by decide +kernel
theorem Ih:gK=[au [48,49],au [43,49],au [49,48,48],au [45,49],au [120],au [],au [49,47,50],au [49,46,48],au [48,48],au [49,95,48]]:=by decide +kernel
def gY(x:wn):Bool:=decide (eT x=1)&&x.cps.all (· < 128)&&decide (x.length<=300)
theorem zQ(x:wn):gY x=fZ (λL=>decide (nM L=1)) x.cps.toList:=by
 unfold gY fZ eT;rw[jy,nR,zev]
theorem Po:(mE bE&&(vf 5).all λi=>(vf 10).all λj=>gY (vb "\n" ((jL bE i (bE.getD i "")).getD j [])))=true:=by simp only[zQ,nB,lz,ky,ko];decide +kernel
theorem Ru:(vf 5).all (λi=>gK.all λb=>(vf 5).all λm=>!(decide (1<=m)&&decide (m<(wM (bE.getD i "") " ").length)) || (decide ((h_ (wM (bE.getD i "") " ") b m).length<=100)&&gY (vb "\n" (bE.set i (h_ (wM (bE.getD i "") " ") b m)))))=true:=by simp only[zQ,nB,Ih,h_,Ah,lz,ky,ko];decide +kernel
theorem Yl:o_.all (λr=>decide (r.length<=100)&&r.all (λy=>decide (y.length<=900))&&gY (vb "\n" r))=true:=by simp only[zQ,ky,ko];decide +kernel
theorem ZN:((vf 5).all λi=>decide (2<=(wM (bE.getD i "") " ").length)&&decide ((wM (bE.getD i "") " ").length<=5)&&(wM (bE.getD i "") " ").all λy=>decide (y.length<=5))=true:=by simp only[Ah,nB];decide +kernel
theorem zvd:gK.all (λb=>decide (b.length<=70))=true:=by rw[Ih];decide +kernel
def Gg(K:wa):Sp:=λvs H Q _=>∃x0,vs=[x0] /\ ∃(p:wd)(k:Int),x0=.ref p/\aQ H p k /\ ∀x H',gY x=true->Exc p H H'->aU H H'->aQ H' p k->Q (.str x) H'
theorem Oy{K:wa}{H:Hp}{Q:VK}{E:XK}{p:wd}{k:Int}(hp:aQ H p k)(q:∀x H',gY x=true->Exc p H H'->aU H H'->aQ H' p k->Q (.str x) H'):Gg K [.ref p] H Q E:=⟨_,rfl,p,k,rfl,hp,q⟩
theorem Px(T:Txt K mg a):aK P w K mg base bc 3 a.DU a.Dg pO (Gg K):=by
 refine T.Dm.F.ok gF ?_ ?_;wtm_at "b1"
 refine⟨_,(@gc.h _ _ _ (bf (bS 1 gF.nd (bF (ai (ag ah) (ai (ag ah) (ai (ag ah) (ai (ag ah) (ai (ag ah) aH aj) aj) aj) aj) aj)))
     (bf (bS 2 gF.nd (ag (aB (d7 T) hr T.dF (aa (pv 0) (aa ak ae)))))
     (bf (gx (bG (show ax _ (wQ .Eq) (cU K)from dO hu) (pv 2) ak (aV _)) (dI (eQ (ag (aB (JH T) hr T.yK (aa (pv 0) (aa (pv 1) ae)))))) gq)
     (bf (gx (bG (show ax _ (wQ .Eq) (cU K)from dO hu) (pv 2) ak (aV _)) (bf (bS 3 gF.nd (ag (aB (d7 T) hr T.dF (aa (pv 0) (aa (aD (show ao _ (.builtin "len") (a_ K)from bz) rfl T.z_len bo (aa (pv 1) ae)) ae)))))
     (bf (bS 4 gF.nd (jC dh (bF (ai (ag ah) (ai (ag ah) (ai (ag ah) (ai (ag ah) (ai (ag ah) (ai (ag ah) (ai (ag ah) (ai (ag ah) (ai (ag ah) (ai (ag ah) aH aj) aj) aj) aj) aj) aj) aj) aj) aj) aj)) (ag (aB (d7 T) hr T.dF (aa (pv 0) (aa ak ae)))) (λ_ _=>rfl)))
     (bf (Kd (Cq (aB (Ae T) hr T.oz (aa (pv 0) (aa (cQ va Wx Wy (show b_ _ "str.split" iz from jY) (gv dh (pv 1) (pv 3) (λ_ _=>rfl)) (aa ah ae)) (aa (pv 4) ae)))) (Ck (pv 1) (pv 3) Aa)))
     (dI (eQ (ag (cQ va vX vY (show b_ _ "str.join" (fH K)from g6) ah (aa (pv 1) ae)))))))) gq)
     (bf (bS 5 gF.nd (bF (ai (ag (br bB (pv 1) (bj ak) bN)) (ai (bK av (ag (br bB (pv 1) bN (bj ak))) (bF (ai (ag ah) (ai (ag ah) aH aj) aj))) (ai (bK av (ag (br bB (pv 1) bN (bj ak))) (bF (ai (jC dh (ag (pv 1)) (ag ak) (λ_ _=>rfl)) aH zr))) aH cS) cS) zr)))
     (bf (bS 5 gF.nd (bK av (ag (pv 5)) (bF (ai (bK av (bK av (ag (br bB (pv 1) bN (bj ak))) (ag (br bB (pv 1) (bj ak) (bj ak)))) (ag (br bB (pv 1) (bj ak) (bj ak)))) aH cS))))
     (bf (bS 5 gF.nd (bK av (ag (pv 5)) (bF (ai (bK av (ag (br bB (pv 1) bN (bj ak))) (bF (ai (ag ah) aH aj))) (ai (bK av (ag (br bB (pv 1) bN (bj ak))) (bF (ai (ag ah) aH aj))) (ai (bK av (ag (br bB (pv 1) bN (bj ak))) (bF (ai (ag ah) aH aj))) aH cS) cS) cS))))
     (bf (bS 5 gF.nd (bK av (ag (pv 5)) (bF (ai (bK av (bF (ai (ag ah) aH aj)) (ag (br bB (pv 1) (bj ak) (bj ak)))) aH cS))))
     (bf (bS 5 gF.nd (bK av (ag (pv 5)) (bF (ai (bK av (ag (pv 1)) (bF (ai (ag ah) aH aj))) (ai (bK av (ag (pv 1)) (ag (br bB (pv 1) bN (bj ak)))) (ai (bF (ai (ag ah) (ai (ag ah) aH aj) aj)) (ai (bK av (ag (br bB (pv 1) bN (bj ak))) (ag (br bB (pv 1) (bj ak) bN))) aH cS) lV) cS) cS))))
     (bf (bS 5 gF.nd (bK av (ag (pv 5)) (bF (ai (bF (ai (ag ah) aH aj)) (ai (bF (ai (ag ah) (ai (ag ah) aH aj) aj)) (ai (bF (ai (ag ah) (ai (ag ah) aH aj) aj)) aH lV) lV) lV))))
     (dI (eQ (ag (cQ va vX vY (show b_ _ "str.join" (fH K)from g6) ah (aa (gv dh (pv 5) (aB (d7 T) hr T.dF (aa (pv 0) (aa (aD (show ao _ (.builtin "len") (a_ K)from bz) rfl T.z_len bo (aa (pv 5) ae)) ae))) (λ_ _=>rfl)) ae)))))))))))))))),?_⟩
 wtm_at "cl";rw[show start JX [x0]=[some x0,none,none,none,none,none]from rfl];obtain⟨p,k,rfl,hp,q⟩:=h;wtm_at "gt";refine cW (by show 5<=1000;decide) (λl1 H1 n1 S1 e1=>?_);have i1:b8 H1 (.ref l1) bE:=⟨l1,rfl,e1⟩;have P1:=hp.same S1;have np:=aQ.ne n1 hp;clear e1;wtm_at "gt";wtm_at "tl";wtm_at "gt";rename_i wy H2 w0 w1 E2 K2 P2;have i2:=cH i1 P1 E2;have done:∀x H',gY x=true->Exc p H2 H'->aU H2 H'->aQ H' p k->Q (.str x) H':=λx H' hx e1 e2 e3=>q x H' hx (S1.exc.trans (E2.trans e1)) (S1.keep.trans (K2.trans e2)) e3
 clear i1 P1 hp;have wl:=Po;rw[wD]at wl;have hl5:bE.length=5:=by decide
 wtm_at "tl";wtm_at "gt"
 . refine Jw i2 P2 wl.1 (λi j H8 hi hj E8 K8 P8=>?_)
   rw[hl5]at hi;have z:=wv.mp (wv.mp wl.2 i (vy.mpr hi)) j (vy.mpr hj);exact done _ _ z E8 K8 P8
 wtm_at "tl";wtm_at "gt"
 . obtain⟨l1',e1',g1⟩:=id i2
   cases e1';refine⟨l1,_,rfl,.inl (.of g1),?_⟩;rw[wm,hl5];k_few;rename_i i H3 i0 i1 E3 K3 P3;obtain⟨i,rfl⟩:∃m:Nat,i=(m:Int):=⟨i.toNat,by omega⟩;have hi:i<5:=by omega
   have hiw:i<bE.length:=by omega
   have i3:=cH i2 P2 E3;clear i2 g1;refine cW (by show 10<=1000;decide) (λl4 H4 n4 S4 e4=>?_);have b4:b8 H4 (.ref l4) gK:=⟨l4,rfl,e4⟩;have i4:=i3.by S4;have P4:=P3.same S4;clear i3 e4 n4;k_few;rename_i m H5 m0 m1 E5 K5 P5;obtain⟨m,rfl⟩:∃r:Nat,m=(r:Int):=⟨m.toNat,by omega⟩;have hm:m<gK.length:=by rw[show gK.length=10 from by decide];omega
   obtain⟨lb,eb,gb⟩:=cH b4 P4 E5;cases eb;have i5:=cH i4 P4 E5;have X5:=E3.trans (S4.exc.trans E5);have Y5:=K3.trans (S4.keep.trans K5);refine cG (.of gb) (v:=.str gK[m]) (cP (by rw[wB,wb hm];rfl)) ?_;have hb:gK[m]∈gK:=vn hm;have hbl:(gK[m]).length<=70:=of_decide_eq_true (wv.mp zvd _ hb);generalize gK[m]=b at *;clear b4 i4 P4 E3 K3 S4 E5 K5 gb m0 m1 hm P3;obtain⟨l1',e1',g5⟩:=id i5;cases e1';k_few;have ey:bE[i]? = some (bE.getD i ""):=by rw[wf,wb hiw];rfl
   refine cG (.of g5) (v:=.str (bE.getD i "")) (cP (by rw[wB,ey];rfl)) ?_;o_head eI ?_;k_few;have sz:=wv.mp ZN i (vy.mpr hi);simp only[wD,decide_eq_true_eq,wv]at sz;have ww:=wv.mp (wv.mp Ru i (vy.mpr hi)) b hb
   have yl:(bE.getD i "").length<=100:=by
     have:∀j,j<5->(bE.getD j "").length<=100:=by rw[nB];decide
     exact this i hi
   generalize bE.getD i ""=y at *;refine kr (by decide) (by rw[vB];omega) (by rw[vB];omega) (λl6 H6 n6 S6 e6=>?_);o_head CM (ws:=wM y " ") ⟨l6,rfl,e6⟩ (P5.same S6) sz.1.1 (by omega) (λz hz=>vd (sz.2 z hz) (by decide)) (by omega) (λc H7 c1 c2 E7 K7 P7=>?_);obtain⟨c,rfl⟩:∃r:Nat,c=(r:Int):=⟨c.toNat,by omega⟩;have wc:=wv.mp ww c (vy.mpr (by omega));rw[decide_eq_true (show 1<=c by omega),decide_eq_true (show c<(wM y " ").length by omega),wP,W9,xX,wD,decide_eq_true_eq]at wc;have X7:=X5.trans (S6.exc.trans E7);have Y7:=Y5.trans (S6.keep.trans K7);obtain⟨l1',e1',g7⟩:=cH (i5.by S6) (P5.same S6) E7;cases e1';k_few;have hix:∀j:Nat,j<5->gJ (bE.map V.str).length (j:Int)=some j:=by decide
   refine HJ g7 (hix i hi) (λH8 E8 e8=>?_);have e8:H8 l1=some (.lst ((bE.set i (h_ (wM y " ") b c)).map V.str)):=by rw[List.map_set];exact e8
   have X:Exc p H H8:=λb' o hb' h=>E8 b' o (gN h n1) ((S1.exc.trans (E2.trans X7)) b' o hb' h)
   have Y:aU H H8:=(S1.keep.trans (K2.trans Y7)).trans (E8.keep g7);have P8:=P7.exc E8 np.symm;o_head eI ?_;o_head jK (B:=100) (.of e8) (λz hz=>?_) ?_ ?_
   . rcases List.mem_or_eq_of_mem_set hz with hz | rfl
     . have:∀z∈bE,z.length<=100:=by rw[nB];decide
       exact this z hz
     . exact wc.1
   . rw[xn,hl5];decide
   . exact q _ _ wc.2 X Y P8
 . wtm_at "tl"
   wtm_at "sq";refine bD ?_
   apply dA.go
   . wtm_at "pu"
   intro v3 H3 S3 i3;wtm_at "gn";wtm_at "sq";refine bD ?_
   apply dA.go
   . wtm_at "pu"
   intro v4 H4 S4 i4;clear i3;wtm_at "gn";wtm_at "sq";refine bD ?_
   apply dA.go
   . wtm_at "pu"
   intro v5 H5 S5 i5;clear i4;wtm_at "gn";wtm_at "sq";refine bD ?_
   apply dA.go
   . wtm_at "pu"
   intro v6 H6 S6 i6;clear i5;wtm_at "gn";wtm_at "sq";refine bD ?_
   apply dA.go
   . wtm_at "pu"
   intro v7 H7 S7 i7;clear i6;wtm_at "gn";wtm_at "sq";refine bD ?_
   apply dA.go
   . wtm_at "pu"
   intro v8 H8 S8 i8;clear i7;wtm_at "gn";have S:=S3.trans (S4.trans (S5.trans (S6.trans (S7.trans S8))));have i8:ib H8 v8 o_:=i8;have P8:=P2.same S;have hlen:o_.length=15:=rfl;obtain⟨l8,vs,rfl,g8,a8⟩:=id i8;clear S3 S4 S5 S6 S7 S8 i2 P2;o_head eI ?_;o_head ⟨l8,_,rfl,.inl (.of g8),?_⟩;rw[a8.len,hlen];k_few;rename_i j H9 j0 j1 E9 K9 P9;obtain⟨l',vs',e',g9,a9⟩:=Lc i8 P8 E9;cases e';obtain⟨j,rfl⟩:∃n:Nat,j=(n:Int):=⟨j.toNat,by omega⟩;have hj:j<o_.length:=by rw[hlen];omega
   obtain⟨u,hu1,hu2⟩:=a9.get (wb hj);obtain⟨lu,rfl,gu⟩:=hu2;have ws:=wv.mp Yl _ (vn hj);simp only[wD,decide_eq_true_eq,wv]at ws;refine cG (.of g9) (cP hu1) ?_;o_head jK (.of gu) ws.1.2 (by rw[show(wq "\n").length=1 from by decide];have:=ws.1.1;omega) ?_;exact done _ _ ws.2 (S.exc.trans E9) (S.keep.trans K9) P9
def cu:wn:=tx "0 : 0 1/2 : 3 1; 1/2 : 0 0 : one"
def mI(b:wn):List wn :=
 [b++tx " : 0 1/2 : one",tx "0 : "++b++tx " : one",tx "0 : 0 "++b++tx " : 1 1; 1 : 0 0 : one",tx ""]
def pf:List wn:=[tx "one"]++[tx "0 : 0 1/2 : 3 1",tx "0 : 0 1/2 : one; 1/2 : 0 0 : one",cu++tx ";",cu++tx "; ",tx " "++cu]++[cu++tx " "] ++
 ["0 : 0 1/2 : 31 1; 1 : 0 0 : one","0 : 0 1/2 : 1 41; 1 : 0 0 : one"].map tx++["0 : 0 1/2 : 3; 1 : 0 0 : one"].map tx++["0 : 0 1/2 : 3 1 1; 1 : 0 0 : one","0 : 0 1/2 : 03 1; 1 : 0 0 : one"].map tx++["0 : 0 1/2 : -1 1; 1 : 0 0 : one"].map tx ++
 ["0 : 0 1/2 : two","0 : 0 1/2 : One","0 : 0 1/2","0 : one","0 0 1/2 : one","0 :  : one"].map tx++["0 : : one"].map tx++[fk (cu.length+1) cu "; " ";",fk 1 cu " : " ": ",fk 1 cu " : " ":"]++[fk (cu.length+1) cu "; " "\n"] ++
 [cu++tx " : one",fk 1 cu " " "  ",tx "0 : 0 1/2 : x 1; 1 : 0 0 : one",tx "; "++cu]++["0 : 0  1 : one"].map tx
def AE(b:wn):List wn:=mI b++[tx "one"]++[tx "0 : 0 1/2 : 3 1",tx "0 : 0 1/2 : one; 1/2 : 0 0 : one",cu++tx ";",cu++tx "; ",tx " "++cu]++[cu++tx " "] ++
 ["0 : 0 1/2 : 31 1; 1 : 0 0 : one","0 : 0 1/2 : 1 41; 1 : 0 0 : one"].map tx++["0 : 0 1/2 : 3; 1 : 0 0 : one"].map tx++["0 : 0 1/2 : 3 1 1; 1 : 0 0 : one","0 : 0 1/2 : 03 1; 1 : 0 0 : one"].map tx++["0 : 0 1/2 : -1 1; 1 : 0 0 : one"].map tx ++
 ["0 : 0 1/2 : two","0 : 0 1/2 : One","0 : 0 1/2","0 : one","0 0 1/2 : one","0 :  : one"].map tx++["0 : : one"].map tx++[fk (cu.length+1) cu "; " ";",fk 1 cu " : " ": ",fk 1 cu " : " ":"]++[fk (cu.length+1) cu "; " "\n"] ++
 [cu++tx " : one",fk 1 cu " " "  ",tx "0 : 0 1/2 : x 1; 1 : 0 0 : one",tx "; "++cu]++["0 : 0  1 : one"].map tx
theorem U_(b:wn):AE b=mI b++pf:=by simp only[AE,pf,V5]
def kj(x:wn):Bool:=!kn x&&x.cps.all (· < 128)&&decide (x.length<=300)
def CC:wn:=Qm "9" 61
def Au:wn:=Qm "7" 61
def lT(x y:wn):Bool:=!(vE y x 0 y.length 1).isEmpty
def pw:List wn:=[au [48,49],au [43,49],au [49,47,49],au [50,47,52],au [49,47,48],au [45,48],au [48,47,53],au [49,47,45,50],au [45,45,49],au [120],au [],au [49,46,53],au [49,47,47,50],au [49,47,50,47,51],au [47,50],au [49,47],au [48,48],au [49,47,48,50],au [45],au [49,95,48],au [45,49,47,49],au [48,120,49]]
theorem zv8:eX.all (λb=>lT CC b || lT Au b || pw.contains b)=true:=by rw[lB];decide +kernel
theorem IU:pw.contains (tx "1/0")=true:=by decide +kernel
theorem PL:pf.all kj=true:=by decide +kernel
theorem R1:wq " : 0 1/2 : one"=au [32,58,32,48,32,49,47,50,32,58,32,111,110,101]:=by decide +kernel
theorem zzJ:wq "0 : "=au [48,32,58,32]:=by decide +kernel
theorem Ob:wq " : one"=au [32,58,32,111,110,101]:=by decide +kernel
theorem RZ:wq "0 : 0 "=au [48,32,58,32,48,32]:=by decide +kernel
theorem OC:wq " : 1 1; 1 : 0 0 : one"=au [32,58,32,49,32,49,59,32,49,32,58,32,48,32,48,32,58,32,111,110,101]:=by decide +kernel
theorem zx4:pw.all (λb=>decide (b.length<=10)&&(mI b).all kj)=true:=by simp only[mI,tx,R1,zzJ,Ob,RZ,OC];decide +kernel
def Lp(K:wa):Sp:=λvs H Q _=>∃x0,vs=[x0] /\ ∃(p:wd)(k:Int),x0=.ref p/\aQ H p k /\ ∀x H',kj x=true->Exc p H H'->aU H H'->aQ H' p k->Q (.str x) H'
theorem UD{K:wa}{H:Hp}{Q:VK}{E:XK}{p:wd}{k:Int}(hp:aQ H p k)(q:∀x H',kj x=true->Exc p H H'->aU H H'->aQ H' p k->Q (.str x) H'):Lp K [.ref p] H Q E:=⟨_,rfl,p,k,rfl,hp,q⟩
theorem Ys(T:Txt K mg a):aK P w K mg base bc 3 a.Dl a.C5 rZ (Lp K):=by
 refine T.C9.F.ok dQ ?_ ?_;wtm_at "b1"
 refine⟨_,(Ie (J8 (i:=1) dQ.nd rfl (Or.inl rfl) JN)
     (cX (PS.p (aX 2 dQ.nd (aB (BW T) hr T.oq (aa (pv 0) ae))))
     (cX (PS.p (bI (PW.pt (cv (bG (show ax _ (wQ .In) mK from Bv) (aw (show ax _ (vT .Mult) lA from yd) ah ak) (pv 2) (by with_unfolding_all rfl)) (cY (bG (show ax _ (wQ .In) mK from Bv) (aw (show ax _ (vT .Mult) lA from yd) ah ak) (pv 2) (by with_unfolding_all rfl))))) (aA (aX 2 dQ.nd ah)) bH))
     (cX (PS.p (aX 3 dQ.nd (bL (by exact(@aa _ _ _ _ _ (aw av (pv 2) ah) (@aa _ _ _ _ _ (aw av (aw av ah (pv 2)) ah) (@aa _ _ _ _ _ (aw av (aw av ah (pv 2)) ah) (@aa _ _ _ _ _ ah ae aj) cS) cS) cS)))))
     (cX (PS.p (aX 3 dQ.nd (aw av (pv 3) (bL (aa ah ae)))))
     (cX (PS.p (aX 3 dQ.nd (aw av (pv 3) (bL (by exact(@aa _ _ _ _ _ ah (@aa _ _ _ _ _ ah (@aa _ _ _ _ _ (aw av (pv 1) ah) (@aa _ _ _ _ _ (aw av (pv 1) ah) (@aa _ _ _ _ _ (aw av ah (pv 1)) ae cS) cS) cS) aj) aj))))))
     (cX (PS.p (aX 3 dQ.nd (aw av (pv 3) (bL (aa (aw av (pv 1) ah) ae)))))
     (cX (PS.p (aX 3 dQ.nd (aw av (pv 3) (bL (aa ah (aa ah ae))))))
     (cX (PS.p (aX 3 dQ.nd (aw av (pv 3) (bL (aa ah ae)))))
     (cX (PS.p (aX 3 dQ.nd (aw av (pv 3) (bL (aa ah (aa ah ae))))))
     (cX (PS.p (aX 3 dQ.nd (aw av (pv 3) (bL (aa ah ae)))))
     (cX (PS.p (aX 3 dQ.nd (aw av (pv 3) (bL (by exact(@aa _ _ _ _ _ ah (@aa _ _ _ _ _ ah (@aa _ _ _ _ _ ah (@aa _ _ _ _ _ ah (@aa _ _ _ _ _ ah (@aa _ _ _ _ _ ah ae aj) aj) aj) aj) aj) aj))))))
     (cX (PS.p (aX 3 dQ.nd (aw av (pv 3) (bL (aa ah ae)))))
     (cX (p4 (i:=3) dQ.nd rfl (Or.inl rfl) (lH av (PE.p (pv 3)) (nO (iq (Ge (pv 1)) (iq (tV (pv 1)) (iq (tV (pv 1)) (PA.p ae)))))))
     (cX (p4 (i:=3) dQ.nd rfl (Or.inl rfl) (lH av (PE.p (pv 3)) (nO (iq (Ge (pv 1)) (PA.p ae)))))
     (cX (p4 (i:=3) dQ.nd rfl (Or.inl rfl) (lH av (PE.p (pv 3)) (nO (iq (PE.p (aw av (pv 1) ah)) (iq (tV (pv 1)) (iq (PE.p ah) (iq (PE.p (aw av ah (pv 1))) (PA.p ae))))))))
     (cX (PS.p (aX 3 dQ.nd (aw av (pv 3) (bL (aa ah ae)))))
     (cV.p (aA (aG (gv dh (pv 3) (aB (d7 T) hr T.dF (aa (pv 0) (aa (aD (show ao _ (.builtin "len") (a_ K)from bz) rfl T.z_len bo (aa (pv 3) ae)) ae))) (λ_ _=>rfl)))))))))))))))))))))),?_⟩
 wtm_at "cl";rw[show start Iw [x0]=[some x0,none,none,none]from rfl];obtain⟨p,k,rfl,hp,q⟩:=h;wtm_at "gt";wtm_at "tl";wtm_at "gt";refine AR hp (λb H1 hb E1 Y1 P1=>?_);have ob:=wv.mp zv8 b hb;wtm_at "gt";wtm_at "tl";wtm_at "sq"
 have fin:∀b':wn,pw.contains b'=true->tl_ {nx:=λx H'=>Q V.bM H',rt:=Q} [some (.ref p),some (.str cu),some (.str b'),none] H1:=λb' hb'=>by
   have pb:=wv.mp zx4 b' (by simpa using hb');rw[wD,decide_eq_true_eq]at pb;obtain⟨b10,pb⟩:=pb;have z1:(wq " : 0 1/2 : one").length=14:=by decide
   have z2:(wq "0 : ").length=4:=by decide
   have z3:(wq " : one").length=6:=by decide
   have z4:(wq "0 : 0 ").length=6:=by decide
   have z5:(wq " : 1 1; 1 : 0 0 : one").length=21:=by decide
   wtm_at "tl";wtm_at "sq";refine bD ?_
   apply bq.go
   . wtm_at "pu"
   intro v0 K0 S0 i0;wtm_at "gn";wtm_at "sq";refine bD ?_
   apply bq.go
   . wtm_at "pu"
   intro v1 K1 S1 i1;clear i0;wtm_at "gn";wtm_at "sq";refine bD ?_
   apply bq.go
   . wtm_at "pu"
   intro v2 K2 S2 i2;clear i1;wtm_at "gn";wtm_at "sq";refine bD ?_
   apply bq.go
   . wtm_at "pu"
   intro v3 K3 S3 i3;clear i2;wtm_at "gn";wtm_at "sq";refine bD ?_
   apply bq.go
   . wtm_at "pu"
   intro v4 K4 S4 i4;clear i3;wtm_at "gn";wtm_at "sq";refine bD ?_
   apply bq.go
   . wtm_at "pu"
   intro v5 K5 S5 i5;clear i4;wtm_at "gn";wtm_at "sq";refine bD ?_
   apply bq.go
   . wtm_at "pu"
   intro v6 K6 S6 i6;clear i5;wtm_at "gn";wtm_at "sq";refine bD ?_
   apply bq.go
   . wtm_at "pu"
   intro v7 K7 S7 i7;clear i6;wtm_at "gn";wtm_at "sq";refine bD ?_
   apply bq.go
   . wtm_at "pu"
   intro v8 K8 S8 i8;clear i7;wtm_at "gn";wtm_at "sq";refine bD ?_
   apply bq.go
   . wtm_at "pu"
   intro v9 K9 S9 i9;clear i8;wtm_at "gn";wtm_at "sq";refine bD ?_
   apply bq.go
   . wtm_at "pu"
   intro v10 K10 S10 i10;clear i9;wtm_at "gn";wtm_at "sq";refine bD ?_
   apply bq.go
   . wtm_at "pu"
   intro v11 K11 S11 i11;clear i10;wtm_at "gn";wtm_at "sq";refine bD ?_
   apply bq.go
   . wtm_at "pu"
   intro v12 K12 S12 i12;clear i11;wtm_at "gn";wtm_at "sq";refine bD ?_
   apply bq.go
   . wtm_at "pu"
   intro v13 K13 S13 i13;clear i12;wtm_at "gn";have i13:b8 K13 v13 (AE b'):=i13;rw[U_]at i13;have S:=S0.trans (S1.trans (S2.trans (S3.trans (S4.trans (S5.trans (S6.trans (S7.trans (S8.trans (S9.trans (S10.trans (S11.trans (S12.trans S13))))))))))));have P13:=P1.same S;clear S0 S1 S2 S3 S4 S5 S6 S7 S8 S9 S10 S11 S12 S13;o_head pQ i13 ?_;rw[show(mI b'++pf).length=33 from rfl];k_few;rename_i j H14 j0 j1 E14 K14 P14;refine rl (cH i13 P13 E14) j0 j1 (λx hx=>?_)
   have hz:kj x=true:=by
     rcases Wf.mp hx with hx | hx
     . exact wv.mp pb x hx
     . exact wv.mp PL x hx
   exact q x _ hz (E1.trans (S.exc.trans E14)) (Y1.trans (S.keep.trans K14)) P14
 wtm_at "gt";refine⟨_,_,rfl,rfl,by decide,by decide,by decide,?_⟩;wtm_at "gt";refine A3 ?_;rw[show(!(vE b (Qm (wq "9") 61) 0 b.length 1).isEmpty)=lT CC b from rfl];cases h9:lT CC b with
 | true =>
   wtm_at "gt";exact fin _ IU
 | false =>
   wtm_at "gt";refine⟨_,_,rfl,rfl,by decide,by decide,by decide,?_⟩;wtm_at "gt";refine A3 ?_;rw[show(!(vE b (Qm (wq "7") 61) 0 b.length 1).isEmpty)=lT Au b from rfl];cases h7:lT Au b with
   | true =>
     wtm_at "gt";exact fin _ IU
   | false =>
     wtm_at "gt";exact fin b (by rw[h9,h7]at ob;simpa using ob)
def mO:List wn:=["5 1/4","0 1","1/2 1/4","1 -1/4","3/2 2","10/9 1/2","3/2 1/13","-1 1","3/2 5/4"].map tx
def nu:List wn:=["1","0 3/2","-1/2","1/61","0 0 0 0 0 0 0 0 0","1/2 7/5","0 -1","1/2 1/90"].map tx
def sj:List wn:=[tx "worm 0 0",tx "worm 61 "++vb " " (w6 61 [tx "0"]).flatten,tx "worm 2 1",tx "worm 2 1 1 1",tx "worm 1 61"]++[tx "worm 1 0\ntie 0 0 1"]++[tx "worm 1 0\ntie 0 1 0",tx "worm 1 0\nworm 1 0\ntie 0 1 5",tx "worm 1 0\nworm 1 0\ntie 2 1 0"]++[vb "\n" (w6 9 [tx "worm 1 0"]).flatten,tx "worm 1 0\nworm 3 0 0"]
def kq(n:Nat)(x:wn):Bool:=decide (cR x=n)&&x.cps.all (· < 128)&&decide (x.length<=300)
def nW(n:Nat)(x:wn):Bool:=decide (eT x=n)&&x.cps.all (· < 128)&&decide (x.length<=300)
theorem Bl(n:Nat)(x:wn):kq n x=fZ (λL=>decide (kY L=n)) x.cps.toList:=by
 unfold kq fZ cR;rw[jy,AI,nR,zev]
theorem zx0(n:Nat)(x:wn):nW n x=fZ (λL=>decide (nM L=n)) x.cps.toList:=by
 unfold nW fZ eT;rw[jy,nR,zev]
theorem A1:mO=[au [53,32,49,47,52],au [48,32,49],au [49,47,50,32,49,47,52],au [49,32,45,49,47,52],au [51,47,50,32,50],au [49,48,47,57,32,49,47,50],au [51,47,50,32,49,47,49,51],au [45,49,32,49],au [51,47,50,32,53,47,52]]:=by decide +kernel
theorem zq:nu=[au [49],au [48,32,51,47,50],au [45,49,47,50],au [49,47,54,49],au [48,32,48,32,48,32,48,32,48,32,48,32,48,32,48,32,48],au [49,47,50,32,55,47,53],au [48,32,45,49],au [49,47,50,32,49,47,57,48]]:=by decide +kernel
theorem y9:wq "rule "=au [114,117,108,101,32]:=by decide +kernel
theorem Ab:wq "\nworms 0 1/2"=au [10,119,111,114,109,115,32,48,32,49,47,50]:=by decide +kernel
theorem zO:wq "\nworms "=au [10,119,111,114,109,115,32]:=by decide +kernel
theorem BH:wq "rule 3/2 1/4\nworms "=au [114,117,108,101,32,51,47,50,32,49,47,52,10,119,111,114,109,115,32]:=by decide +kernel
theorem U0:mO.all (λr=>kq 2 (tx "rule "++r++tx "\nworms 0 1/2"))=true:=by simp only[Bl,A1,zq,tx,y9,Ab,zO,BH,cx];decide +kernel
theorem zuo:mO.all (λr=>nu.all λw=>kq 2 (tx "rule "++r++tx "\nworms "++w))=true:=by simp only[Bl,A1,zq,tx,y9,Ab,zO,BH,cx];decide +kernel
theorem Tu:nu.all (λw=>kq 3 (tx "rule 3/2 1/4\nworms "++w))=true:=by simp only[Bl,A1,zq,tx,y9,Ab,zO,BH,cx];decide +kernel
theorem zwl:sj.all (λw=>nW 2 w)=true:=by simp only[sj,xz,WI,xg,zx0,tx,cx,ko,lz,ky];decide +kernel
def fi(K:wa)(a:Ad)(H:Hp)(v:V):Prop:=∃t f x d,v=.ref t/\H t=some (.tup [.ref f,.str x,.str d])/\(∀H',je K a H' f (.str x) d)/\vJ d=true
def Gx(K:wa)(a:Ad):Sp:=λvs H Q _=>∃x0,vs=[x0] /\ ∃(p:wd)(k:Int),x0=.ref p/\aQ H p k /\ ∀v H',fi K a H' v->Exc p H H'->aU H H'->aQ H' p k->Q v H'
theorem zht{K:wa}{a:Ad}{H:Hp}{Q:VK}{E:XK}{p:wd}{k:Int}(hp:aQ H p k)(q:∀v H',fi K a H' v->Exc p H H'->aU H H'->aQ H' p k->Q v H'):Gx K a [.ref p] H Q E:=⟨_,rfl,p,k,rfl,hp,q⟩
theorem Bh{n:Nat}{x:wn}(h:kq n x=true):cR x=n/\bQ x/\x.length<=300:=by
 unfold kq at h;simp only[wD,decide_eq_true_eq]at h;exact⟨h.1.1,h.1.2,h.2⟩
theorem SM{n:Nat}{x:wn}(h:nW n x=true):eT x=n/\bQ x/\x.length<=300:=by
 unfold nW at h;simp only[wD,decide_eq_true_eq]at h;exact⟨h.1.1,h.1.2,h.2⟩
theorem zhW(T:Txt K mg a):aK P w K mg base bc 8 a.Dh a.CW rK (Gx K a):=by
 refine T.CZ.F.ok iG ?_ ?_;wtm_at "b1"
 refine⟨_,(@gc.h _ _ _ (bf (bS 1 iG.nd (bF (ai (ag ah) (ai (ag ah) (ai (ag ah) (ai (ag ah) (ai (ag ah) (ai (ag ah) (ai (ag ah) (ai (ag ah) (ai (ag ah) aH aj) aj) aj) aj) aj) aj) aj) aj) aj)))
     (bf (bS 2 iG.nd (bF (ai (ag ah) (ai (ag ah) (ai (ag ah) (ai (ag ah) (ai (ag ah) (ai (ag ah) (ai (ag ah) (ai (ag ah) aH aj) aj) aj) aj) aj) aj) aj) aj)))
     (bf (bS 3 iG.nd (jC dh (ag (pv 1)) (ag (aB (d7 T) hr T.dF (aa (pv 0) (aa (aD (show ao _ (.builtin "len") (a_ K)from bz) rfl T.z_len bo (aa (pv 1) ae)) ae)))) (λ_ _=>rfl)))
     (bf (bS 4 iG.nd (jC dh (ag (pv 2)) (ag (aB (d7 T) hr T.dF (aa (pv 0) (aa (aD (show ao _ (.builtin "len") (a_ K)from bz) rfl T.z_len bo (aa (pv 2) ae)) ae)))) (λ_ _=>rfl)))
     (bf (bS 5 iG.nd (ag (aB (d7 T) hr T.dF (aa (pv 0) (aa ak ae)))))
     (bf (gx (bG (show ax _ (wQ .Eq) (cU K)from dO hu) (pv 5) ak (aV _)) (dI (eQ (cp (ai (ag (b7 (v:=.ref a.fh) rfl T.iL.g rfl)) (ai (bK av (bK av (ag ah) (ag (pv 3))) (ag ah)) (ai (ag ah) aH aj) cS) fY)))) gq)
     (bf (gx (bG (show ax _ (wQ .Eq) (cU K)from dO hu) (pv 5) ak (aV _)) (dI (eQ (cp (ai (ag (b7 (v:=.ref a.fh) rfl T.iL.g rfl)) (ai (bK av (bK av (bK av (ag ah) (ag (pv 3))) (ag ah)) (ag (pv 4))) (ai (ag ah) aH aj) cS) fY)))) gq)
     (bf (gx (bG (show ax _ (wQ .Eq) (cU K)from dO hu) (pv 5) ak (aV _)) (dI (eQ (cp (ai (ag (b7 (v:=.ref a.fh) rfl T.iL.g rfl)) (ai (bK av (ag ah) (ag (pv 4))) (ai (ag ah) aH aj) cS) fY)))) gq)
     (bf (bS 6 iG.nd (bF (ai (ag ah) (ai (bK av (ag ah) (ag (cQ va vX vY (show b_ _ "str.join" (fH K)from g6) ah (aa (aw (show ax _ (vT .Mult) j4 from yn) (bL (aa ah ae)) ak) ae)))) (ai (ag ah) (ai (ag ah) (ai (ag ah) aH aj) aj) aj) cS) aj)))
     (bf (bS 6 iG.nd (bK av (ag (pv 6)) (bF (ai (ag ah) aH aj))))
     (bf (bS 6 iG.nd (bK av (ag (pv 6)) (bF (ai (ag ah) (ai (ag ah) (ai (ag ah) aH aj) aj) aj))))
     (bf (bS 6 iG.nd (bK av (ag (pv 6)) (bF (ai (ag (cQ va vX vY (show b_ _ "str.join" (fH K)from g6) ah (aa (aw (show ax _ (vT .Mult) j4 from yn) (bL (aa ah ae)) ak) ae))) (ai (ag ah) aH aj)))))
     (dI (eQ (cp (ai (ag (b7 (v:=.ref a.fK) rfl T.jQ.g rfl)) (ai (jC dh (ag (pv 6)) (ag (aB (d7 T) hr T.dF (aa (pv 0) (aa (aD (show ao _ (.builtin "len") (a_ K)from bz) rfl T.z_len bo (aa (pv 6) ae)) ae)))) (λ_ _=>rfl)) (ai (ag ah) aH aj) zr) fY))))))))))))))))),?_⟩
 wtm_at "cl";rw[show start J4 [x0]=[some x0,none,none,none,none,none,none]from rfl];obtain⟨p,k,rfl,hp,q⟩:=h;wtm_at "sq";refine bD ?_
 apply bq.go
 . wtm_at "pu"
 intro v1 H1 S1 i1;have i1:b8 H1 v1 mO:=i1;wtm_at "gn";wtm_at "sq";refine bD ?_
 apply bq.go
 . wtm_at "pu"
 intro v2 H2 S2 i2;have i2:b8 H2 v2 nu:=i2;wtm_at "gn";have r2:=i1.by S2;have P2:=hp.same (S1.trans S2);have X2:Exc p H H2:=(S1.trans S2).exc;have Y2:=(S1.trans S2).keep;clear i1 hp S1 S2;wtm_at "gt";refine pQ r2 ?_;rw[show mO.length=9 from by decide];wtm_at "gt";rename_i d H3 d0 d1 E3 K3 P3;refine rl (cH r2 P2 E3) d0 d1 (λr hr=>?_);have i3:=cH i2 P2 E3;have X3:=X2.trans E3;have Y3:=Y2.trans K3;clear i2 r2 P2 X2 Y2 E3 K3;wtm_at "gt";wtm_at "tl";wtm_at "gt";refine pQ i3 ?_;rw[show nu.length=8 from by decide];wtm_at "gt";rename_i d' H4 d0' d1' E4 K4 P4;refine rl (cH i3 P3 E4) d0' d1' (λw hw=>?_);have X4:=X3.trans E4;have Y4:=Y3.trans K4;clear i3 P3 X3 Y3 E4 K4;wtm_at "gt";wtm_at "tl";wtm_at "gt";rename_i wy H5 w0 w1 E5 K5 P5;have X5:=X4.trans E5;have Y5:=Y4.trans K5;clear P4 X4 Y4 E5 K5;wtm_at "tl";wtm_at "gt"
 . have z:=Bh (wv.mp U0 r hr)
   have hl:=z.2.2;rw[bY,bY]at hl;have hl:(wq "rule ").length+r.length+(wq "\nworms 0 1/2").length<=300:=hl;refine .inr (.inr ⟨_,_,rfl,rfl,by rw[vB];omega,?_⟩);wtm_at "gt";refine .inr (.inr ⟨_,_,rfl,rfl,by rw[bY,vB];omega,?_⟩);wtm_at "gt";refine d8 (by show 3<=1000;decide) (λt H6 n6 S6 e6=>?_);exact q _ _ ⟨t,_,_,_,rfl,e6,λ_=>.inr ⟨_,rfl,z.2.1,z.2.2,.inl ⟨rfl,.inr (.inl ⟨z.1,rfl⟩)⟩⟩,d4 _⟩ (X5.trans S6.exc) (Y5.trans S6.keep) (P5.same S6)
 wtm_at "tl";wtm_at "gt"
 . have z:=Bh (wv.mp (wv.mp zuo r hr) w hw)
   have hl:=z.2.2;rw[bY,bY,bY]at hl;have hl:(wq "rule ").length+r.length+(wq "\nworms ").length+w.length<=300:=hl;refine .inr (.inr ⟨_,_,rfl,rfl,by rw[vB];omega,?_⟩);wtm_at "gt";refine .inr (.inr ⟨_,_,rfl,rfl,by rw[bY,vB];omega,?_⟩);wtm_at "gt";refine .inr (.inr ⟨_,_,rfl,rfl,by rw[bY,bY,vB];omega,?_⟩);wtm_at "gt";refine d8 (by show 3<=1000;decide) (λt H6 n6 S6 e6=>?_);exact q _ _ ⟨t,_,_,_,rfl,e6,λ_=>.inr ⟨_,rfl,z.2.1,z.2.2,.inl ⟨rfl,.inr (.inl ⟨z.1,rfl⟩)⟩⟩,d4 _⟩ (X5.trans S6.exc) (Y5.trans S6.keep) (P5.same S6)
 wtm_at "tl";wtm_at "gt"
 . have z:=Bh (wv.mp Tu w hw)
   have hl:=z.2.2;rw[bY]at hl;refine .inr (.inr ⟨_,_,rfl,rfl,vd hl (by decide),?_⟩);wtm_at "gt";refine d8 (by show 3<=1000;decide) (λt H6 n6 S6 e6=>?_);exact q _ _ ⟨t,_,_,_,rfl,e6,λ_=>.inr ⟨_,rfl,z.2.1,z.2.2,.inl ⟨rfl,.inr (.inr ⟨z.1,rfl⟩)⟩⟩,d4 _⟩ (X5.trans S6.exc) (Y5.trans S6.keep) (P5.same S6)
 wtm_at "tl";wtm_at "sq";refine bD ?_
 apply bq.go
 . wtm_at "pu"
 intro v6 H6 S6 i6;wtm_at "gn";wtm_at "sq";refine bD ?_
 apply bq.go
 . wtm_at "pu"
 intro v7 H7 S7 i7;clear i6;wtm_at "gn";wtm_at "sq";refine bD ?_
 apply bq.go
 . wtm_at "pu"
 intro v8 H8 S8 i8;clear i7;wtm_at "gn";wtm_at "sq";refine bD ?_
 apply bq.go
 . wtm_at "pu"
 intro v9 H9 S9 i9;clear i8;wtm_at "gn";have i9:b8 H9 v9 sj:=i9;have S:=S6.trans (S7.trans (S8.trans S9));have P9:=P5.same S;clear S6 S7 S8 S9 P5;o_head pQ i9 ?_;rw[show sj.length=11 from by rfl];k_few;rename_i j H10 j0 j1 E10 K10 P10;refine rl (cH i9 P9 E10) j0 j1 (λx hx=>?_);have z:=SM (wv.mp zwl x hx);o_head d8 (by show 3<=1000;decide) (λt H11 n11 S11 e11=>?_);exact q _ _ ⟨t,_,_,_,rfl,e11,λ_=>.inr ⟨_,rfl,z.2.1,z.2.2,.inr (.inl ⟨rfl,.inr ⟨z.1,rfl⟩⟩)⟩,d4 _⟩ (X5.trans (S.exc.trans (E10.trans S11.exc))) (Y5.trans (S.keep.trans (K10.trans S11.keep))) (P10.same S11)
theorem fi.keep{K:wa}{a:Ad}{H H':Hp}{v:V}(s:aU H H')(h:fi K a H v):fi K a H' v:=by
 obtain⟨t,f,x,d,e,g,c,o⟩:=h;exact⟨t,f,x,d,e,s.t _ _ g,c,o⟩
def mw(K:wa)(a:Ad)(H:Hp)(v:V):Prop:=∃t f w d,v=.ref t/\H t=some (.tup [.ref f,w,.str d])/\je K a H f w d/\vJ d=true
theorem fi.here{K:wa}{a:Ad}{H:Hp}{v:V}(h:fi K a H v):mw K a H v:=by
 obtain⟨t,f,x,d,e,g,c,o⟩:=h;exact⟨t,f,_,d,e,g,c H,o⟩
theorem mw.by{K:wa}{a:Ad}{H H':Hp}{v:V}(s:af H H')(h:mw K a H v):mw K a H' v:=by
 obtain⟨t,f,w,d,e,g,c,o⟩:=h;exact⟨t,f,w,d,e,s _ _ g,c.by s,o⟩
theorem zv2{K:wa}{a:Ad}{H:Hp}{t:wd}{x:wn}(z:fA x=true)(e:H t=some (.tup [.ref a.fh,.str x,.str (wq "text")])):fi K a H (.ref t):=by
 unfold fA at z;simp only[wD,decide_eq_true_eq]at z;exact⟨t,_,x,_,rfl,e,λ_=>.inr ⟨x,rfl,z.1.2,z.2,.inl ⟨rfl,.inl ⟨z.1.1,rfl⟩⟩⟩,d4 _⟩
theorem zvQ{K:wa}{a:Ad}{H:Hp}{t:wd}{x:wn}(z:gY x=true)(e:H t=some (.tup [.ref a.fK,.str x,.str (wq "text")])):fi K a H (.ref t):=by
 unfold gY at z;simp only[wD,decide_eq_true_eq]at z;exact⟨t,_,x,_,rfl,e,λ_=>.inr ⟨x,rfl,z.1.2,z.2,.inr (.inl ⟨rfl,.inl ⟨z.1.1,rfl⟩⟩)⟩,d4 _⟩
theorem Uo{K:wa}{a:Ad}{H:Hp}{t:wd}{x:wn}(z:kj x=true)(e:H t=some (.tup [.ref a.gm,.str x,.str (wq "text")])):fi K a H (.ref t):=by
 unfold kj at z;simp only[wD,decide_eq_true_eq,Vo]at z;exact⟨t,_,x,_,rfl,e,λ_=>.inr ⟨x,rfl,z.1.2,z.2,.inr (.inr ⟨rfl,z.1.1,rfl⟩)⟩,d4 _⟩
def mX:wn:=tx "rule 3/2 1/4\nworms 0 1/2 7/60"
def kU:wn:=tx "worm 2 1 0\nworm 1 60\ntie 0 1 4"
def lD:wn:=tx "0 : 0 1/2 : 30 40; -1/2 : 0 0 : one"
theorem zvm:cj mX=[[tx "rule",tx "3/2",tx "1/4"],[tx "worms",tx "0",tx "1/2",tx "7/60"]]:=by rw[jy];decide +kernel
theorem zvp:[ig (tx "3/2"),ig (tx "1/4"),ig (tx "0"),ig (tx "1/2"),ig (tx "7/60")]=[(⟨3,2,by decide,by decide⟩:Rat),⟨1,4,by decide,by decide⟩,⟨0,1,by decide,by decide⟩,⟨1,2,by decide,by decide⟩,⟨7,60,by decide,by decide⟩]:=by decide +kernel
def kP:wu:=.tuple [.tuple [.tuple [.int 3,.int 2],.tuple [.int 1,.int 4]],.tuple [.tuple [.int 0,.int 1],.tuple [.int 1,.int 2],.tuple [.int 7,.int 60]]]
theorem Sz:sF (aR (tx "3/2")) (aR (tx "1/4")) ([tx "0",tx "1/2",tx "7/60"].map aR)=kP:=by
 have h:=zvp;simp only[List.cons.injEq,and_true]at h;simp only[wU,WG,HZ,h.1,h.2.1,h.2.2.1,h.2.2.2.1,h.2.2.2.2]
 rfl
theorem Tn:(bh (cj kU),d9 (cj kU))=([[2,1,0],[1,60]],[[0,1,4]]):=by rw[jy];decide +kernel
def mB:wu:=.tuple [.tuple [.int 2,.int 1],.tuple [.tuple [.int 1,.int 0],.tuple [.int 60]],.tuple [.tuple [.int 0,.int 1,.int 4]]]
def B2:wu:=.tuple [.tuple [.int (-1),.int 2],.tuple [.tuple [.int 0,.int 1],.tuple [.int 0,.int 1]],.str (wq "one")]
theorem Te:(match ((fX lD).filterMap id)[1]? with
 | some r=>vV (cy r)&&Wm (cy r) B2
 | none=>false)=true:=by decide +kernel
theorem SX:jq [2,1] [[1,0],[60]] [[0,1,4]] :=
 ⟨by decide,by decide,by decide,rfl,by decide,by decide,λt ht=>by rw[vx.mp ht];exact⟨0,1,4,rfl,by decide,by decide,by decide,by decide⟩,by decide⟩
theorem mU:cR mX=0/\bQ mX/\mX.length<=900:=by rw[UJ];unfold bQ;decide +kernel
theorem tK:eT kU=0/\bQ kU/\kU.length<=900:=by unfold eT;rw[jy];unfold bQ;decide +kernel
theorem A6:kn lD=true/\bQ lD/\lD.length<=300:=by unfold bQ;decide +kernel
def tI(K:wa):Sp:=λvs H Q _=>∃x0,vs=[x0] /\ ∃(a:wd)(ns:List Int),x0=.ref a/\jk K H a (ns.map V.int)/\ns.length<=63 /\ ∀H',Q (.bl true) H'
theorem Pl(T:Txt K mg a):aK P w K mg base bc 9 a.law a.Fh pC (tI K):=by
 refine T.NS.F.ok iC ?_ ?_;wtm_at "b1"
 refine⟨_,(@gc.h _ _ _ (bf (Kq xw rfl (Oc rfl T.z_range (aa ak ae)) (bZ (i:=1) iC.nd rfl (Or.inl rfl)) (bf (bS 2 iC.nd (ag (aB (zoy T) hr T.Ez (aa (pv 0) (aa (pv 1) ae)))))
     (bf (bS 3 iC.nd (bF (ai (cp (ai (ag (b7 (v:=.ref a.fh) rfl T.iL.g rfl)) (ai (ag (aB (Zg T) hr T.C8 (aa (pv 2) ae))) (ai (ag ah) aH aj)) fY)) (ai (cp (ai (ag (b7 (v:=.ref a.fK) rfl T.jQ.g rfl)) (ai (ag (aB (Px T) hr T.Dm (aa (pv 2) ae))) (ai (ag ah) aH aj)) fY)) aH cZ) cZ)))
     (bf (bS 3 iC.nd (bK av (ag (pv 3)) (bF (ai (cp (ai (ag (b7 (v:=.ref a.gm) rfl T.kz.g rfl)) (ai (ag (aB (Ys T) hr T.C9 (aa (pv 2) ae))) (ai (ag ah) aH aj)) fY)) (ai (ag (aB (zhW T) hr T.CZ (aa (pv 2) ae))) aH) cZ))))
     (bf (bS 4 iC.nd (jC dh (bF (ai (ag Hy) (ai (ag ak) (ai (ag cK) (ai (bF (ai (ag ah) aH aj)) (ai (cp (ai (ag ah) aH aj)) (ai (ag TL) (ai (ag ak) (ai (bF aH) aH lV) aj)) cZ) lV) aj) aj) aj)) (ag (aB (d7 T) hr T.dF (aa (pv 2) (aa ak ae)))) (λ_ _=>rfl)))
     (bf (Kd (aX 3 iC.nd (aw av (pv 3) (cT rfl (bU.by (N':=["_law_reader","_law_thing"]) (src:=[none,some 4]) rfl (show cw _ (az oi).names Bn ["_law_reader","_law_thing"] [none,some 4]=true from by decide +kernel)) (fc (bL (aa (b7 (v:=.ref a.fh) rfl T.iL.g rfl) (aa (b7 (v:=.ref a.fK) rfl T.jQ.g rfl) (aa (b7 (v:=.ref a.gm) rfl T.kz.g rfl) ae))))) (λ_ _ _ _ _=>(bZ (i:=0) (show(["_law_reader","_law_thing"]:List Str).Nodup from by decide) rfl (Or.inl rfl))) (λ_ _ _ _ _=>cI) (λ_ _ _ _ _=>by exact(show PE _ _ (yF K _)from hJ (aa (pv 0) (aa (pv 1) (aa ah ae)))))))))
     (dI (Kq xw rfl (fc (pv 3)) (BK (n:=3) rfl (j_ (bZ (i:=5) iC.nd rfl (Or.inl rfl)) (j_ (bZ (i:=6) iC.nd rfl (Or.inl rfl)) (j_ (bZ (i:=7) iC.nd rfl (Or.inl rfl)) yZ)))) (dI (gx (bG (show ax _ (wQ .NotEq) (cM K)from dy hu) (aB (zl6 T) hr T.DO (aa (pv 5) (aa (pv 6) ae))) (pv 7) (aV _)) (dI (eQ (ag cK))) gq))))))))))
     (bf (gx (bG (show ax _ (wQ .NotEq) (cM K)from dy hu) (dM (JF T) hr T.iL z8 (aa ah ae)) (@WE.h _ _ _ (cp (ai (cp (ai (cp (ai (ag ak) (ai (ag ak) aH aj) aj)) (ai (cp (ai (ag ak) (ai (ag ak) aH aj) aj)) aH cZ) cZ)) (ai (cp (ai (cp (ai (ag ak) (ai (ag ak) aH aj) aj)) (ai (cp (ai (ag ak) (ai (ag ak) aH aj) aj)) (ai (cp (ai (ag ak) (ai (ag ak) aH aj) aj)) aH cZ) cZ) cZ)) aH cZ) cZ))) (aV _)) (dI (eQ (ag cK))) gq)
     (bf (gx (bG (show ax _ (wQ .NotEq) (cM K)from dy hu) (dM (II T) hr T.jQ z8 (aa ah ae)) (@WE.h _ _ _ (cp (ai (cp (ai (ag ak) (ai (ag ak) aH aj) aj)) (ai (cp (ai (cp (ai (ag ak) (ai (ag ak) aH aj) aj)) (ai (cp (ai (ag ak) aH aj)) aH cZ) cZ)) (ai (cp (ai (cp (ai (ag ak) (ai (ag ak) (ai (ag ak) aH aj) aj) aj)) aH cZ)) aH cZ) cZ) cZ))) (aV _)) (dI (eQ (ag cK))) gq)
     (dI (eQ (ag (dH (show ax _ (wQ .Eq) (cU K)from dO hu) (aJ (dM (GL T) hr T.kz z8 (aa ah ae))) (@WE.h _ _ _ (cp (ai (cp (ai (ag (yf pA ak)) (ai (ag ak) aH aj) Tj)) (ai (cp (ai (cp (ai (ag ak) (ai (ag ak) aH aj) aj)) (ai (cp (ai (ag ak) (ai (ag ak) aH aj) aj)) aH cZ) cZ)) (ai (ag ah) aH aj) cZ) cZ))) (aV _))))))))),?_⟩
 wtm_at "cl";rw[show start Bn [x0]=[some x0,none,none,none,none,none,none,none]from rfl];obtain⟨a',ns0,rfl,hs,hl,q⟩:=h;o_head Yv (n:=4) (by decide) (by decide) (λi σ H'=>(∃o1 o2 o3 o4 o5 o6 o7,σ = [some (.ref a'),o1,o2,o3,o4,o5,o6,o7])/\aU H H') ⟨⟨_,_,_,_,_,_,_,rfl⟩,aU.refl _⟩ ?_ ?_
 . rintro i σ H1 hi ⟨⟨o1,o2,o3,o4,o5,o6,o7,rfl⟩,K1⟩
   o_head zoR (K1.Kv hs) hl (by omega) (by simp at hi;omega) (λp H2 hp2 S2 P2=>?_);o_head YT P2 (λx1 H3 z1 E3 K3 P3=>?_);o_head d8 (by show 3<=1000;decide) (λt1 H4 n4 S4 e4=>?_);o_head Oy (P3.same S4) (λx2 H5 z2 E5 K5 P5=>?_);o_head d8 (by show 3<=1000;decide) (λt2 H6 n6 S6 e6=>?_);o_head cW (by show 2<=1000;decide) (λl7 H7 n7 S7 e7=>?_);have K07:aU H H7:=K1.trans (S2.keep.trans (K3.trans (S4.keep.trans (K5.trans (S6.keep.trans S7.keep)))));have c1:fi K a H7 (.ref t1):=(zv2 z1 e4).keep (K5.trans (S6.keep.trans S7.keep));have c2:fi K a H7 (.ref t2):=(zvQ z2 e6).keep S7.keep;have P7:=(P5.same S6).same S7;have np7:=aQ.ne n7 (P5.same S6);clear K1 S2 P2 hp2 E3 K3 P3 n4 S4 e4 E5 K5 P5 n6 S6 e6 n7 S7 z1 z2;o_head UD P7 (λx3 H8 z3 E8 K8 P8=>?_);o_head d8 (by show 3<=1000;decide) (λt3 H9 n9 S9 e9=>?_);o_head zht (P8.same S9) (λv4 H10 c10 E10 K10 P10=>?_);o_head cW (by show 2<=1000;decide) (λl11 H11 n11 S11 e11=>?_);have X711:Exc p H7 H11:=E8.trans (S9.exc.trans (E10.trans S11.exc));refine jv (X711 _ _ np7 e7) e11 (by show 2+2<=wC;decide) (λl12 H12 n12 S12 e12=>?_);have K712:aU H7 H12:=K8.trans (S9.keep.trans (K10.trans (S11.keep.trans S12.keep)));have P12:=(P10.same S11).same S12;have np12:=aQ.ne n12 (P10.same S11)
   have c:∀v∈[V.ref t1,.ref t2,.ref t3,v4],fi K a H12 v:=by
     intro v hv;simp only[wO,WH,or_false]at hv;rcases hv with rfl | rfl | rfl | rfl
     . exact c1.keep K712
     . exact c2.keep K712
     . exact(Uo z3 e9).keep (K10.trans (S11.keep.trans S12.keep))
     . exact c10.keep (S11.keep.trans S12.keep)
   have e12:H12 l12=some (.lst [V.ref t1,.ref t2,.ref t3,v4]):=e12;have K012:=K07.trans K712;clear K07 c1 c2 P7 np7 E8 K8 P8 n9 S9 e9 E10 K10 P10 n11 S11 e11 X711 n12 S12 K712 e7 c10 z3;o_head cW (by show 1<=1000;decide) (λla Ha na Sa ea=>?_);o_head d8 (by show 1<=1000;decide) (λtb Hb nb Sb eb=>?_);o_head LD (λtd Hd nd Sd ed=>?_);o_head cW (by show 0<=1000;decide) (λle He ne Se ee=>?_);o_head cW (by show 8<=1000;decide) (λlf Hf nf Sf ef=>?_);have Pa:=P12.same Sa;have Pb:=Pa.same Sb;have Pd:=Pb.same Sd;have Pe:=Pd.same Se;have Pf:=Pe.same Sf;have npa:=aQ.ne na P12;have npd:=aQ.ne nd Pb;have npe:=aQ.ne ne Pd;have npf:=aQ.ne nf Pe;have S12f:=Sa.trans (Sb.trans (Sd.trans (Se.trans Sf)));have fa:=(Sb.trans (Sd.trans (Se.trans Sf))) _ _ ea;have fb:=(Sd.trans (Se.trans Sf)) _ _ eb;have fd:=(Se.trans Sf) _ _ ed;have fe:=Sf _ _ ee;have f12:=S12f _ _ e12;clear ea eb ed ee e12 P12 Pa Pb Pd Pe Sa Sb Sd Se Sf na nb nd ne nf;k_few;rename_i j Hg j0 j1 Eg Kg Pg;have ga:=Eg _ _ npa fa;have gb:=Kg.t _ _ fb;have gd:=Eg _ _ npd fd;have ge:=Eg _ _ npe fe;have gf:=Eg _ _ npf ef;have g12:=Eg _ _ np12 f12;have cg:∀v∈[V.ref t1,.ref t2,.ref t3,v4],fi K a Hg v:=λv hv=>(c v hv).keep (S12f.keep.trans Kg)
   have K0g:=K012.trans (S12f.keep.trans Kg);obtain⟨j,rfl⟩:∃m:Nat,j=(m:Int):=⟨j.toNat,by omega⟩;have hj:j<8:=by omega
   obtain⟨w,hw,nw⟩:∃w,[V.bM,.int 5,.bl true,.ref la,.ref tb,.ref td,.int 0,.ref le][j]? = some w/\fT K Hg w:=by
     match j,hj with
     | 0,_=>exact⟨_,rfl,_,kg.mpr rfl,rfl⟩
     | 1,_=>exact⟨_,rfl,_,bR.mpr rfl,rfl⟩
     | 2,_=>exact⟨_,rfl,_,jZ.mpr rfl,rfl⟩
     | 3,_=>exact⟨_,rfl,.list [.str _],bO.mpr ⟨la,_,rfl,.of ga,.cons (dj.mpr rfl) .nil⟩,rfl⟩
     | 4,_=>exact⟨_,rfl,.tuple [.str _],bV.mpr ⟨tb,_,rfl,.of gb,.cons (dj.mpr rfl) .nil⟩,rfl⟩
     | 5,_=>exact⟨_,rfl,.dict [],nX.mpr ⟨td,_,rfl,gd⟩,rfl⟩
     | 6,_=>exact⟨_,rfl,_,bR.mpr rfl,rfl⟩
     | 7,_=>exact⟨_,rfl,.list [],bO.mpr ⟨le,_,rfl,.of ge,.nil⟩,rfl⟩
   refine cG (.of gf) (cP hw) ?_;clear c K012 S12f fa fb fd fe f12 ef Pf npa npd npe npf np12 Eg Kg Pg ga gb gd ge gf hw hj j0 j1;o_head cW (by show 3<=1000;decide) (λlh Hh nh Sh eh=>?_);o_head fu (.of eh) (o0:=none) (tl:=[some w]) rfl (λj y H'=>∃t f,y=.ref t/\[a.fh,a.fK,a.gm][j]? = some f/\H' t=some (.tup [.ref f,w,.str (wq "text")])) ?_ ?_
   . intro D j x ys o H' hx inv
     obtain⟨f,hf,rfl⟩:∃f,[a.fh,a.fK,a.gm][j]? = some f/\x=.ref f:=by
       match j,hx with
       | 0,hx=>cases hx;exact⟨_,rfl,rfl⟩
       | 1,hx=>cases hx;exact⟨_,rfl,rfl⟩
       | 2,hx=>cases hx;exact⟨_,rfl,rfl⟩
     have hj3:j<3:=(wX.mp hf).1;o_head d8 (by show 3<=1000;decide) (λt H'' n'' S'' e''=>?_);exact dE inv (by omega) (λ_ _ _ _ k h=>by obtain⟨t,f,h1,h2,h3⟩:=h;exact⟨t,f,h1,h2,k.t _ _ h3⟩) ⟨_,rfl⟩ S'' ⟨t,f,rfl,hf,e''⟩
   intro D ys Hi ni Si ei li ri;have e12i:=(Sh.trans Si) _ _ g12;refine jv e12i ei (by rw[li];show 4+3<=wC;decide) (λlk Hk nk Sk ek=>?_);have Sgk:=Sh.trans (Si.trans Sk)
   have all:∀v∈[V.ref t1,.ref t2,.ref t3,v4]++ys,mw K a Hk v:=by
     intro v hv;rcases Wf.mp hv with hv | hv
     . exact((cg v hv).keep Sgk.keep).here
     . obtain⟨m,hm,rfl⟩:=Qc.mp hv
       obtain⟨t,f,h1,h2,h3⟩:=ri m ys[m] (wb hm);refine⟨t,f,w,_,h1,Sk _ _ h3,.inl ⟨?_,nw.by Sgk,rfl⟩,d4 _⟩;have hf:=vz h2
       simpa using hf
   have K0k:=K0g.trans Sgk.keep;generalize [V.ref t1,.ref t2,.ref t3,v4]++ys=vs at *;clear cg K0g g12 eh nh Sh ei ni Si li ri e12i nk Sk Sgk nw;o_head V_ (.of ek) (λ_ σ H'=>(∃o5 o6 o7,σ = [some (.ref a'),some (.int (i:Int)),some (.ref p),some (.ref lk),some w,o5,o6,o7])/\af Hk H') ⟨⟨_,_,_,rfl⟩,af.refl _⟩ (λ_ σ H' _ h=>.of (h.2 _ _ ek)) ?_ ?_
   . rintro m v σ H' hv ⟨⟨o5,o6,o7,rfl⟩,S⟩
     obtain⟨t,f,w',d,rfl,g,c,o⟩:=(all v (vz hv)).by S;refine y8 (.of g) rfl ?_;o_head Ut c (λH'' S''=>?_);o_head yx o o ?_;rw[beq_self_eq_true];k_few;exact⟨⟨_,_,_,rfl⟩,S.trans S''⟩
   . rintro σ H' ⟨⟨o5,o6,o7,rfl⟩,S⟩
     exact⟨⟨_,_,_,_,_,_,_,rfl⟩,K0k.trans S.keep⟩
 . rintro σ H1 ⟨⟨o1,o2,o3,o4,o5,o6,o7,rfl⟩,K1⟩
   k_few;have no:∀{i j k:Nat},k=i->i≠j->∀{P:Prop},k=j->P:=λe1 n _ e2=>absurd (e1.symm.trans e2) n
   refine⟨_,rfl,.inr ⟨mX,rfl,mU.2.1,mU.2.2,no mU.1 (by decide),no mU.1 (by decide),no mU.1 (by decide),λ_=>⟨_,_,_,_,zvm,rfl,λv H2 S2 i2=>?_⟩⟩⟩;have i2:Is K H2 v kP:=by rw[<- Sz];exact i2
   wtm_at "ga";rename_i v' H3 S3 i3;refine yE (d:=kP) (e:=kP) (i2.by (by wtm_at "same")) i3 (by decide +kernel) (by decide +kernel) ?_;rw[show(!PyData.eqv kP kP)=false from by decide +kernel];clear i2 i3;k_few;have wr:=Tn;rw[uG]at wr;refine⟨_,rfl,.inr ⟨kU,rfl,tK.2.1,tK.2.2,no tK.1 (by decide),no tK.1 (by decide),λ_=>?_⟩⟩;rw[wr.1,wr.2];refine⟨SX,xj _ _,λv4 H4 S4 i4=>?_⟩;have i4:Is K H4 v4 mB:=i4;wtm_at "ga";rename_i v5 H5 S5 i5;refine yE (d:=mB) (e:=mB) (i4.by (by wtm_at "same")) i5 (by decide +kernel) (by decide +kernel) ?_;rw[show(!PyData.eqv mB mB)=false from by decide +kernel];clear i4 i5;o_head ⟨_,rfl,.inr ⟨lD,rfl,A6.2.1,A6.2.2,(λz=>by rw[A6.1]at z;cases z),λ_ v6 H6 S6 i6=>?_⟩⟩;have po:=Te;generalize (fX lD).filterMap id=rows at *;cases hr:rows[1]? with
   | none=>rw[hr]at po;cases po
   | some r =>
   rw[hr]at po;have po:(vV (cy r)&&Wm (cy r) B2)=true:=po;rw[wD]at po;obtain⟨l6,xs,rfl,sq,al⟩:=bO.mp i6;have len:=al.length;rw[wm]at len;have h1:1<xs.length:=by rw[len];exact(wX.mp hr).1
   have ix:=(dz al (wb h1)).2;rw[wf,wB,hr]at ix;have ix:Is K H6 xs[1] (cy r):=ix;o_head cG sq (cP (wb h1)) ?_;wtm_at "ga";rename_i v7 H7 S7 i7;refine L5 (d:=cy r) (e:=B2) (ix.by (by wtm_at "same")) i7 po.1 (by decide +kernel) ?_;rw[po.2];exact q _
end
theorem HU{us:List wg}(h:us.length=1):∃a,us=[a]:=by
 cases us with
 | nil=>cases h
 | cons a t=>exact⟨a,by rw[List.length_eq_zero_iff.mp (Xv h)]⟩
theorem Gv{us:List wg}(h:us.length=2):∃a0 a1,us=[a0,a1]:=by
 cases us with
 | nil=>cases h
 | cons a0 t =>
  obtain⟨a1,e⟩:=HU (Xv h);exact⟨a0,a1,by rw[e]⟩
theorem Sy{us:List wg}(h:us.length=3):∃a0 a1 a2,us=[a0,a1,a2]:=by
 cases us with
 | nil=>cases h
 | cons a0 t =>
  obtain⟨a1,a2,e⟩:=Gv (Xv h);exact⟨a0,a1,a2,by rw[e]⟩
inductive aS(K:wa)(n:Str)(st:vq)(f:wd):Prop
 | mk {od an:Option wd} {sl:Array (Option wg)} {oc kV dc pm cd ct:wg} (a:wY K wJ n=some (some (.ref f))) (l:K.lookup f=some ⟨oc,od,.func (VC n n (kW st) (jM st) (az st) .none kV dc pm an cd ct),sl⟩) (c:Qg K cd n=true) (k:Vy K (.ref f)=true):aS K n st f
theorem aS.dn{K:wa}{h:wK}{mg:Str->Option wg}{n:Str}{st:vq}{f:wd}{ps:List Str}(A:aS K n st f)(X:K.In h)(G:h.Ns wJ mg)
  (b:∀(kV doc pm:wg)(an:Option wd)(cdv ct:wg)(us:List wg),us.length=ps.length->bindArgs (VC n n (kW st) (jM st) (az st) .none kV doc pm an cdv ct) ⟨us,[]⟩=pure (ps.zip us)):∃fd,Dn K mg n st ps f fd:=by
 obtain⟨a,l,c,k⟩:=A;have F:=J6 (st:=st) l c k;exact⟨_,F,vj X G a,F.binds b⟩
set_option hygiene false in
local macro_rules | `(tactic| wtm_at "bd")=>`(tactic| (intro _ _ _ _ _ _ us hl; first | (obtain ⟨_,rfl⟩:=HU hl; rfl) | (obtain ⟨_,_,rfl⟩:=Gv hl; rfl) | (obtain ⟨_,_,_,rfl⟩:=Sy hl; rfl)))
set_option maxHeartbeats 8000000 in
theorem all_mk{l:xp}{w:wR}{K:wa}{h:wK}{mg:Str->Option wg}{fa:wd}(X:K.In h)(G:h.Ns wJ mg)(hfa:mg "law"=some (.ref fa))
  {f0 f1 f2 f3 f4 f5 f6 f7 f8 f9 f10 f11 f12 f13 f14 f15 f16 f17 f18 f19 f20 f21 f22 f23 f24 f25 f26 f27 f28 f29 f30 f31 f32 f33 f34 f35 f36 f37 f38 f39 f40 f41 f42 f43 f44 f45 f46 f47 f48:wd}
  {e0:wd}
  {e1:wd}
  {e2:wd}
  {e3:wd}
  {e4:wd}
  {e5:wd}
  {e6:wd}
  {e7:wd}
  {e8:wd}
  {e9:wd}
  {g0:wd} {gn0:Nat} {gd0:Option wd} {gs0:Array (Option wg)} {tk0_0 tk0_1:Tok}
  {g1:wd} {gn1:Nat} {gd1:Option wd} {gs1:Array (Option wg)} {tk1_0 tk1_1:Tok}
  {g2:wd} {gn2:Nat} {gd2:Option wd} {gs2:Array (Option wg)} {tk2_0 tk2_1:Tok}
  {tk3:Tok}
  {tk4:Tok}
  {tk5:Tok}
  {tk6:Tok}
  {tk7:Tok}
  {tk8:Tok}
  {g9:wd} {gn9:Nat} {gd9:Option wd} {gs9:Array (Option wg)} {tk9_0 tk9_1 tk9_2:Tok}
  {tk10:Tok}
  {tk11:Tok}
  {tk12:Tok}
  {tk13:Tok}
  {tk14:Tok}
  {tk15:Tok}
  {tk16:Tok}
  {tk17:Tok}
  (a0:aS K "is_whole" BZ f0)
  (a1:aS K "is_whole_from" Am f1)
  (a2:aS K "greatest_divisor" CL f2)
  (a3:aS K "is_number" B1 f3)
  (a4:aS K "plus" zo f4)
  (a5:aS K "less" A7 f5)
  (a6:aS K "is_factor" Ai f6)
  (a7:aS K "is_shift" Cf f7)
  (a8:aS K "make_rule" Ao f8)
  (a9:aS K "is_rule" An f9)
  (a10:aS K "is_phase" B3 f10)
  (a11:aS K "are_phases" pB f11)
  (a12:aS K "swarm_of" Cr f12)
  (a13:aS K "has_stand" sS f13)
  (a14:aS K "is_row" Bu f14)
  (a15:aS K "is_last_row" BF f15)
  (a16:aS K "is_paper" tq f16)
  (a17:aS K "is_listed" AH f17)
  (a18:aS K "are_whole_from" pj f18)
  (a19:aS K "are_rounds" CA f19)
  (a20:aS K "are_ups" p_ f20)
  (a21:aS K "is_tie" zg f21)
  (a22:aS K "are_ties" mM f22)
  (a23:aS K "web_of" mH f23)
  (a24:aS K "show_number" AO f24)
  (a25:aS K "is_whole_text" rB f25)
  (a26:aS K "number_in" z_ f26)
  (a27:aS K "is_number_text" tR f27)
  (a28:aS K "wholes_in" mW f28)
  (a29:aS K "numbers_in" nS f29)
  (a30:aS K "parts_of" zm f30)
  (a31:aS K "lines_of" rm f31)
  (a32:aS K "read_swarm" CB f32)
  (a33:aS K "lines_with" pI f33)
  (a34:aS K "are_ties_in_order" mS f34)
  (a35:aS K "read_web" lU f35)
  (a36:aS K "row_in" AV f36)
  (a37:aS K "read_paper" sV f37)
  (a38:aS K "_law_pen" Co f38)
  (a39:aS K "_law_draw" BO f39)
  (a40:aS K "_law_class" Ct f40)
  (a41:aS K "_law_with" Cc f41)
  (a42:aS K "_law_lined" Ap f42)
  (a43:aS K "_law_bad_number" zL f43)
  (a44:aS K "_law_bad_swarm" Br f44)
  (a45:aS K "_law_bad_web" zb f45)
  (a46:aS K "_law_bad_paper" zU f46)
  (a47:aS K "_law_bad_making" Ag f47)
  (a48:aS K "law" oi f48)
  (n_NoSwarm:wY K wJ "NoSwarm"=some (some (.ref e0)))
  (n_NoRule:wY K wJ "NoRule"=some (some (.ref e1)))
  (n_NoWeb:wY K wJ "NoWeb"=some (some (.ref e2)))
  (n_NoText:wY K wJ "NoText"=some (some (.ref e3)))
  (n_TooLong:wY K wJ "TooLong"=some (some (.ref e4)))
  (n_NoStand:wY K wJ "NoStand"=some (some (.ref e5)))
  (n_NoRow:wY K wJ "NoRow"=some (some (.ref e6)))
  (n_NoNumber:wY K wJ "NoNumber"=some (some (.ref e7)))
  (n_NoBack:wY K wJ "NoBack"=some (some (.ref e8)))
  (n_GlowError:wY K wJ "GlowError"=some (some (.ref e9)))
  (z_ValueError:wY K wJ "ValueError"=some none)
  (z_abs:wY K wJ "abs"=some none)
  (z_all:wY K wJ "all"=some none)
  (z_bool:wY K wJ "bool"=some none)
  (z_int:wY K wJ "int"=some none)
  (z_isinstance:wY K wJ "isinstance"=some none)
  (z_len:wY K wJ "len"=some none)
  (z_list:wY K wJ "list"=some none)
  (z_range:wY K wJ "range"=some none)
  (z_set:wY K wJ "set"=some none)
  (z_sorted:wY K wJ "sorted"=some none)
  (z_str:wY K wJ "str"=some none)
  (z_tuple:wY K wJ "tuple"=some none)
  (z_zip:wY K wJ "zip"=some none)
  (h_x_NoSwarm:WJ K e0 iX "ValueError.__new__"=true)
  (h_m_NoSwarm:WM K (.ref e0) (.ref e9)=some true)
  (h_e_NoSwarm:du K e0)
  (h_k_NoSwarm_NoSwarm:wt K (.ref e0) (.ref e0)=some true)
  (h_k_NoSwarm_NoRule:wt K (.ref e0) (.ref e1)=some false)
  (h_k_NoSwarm_NoWeb:wt K (.ref e0) (.ref e2)=some false)
  (h_k_NoSwarm_NoText:wt K (.ref e0) (.ref e3)=some false)
  (h_k_NoSwarm_TooLong:wt K (.ref e0) (.ref e4)=some false)
  (h_k_NoSwarm_NoStand:wt K (.ref e0) (.ref e5)=some false)
  (h_k_NoSwarm_NoRow:wt K (.ref e0) (.ref e6)=some false)
  (h_k_NoSwarm_NoNumber:wt K (.ref e0) (.ref e7)=some false)
  (h_k_NoSwarm_NoBack:wt K (.ref e0) (.ref e8)=some false)
  (h_v_NoSwarm:wt K (.ref e0) (.type "ValueError")=some true)
  (h_x_NoRule:WJ K e1 iX "ValueError.__new__"=true)
  (h_m_NoRule:WM K (.ref e1) (.ref e9)=some true)
  (h_e_NoRule:du K e1)
  (h_k_NoRule_NoSwarm:wt K (.ref e1) (.ref e0)=some false)
  (h_k_NoRule_NoRule:wt K (.ref e1) (.ref e1)=some true)
  (h_k_NoRule_NoWeb:wt K (.ref e1) (.ref e2)=some false)
  (h_k_NoRule_NoText:wt K (.ref e1) (.ref e3)=some false)
  (h_k_NoRule_TooLong:wt K (.ref e1) (.ref e4)=some false)
  (h_k_NoRule_NoStand:wt K (.ref e1) (.ref e5)=some false)
  (h_k_NoRule_NoRow:wt K (.ref e1) (.ref e6)=some false)
  (h_k_NoRule_NoNumber:wt K (.ref e1) (.ref e7)=some false)
  (h_k_NoRule_NoBack:wt K (.ref e1) (.ref e8)=some false)
  (h_v_NoRule:wt K (.ref e1) (.type "ValueError")=some true)
  (h_x_NoWeb:WJ K e2 iX "ValueError.__new__"=true)
  (h_m_NoWeb:WM K (.ref e2) (.ref e9)=some true)
  (h_e_NoWeb:du K e2)
  (h_k_NoWeb_NoSwarm:wt K (.ref e2) (.ref e0)=some false)
  (h_k_NoWeb_NoRule:wt K (.ref e2) (.ref e1)=some false)
  (h_k_NoWeb_NoWeb:wt K (.ref e2) (.ref e2)=some true)
  (h_k_NoWeb_NoText:wt K (.ref e2) (.ref e3)=some false)
  (h_k_NoWeb_TooLong:wt K (.ref e2) (.ref e4)=some false)
  (h_k_NoWeb_NoStand:wt K (.ref e2) (.ref e5)=some false)
  (h_k_NoWeb_NoRow:wt K (.ref e2) (.ref e6)=some false)
  (h_k_NoWeb_NoNumber:wt K (.ref e2) (.ref e7)=some false)
  (h_k_NoWeb_NoBack:wt K (.ref e2) (.ref e8)=some false)
  (h_v_NoWeb:wt K (.ref e2) (.type "ValueError")=some true)
  (h_x_NoText:WJ K e3 iX "ValueError.__new__"=true)
  (h_m_NoText:WM K (.ref e3) (.ref e9)=some true)
  (h_e_NoText:du K e3)
  (h_k_NoText_NoSwarm:wt K (.ref e3) (.ref e0)=some false)
  (h_k_NoText_NoRule:wt K (.ref e3) (.ref e1)=some false)
  (h_k_NoText_NoWeb:wt K (.ref e3) (.ref e2)=some false)
  (h_k_NoText_NoText:wt K (.ref e3) (.ref e3)=some true)
  (h_k_NoText_TooLong:wt K (.ref e3) (.ref e4)=some false)
  (h_k_NoText_NoStand:wt K (.ref e3) (.ref e5)=some false)
  (h_k_NoText_NoRow:wt K (.ref e3) (.ref e6)=some false)
  (h_k_NoText_NoNumber:wt K (.ref e3) (.ref e7)=some false)
  (h_k_NoText_NoBack:wt K (.ref e3) (.ref e8)=some false)
  (h_v_NoText:wt K (.ref e3) (.type "ValueError")=some true)
  (q0:wY K wJ "NOUGHT"=some (some (.ref g0)))
  (r0:K.lookup g0=some ⟨.type "tuple",gd0,.seq #[.int 0 tk0_0,.int 1 tk0_1] gn0,gs0⟩)
  (q1:wY K wJ "ONE"=some (some (.ref g1)))
  (r1:K.lookup g1=some ⟨.type "tuple",gd1,.seq #[.int 1 tk1_0,.int 1 tk1_1] gn1,gs1⟩)
  (q2:wY K wJ "GREATEST_FACTOR"=some (some (.ref g2)))
  (r2:K.lookup g2=some ⟨.type "tuple",gd2,.seq #[.int 4 tk2_0,.int 1 tk2_1] gn2,gs2⟩)
  (q3:wY K wJ "FACTOR_BOTTOM"=some (some (.int 8 tk3)))
  (q4:wY K wJ "SHIFT_BOTTOM"=some (some (.int 12 tk4)))
  (q5:wY K wJ "MOST_WORMS_swarms"=some (some (.int 8 tk5)))
  (q6:wY K wJ "PHASE_BOTTOM"=some (some (.int 60 tk6)))
  (q7:wY K wJ "MOST_FREE"=some (some (.int 30 tk7)))
  (q8:wY K wJ "MOST_GLOWS"=some (some (.int 40 tk8)))
  (q9:wY K wJ "WORDS"=some (some (.ref g9)))
  (r9:K.lookup g9=some ⟨.type "tuple",gd9,.seq #[.str "one" tk9_0,.str "rests" tk9_1,.str "drawn" tk9_2] gn9,gs9⟩)
  (q10:wY K wJ "MOST_WORMS_webs"=some (some (.int 8 tk10)))
  (q11:wY K wJ "MOST_ROUND"=some (some (.int 60 tk11)))
  (q12:wY K wJ "MOST_UP"=some (some (.int 60 tk12)))
  (q13:wY K wJ "MOST_TIES"=some (some (.int 60 tk13)))
  (q14:wY K wJ "MOST_DELAY"=some (some (.int 4 tk14)))
  (q15:wY K wJ "FIGURES"=some (some (.str "0123456789" tk15)))
  (q16:wY K wJ "NUMBER_FIGURES"=some (some (.int 60 tk16)))
  (q17:wY K wJ "WHOLE_FIGURES"=some (some (.int 2 tk17)))
  : ∃fd:wS,(∀(s:wo)(v:wg),BindsTo s fd ⟨[v],[]⟩ [("_law_script",v)]) /\ ∀base:wK,K.In base->base.Ns wJ mg->aK l.prog w K mg base bc 9 fa fd ["_law_script"] (tI K):=by
 obtain⟨aL,lL,cL,kL⟩:=a48;cases hfa.symm.trans (vj X G aL);have FL:=J6 (st:=oi) lL cL kL;have D48:Dn K mg _ _ pC _ _:=⟨FL,vj X G aL,FL.binds (by wtm_at "bd")⟩;have⟨_,D0⟩:=a0.dn (ps:=oK) X G (by wtm_at "bd");have⟨_,D1⟩:=a1.dn (ps:=oM) X G (by wtm_at "bd");have⟨_,D2⟩:=a2.dn (ps:=sr) X G (by wtm_at "bd");have⟨_,D3⟩:=a3.dn (ps:=ye) X G (by wtm_at "bd");have⟨_,D4⟩:=a4.dn (ps:=yo) X G (by wtm_at "bd");have⟨_,D5⟩:=a5.dn (ps:=rD) X G (by wtm_at "bd");have⟨_,D6⟩:=a6.dn (ps:=oY) X G (by wtm_at "bd");have⟨_,D7⟩:=a7.dn (ps:=tD) X G (by wtm_at "bd");have⟨_,D8⟩:=a8.dn (ps:=rS) X G (by wtm_at "bd");have⟨_,D9⟩:=a9.dn (ps:=sX) X G (by wtm_at "bd");have⟨_,D10⟩:=a10.dn (ps:=yb) X G (by wtm_at "bd");have⟨_,D11⟩:=a11.dn (ps:=yB) X G (by wtm_at "bd");have⟨_,D12⟩:=a12.dn (ps:=sU) X G (by wtm_at "bd");have⟨_,D13⟩:=a13.dn (ps:=tP) X G (by wtm_at "bd");have⟨_,D14⟩:=a14.dn (ps:=si) X G (by wtm_at "bd");have⟨_,D15⟩:=a15.dn (ps:=oU) X G (by wtm_at "bd");have⟨_,D16⟩:=a16.dn (ps:=sM) X G (by wtm_at "bd");have⟨_,D17⟩:=a17.dn (ps:=rY) X G (by wtm_at "bd");have⟨_,D18⟩:=a18.dn (ps:=oO) X G (by wtm_at "bd");have⟨_,D19⟩:=a19.dn (ps:=yu) X G (by wtm_at "bd");have⟨_,D20⟩:=a20.dn (ps:=q_) X G (by wtm_at "bd");have⟨_,D21⟩:=a21.dn (ps:=tL) X G (by wtm_at "bd");have⟨_,D22⟩:=a22.dn (ps:=yh) X G (by wtm_at "bd");have⟨_,D23⟩:=a23.dn (ps:=rF) X G (by wtm_at "bd");have⟨_,D24⟩:=a24.dn (ps:=pF) X G (by wtm_at "bd");have⟨_,D25⟩:=a25.dn (ps:=tf) X G (by wtm_at "bd")
 have⟨_,D26⟩:=a26.dn (ps:=pL) X G (by wtm_at "bd");have⟨_,D27⟩:=a27.dn (ps:=rP) X G (by wtm_at "bd");have⟨_,D28⟩:=a28.dn (ps:=oW) X G (by wtm_at "bd");have⟨_,D29⟩:=a29.dn (ps:=rQ) X G (by wtm_at "bd");have⟨_,D30⟩:=a30.dn (ps:=pD) X G (by wtm_at "bd");have⟨_,D31⟩:=a31.dn (ps:=yk) X G (by wtm_at "bd");have⟨_,D32⟩:=a32.dn (ps:=sI) X G (by wtm_at "bd");have⟨_,D33⟩:=a33.dn (ps:=rX) X G (by wtm_at "bd");have⟨_,D34⟩:=a34.dn (ps:=oN) X G (by wtm_at "bd");have⟨_,D35⟩:=a35.dn (ps:=tQ) X G (by wtm_at "bd");have⟨_,D36⟩:=a36.dn (ps:=ym) X G (by wtm_at "bd");have⟨_,D37⟩:=a37.dn (ps:=rO) X G (by wtm_at "bd");have⟨_,D38⟩:=a38.dn (ps:=pG) X G (by wtm_at "bd");have⟨_,D39⟩:=a39.dn (ps:=sQ) X G (by wtm_at "bd");have⟨_,D40⟩:=a40.dn (ps:=sN) X G (by wtm_at "bd");have⟨_,D41⟩:=a41.dn (ps:=rz) X G (by wtm_at "bd");have⟨_,D42⟩:=a42.dn (ps:=yC) X G (by wtm_at "bd");have⟨_,D43⟩:=a43.dn (ps:=pk) X G (by wtm_at "bd");have⟨_,D44⟩:=a44.dn (ps:=sD) X G (by wtm_at "bd");have⟨_,D45⟩:=a45.dn (ps:=pO) X G (by wtm_at "bd");have⟨_,D46⟩:=a46.dn (ps:=rZ) X G (by wtm_at "bd");have⟨_,D47⟩:=a47.dn (ps:=rK) X G (by wtm_at "bd")
 have T:Txt K mg ⟨f0,_,f1,_,f2,_,f3,_,f4,_,f5,_,f6,_,f7,_,f8,_,f9,_,f10,_,f11,_,f12,_,f13,_,f14,_,f15,_,f16,_,f17,_,f18,_,f19,_,f20,_,f21,_,f22,_,f23,_,f24,_,f25,_,f26,_,f27,_,f28,_,f29,_,f30,_,f31,_,f32,_,f33,_,f34,_,f35,_,f36,_,f37,_,f38,_,f39,_,f40,_,f41,_,f42,_,f43,_,f44,_,f45,_,f46,_,f47,_,_,_,e0,e1,e2,e3,e4,e5,e6,e7,e8,e9,g0,g1,g2,g9⟩:=⟨D0,
  D1,
  D2,
  D3,
  D4,
  D5,
  D6,
  D7,
  D8,
  D9,
  D10,
  D11,
  D12,
  D13,
  D14,
  D15,
  D16,
  D17,
  D18,
  D19,
  D20,
  D21,
  D22,
  D23,
  D24,
  D25,
  D26,
  D27,
  D28,
  D29,
  D30,
  D31,
  D32,
  D33,
  D34,
  D35,
  D36,
  D37,
  D38,
  D39,
  D40,
  D41,
  D42,
  D43,
  D44,
  D45,
  D46,
  D47,
  D48,
  vL X G z_ValueError,
  vL X G z_abs,
  vL X G z_all,
  vL X G z_bool,
  vL X G z_int,
  vL X G z_isinstance,
  vL X G z_len,
  vL X G z_list,
  vL X G z_range,
  vL X G z_set,
  vL X G z_sorted,
  vL X G z_str,
  vL X G z_tuple,
  vL X G z_zip,
  vj X G n_NoSwarm,
  vj X G n_NoRule,
  vj X G n_NoWeb,
  vj X G n_NoText,
  vj X G n_TooLong,
  vj X G n_NoStand,
  vj X G n_NoRow,
  vj X G n_NoNumber,
  vj X G n_NoBack,
  vj X G n_GlowError,
  h_x_NoSwarm,
  h_m_NoSwarm,
  h_e_NoSwarm,
  h_k_NoSwarm_NoSwarm,
  h_k_NoSwarm_NoRule,
  h_k_NoSwarm_NoWeb,
  h_k_NoSwarm_NoText,
  h_k_NoSwarm_TooLong,
  h_k_NoSwarm_NoStand,
  h_k_NoSwarm_NoRow,
  h_k_NoSwarm_NoNumber,
  h_k_NoSwarm_NoBack,
  h_v_NoSwarm,
  h_x_NoRule,
  h_m_NoRule,
  h_e_NoRule,
  h_k_NoRule_NoSwarm,
  h_k_NoRule_NoRule,
  h_k_NoRule_NoWeb,
  h_k_NoRule_NoText,
  h_k_NoRule_TooLong,
  h_k_NoRule_NoStand,
  h_k_NoRule_NoRow,
  h_k_NoRule_NoNumber,
  h_k_NoRule_NoBack,
  h_v_NoRule,
  h_x_NoWeb,
  h_m_NoWeb,
  h_e_NoWeb,
  h_k_NoWeb_NoSwarm,
  h_k_NoWeb_NoRule,
  h_k_NoWeb_NoWeb,
  h_k_NoWeb_NoText,
  h_k_NoWeb_TooLong,
  h_k_NoWeb_NoStand,
  h_k_NoWeb_NoRow,
  h_k_NoWeb_NoNumber,
  h_k_NoWeb_NoBack,
  h_v_NoWeb,
  h_x_NoText,
  h_m_NoText,
  h_e_NoText,
  h_k_NoText_NoSwarm,
  h_k_NoText_NoRule,
  h_k_NoText_NoWeb,
  h_k_NoText_NoText,
  h_k_NoText_TooLong,
  h_k_NoText_NoStand,
  h_k_NoText_NoRow,
  h_k_NoText_NoNumber,
  h_k_NoText_NoBack,
  h_v_NoText,
  vj X G q0,
  λH=>.inr ⟨_,_,_,r0,rfl,rfl,by simp;decide,(.cons ⟨_,rfl⟩ (.cons ⟨_,rfl⟩ .nil))⟩,
  vj X G q1,
  λH=>.inr ⟨_,_,_,r1,rfl,rfl,by simp;decide,(.cons ⟨_,rfl⟩ (.cons ⟨_,rfl⟩ .nil))⟩,
  vj X G q2,
  λH=>.inr ⟨_,_,_,r2,rfl,rfl,by simp;decide,(.cons ⟨_,rfl⟩ (.cons ⟨_,rfl⟩ .nil))⟩,
  ⟨_,vj X G q3⟩,
  ⟨_,vj X G q4⟩,
  ⟨_,vj X G q5⟩,
  ⟨_,vj X G q6⟩,
  ⟨_,vj X G q7⟩,
  ⟨_,vj X G q8⟩,
  vj X G q9,
  λH=>.inr ⟨_,_,_,r9,rfl,rfl,by simp;decide,(.cons ⟨_,rfl⟩ (.cons ⟨_,rfl⟩ (.cons ⟨_,rfl⟩ .nil)))⟩,
  ⟨_,vj X G q10⟩,
  ⟨_,vj X G q11⟩,
  ⟨_,vj X G q12⟩,
  ⟨_,vj X G q13⟩,
  ⟨_,vj X G q14⟩,
  ⟨_,vj X G q15⟩,
  ⟨_,vj X G q16⟩,
  ⟨_,vj X G q17⟩⟩
 exact⟨_,λs v=>.of_eq rfl,λbase _ _=>Pl T⟩
theorem walk{l:xp}{q:wV}{loose:List Str}{XP:(Str->Option wg)->wK->Prop}{YP:wR->wK->Prop}{d:DefRec}{K:Params->wa}(hn:l.most=some 63)(hdf:d.params.defaults=[])
  (hY:∀(w:wR)(h:wK),YP w h->(K w.params).In h)
  (F:∀(w:wR)(mg:Str->Option wg)(fa:wd)(h:wK),(K w.params).In h->h.Ns wJ mg->mg d.name=some (.ref fa) ->
   ∃fd:wS,(∀(s:wo)(u:wg),BindsTo s fd ⟨[u],[]⟩ [("_law_script",u)]) /\ ∀base:wK,(K w.params).In base->base.Ns wJ mg->aK l.prog w (K w.params) mg base bc 9 fa fd ["_law_script"] (tI (K w.params))) :
  uL q loose XP YP l.row.toRowW d [] (λf vs=>uh f vs) :=
 L2.NI (n:=63) (k:=9) (x:="_law_script") (CX:=λ_=>bc) (sp:=λw=>tI (K w.params)) hn (by decide) hdf ⟨rfl,by decide,by decide,rfl⟩ hY F (λ_ H a ns hl hO hS=>⟨.ref a,rfl,a,ns,rfl,zxv hO hS,hl,λ_=>rfl⟩) λ_ _ _ _ _ z=>z
end G
local macro_rules | `(tactic| wtm_at "fk")=>`(tactic| (refine' G.aS.mk ?a ?l ?c ?k; (case a=>k_is); (case l=>k_is); (case c=>k_is); (case k=>k_is)))
open PySem PySem.W PyProof.Rows
set_option maxRecDepth 100000 in
set_option maxHeartbeats 0 in
theorem PySem.Challenge.cw_glowflock_k58_texts_refused_holds : PySem.Challenge.rw_glowflock_k58_texts_refused.Holds := by
 w_on; refine GH.head ?_
 k_fill
 refine G.walk (l:=PySem.Challenge.rw_glowflock_k58_texts_refused) rfl rfl (fun w h Y=>PySem.W.kIn_of Y) ?F
 case F =>
   intro w mg fa h KX GG hmg;refine' G.all_mk KX GG hmg ?a0 ?a1 ?a2 ?a3 ?a4 ?a5 ?a6 ?a7 ?a8 ?a9 ?a10 ?a11 ?a12 ?a13 ?a14 ?a15 ?a16 ?a17 ?a18 ?a19 ?a20 ?a21 ?a22 ?a23 ?a24 ?a25 ?a26 ?a27 ?a28 ?a29 ?a30 ?a31 ?a32 ?a33 ?a34 ?a35 ?a36 ?a37 ?a38 ?a39 ?a40 ?a41 ?a42 ?a43 ?a44 ?a45 ?a46 ?a47 ?a48 ?n_NoSwarm ?n_NoRule ?n_NoWeb ?n_NoText ?n_TooLong ?n_NoStand ?n_NoRow ?n_NoNumber ?n_NoBack ?n_GlowError ?z_ValueError ?z_abs ?z_all ?z_bool ?z_int ?z_isinstance ?z_len ?z_list ?z_range ?z_set ?z_sorted ?z_str ?z_tuple ?z_zip ?h_x_NoSwarm ?h_m_NoSwarm ?h_e_NoSwarm ?h_k_NoSwarm_NoSwarm ?h_k_NoSwarm_NoRule ?h_k_NoSwarm_NoWeb ?h_k_NoSwarm_NoText ?h_k_NoSwarm_TooLong ?h_k_NoSwarm_NoStand ?h_k_NoSwarm_NoRow ?h_k_NoSwarm_NoNumber ?h_k_NoSwarm_NoBack ?h_v_NoSwarm ?h_x_NoRule ?h_m_NoRule ?h_e_NoRule ?h_k_NoRule_NoSwarm ?h_k_NoRule_NoRule ?h_k_NoRule_NoWeb ?h_k_NoRule_NoText ?h_k_NoRule_TooLong ?h_k_NoRule_NoStand ?h_k_NoRule_NoRow ?h_k_NoRule_NoNumber ?h_k_NoRule_NoBack ?h_v_NoRule ?h_x_NoWeb ?h_m_NoWeb ?h_e_NoWeb ?h_k_NoWeb_NoSwarm ?h_k_NoWeb_NoRule ?h_k_NoWeb_NoWeb ?h_k_NoWeb_NoText ?h_k_NoWeb_TooLong ?h_k_NoWeb_NoStand ?h_k_NoWeb_NoRow ?h_k_NoWeb_NoNumber ?h_k_NoWeb_NoBack ?h_v_NoWeb ?h_x_NoText ?h_m_NoText ?h_e_NoText ?h_k_NoText_NoSwarm ?h_k_NoText_NoRule ?h_k_NoText_NoWeb ?h_k_NoText_NoText ?h_k_NoText_TooLong ?h_k_NoText_NoStand ?h_k_NoText_NoRow ?h_k_NoText_NoNumber ?h_k_NoText_NoBack ?h_v_NoText ?q0 ?r0 ?q1 ?r1 ?q2 ?r2 ?q3 ?q4 ?q5 ?q6 ?q7 ?q8 ?q9 ?r9 ?q10 ?q11 ?q12 ?q13 ?q14 ?q15 ?q16 ?q17
   (case a0=>wtm_at "fk")
   (case a1=>wtm_at "fk")
   (case a2=>wtm_at "fk")
   (case a3=>wtm_at "fk")
   (case a4=>wtm_at "fk")
   (case a5=>wtm_at "fk")
   (case a6=>wtm_at "fk")
   (case a7=>wtm_at "fk")
   (case a8=>wtm_at "fk")
   (case a9=>wtm_at "fk")
   (case a10=>wtm_at "fk")
   (case a11=>wtm_at "fk")
   (case a12=>wtm_at "fk")
   (case a13=>wtm_at "fk")
   (case a14=>wtm_at "fk")
   (case a15=>wtm_at "fk")
   (case a16=>wtm_at "fk")
   (case a17=>wtm_at "fk")
   (case a18=>wtm_at "fk")
   (case a19=>wtm_at "fk")
   (case a20=>wtm_at "fk")
   (case a21=>wtm_at "fk")
   (case a22=>wtm_at "fk")
   (case a23=>wtm_at "fk")
   (case a24=>wtm_at "fk")
   (case a25=>wtm_at "fk")
   (case a26=>wtm_at "fk")
   (case a27=>wtm_at "fk")
   (case a28=>wtm_at "fk")
   (case a29=>wtm_at "fk")
   (case a30=>wtm_at "fk")
   (case a31=>wtm_at "fk")
   (case a32=>wtm_at "fk")
   (case a33=>wtm_at "fk")
   (case a34=>wtm_at "fk")
   (case a35=>wtm_at "fk")
   (case a36=>wtm_at "fk")
   (case a37=>wtm_at "fk")
   (case a38=>wtm_at "fk")
   (case a39=>wtm_at "fk")
   (case a40=>wtm_at "fk")
   (case a41=>wtm_at "fk")
   (case a42=>wtm_at "fk")
   (case a43=>wtm_at "fk")
   (case a44=>wtm_at "fk")
   (case a45=>wtm_at "fk")
   (case a46=>wtm_at "fk")
   (case a47=>wtm_at "fk")
   (case a48=>wtm_at "fk")
   (case n_NoSwarm=>k_is)
   (case n_NoRule=>k_is)
   (case n_NoWeb=>k_is)
   (case n_NoText=>k_is)
   (case n_TooLong=>k_is)
   (case n_NoStand=>k_is)
   (case n_NoRow=>k_is)
   (case n_NoNumber=>k_is)
   (case n_NoBack=>k_is)
   (case n_GlowError=>k_is)
   (case z_ValueError=>k_is)
   (case z_abs=>k_is)
   (case z_all=>k_is)
   (case z_bool=>k_is)
   (case z_int=>k_is)
   (case z_isinstance=>k_is)
   (case z_len=>k_is)
   (case z_list=>k_is)
   (case z_range=>k_is)
   (case z_set=>k_is)
   (case z_sorted=>k_is)
   (case z_str=>k_is)
   (case z_tuple=>k_is)
   (case z_zip=>k_is)
   (case h_x_NoSwarm=>k_exc)
   (case h_m_NoSwarm=>kts_exm)
   (case h_e_NoSwarm=>(refine L2.du.mk ?_ ?_ ?_ ?_ ?_ ?_ ?_ ?_ <;> first | k_is | (show PySem.W.isClsIn _ _ = true; k_is)))
   (case h_k_NoSwarm_NoSwarm=>kit_is)
   (case h_k_NoSwarm_NoRule=>kit_is)
   (case h_k_NoSwarm_NoWeb=>kit_is)
   (case h_k_NoSwarm_NoText=>kit_is)
   (case h_k_NoSwarm_TooLong=>kit_is)
   (case h_k_NoSwarm_NoStand=>kit_is)
   (case h_k_NoSwarm_NoRow=>kit_is)
   (case h_k_NoSwarm_NoNumber=>kit_is)
   (case h_k_NoSwarm_NoBack=>kit_is)
   (case h_v_NoSwarm=>kit_is)
   (case h_x_NoRule=>k_exc)
   (case h_m_NoRule=>kts_exm)
   (case h_e_NoRule=>(refine L2.du.mk ?_ ?_ ?_ ?_ ?_ ?_ ?_ ?_ <;> first | k_is | (show PySem.W.isClsIn _ _ = true; k_is)))
   (case h_k_NoRule_NoSwarm=>kit_is)
   (case h_k_NoRule_NoRule=>kit_is)
   (case h_k_NoRule_NoWeb=>kit_is)
   (case h_k_NoRule_NoText=>kit_is)
   (case h_k_NoRule_TooLong=>kit_is)
   (case h_k_NoRule_NoStand=>kit_is)
   (case h_k_NoRule_NoRow=>kit_is)
   (case h_k_NoRule_NoNumber=>kit_is)
   (case h_k_NoRule_NoBack=>kit_is)
   (case h_v_NoRule=>kit_is)
   (case h_x_NoWeb=>k_exc)
   (case h_m_NoWeb=>kts_exm)
   (case h_e_NoWeb=>(refine L2.du.mk ?_ ?_ ?_ ?_ ?_ ?_ ?_ ?_ <;> first | k_is | (show PySem.W.isClsIn _ _ = true; k_is)))
   (case h_k_NoWeb_NoSwarm=>kit_is)
   (case h_k_NoWeb_NoRule=>kit_is)
   (case h_k_NoWeb_NoWeb=>kit_is)
   (case h_k_NoWeb_NoText=>kit_is)
   (case h_k_NoWeb_TooLong=>kit_is)
   (case h_k_NoWeb_NoStand=>kit_is)
   (case h_k_NoWeb_NoRow=>kit_is)
   (case h_k_NoWeb_NoNumber=>kit_is)
   (case h_k_NoWeb_NoBack=>kit_is)
   (case h_v_NoWeb=>kit_is)
   (case h_x_NoText=>k_exc)
   (case h_m_NoText=>kts_exm)
   (case h_e_NoText=>(refine L2.du.mk ?_ ?_ ?_ ?_ ?_ ?_ ?_ ?_ <;> first | k_is | (show PySem.W.isClsIn _ _ = true; k_is)))
   (case h_k_NoText_NoSwarm=>kit_is)
   (case h_k_NoText_NoRule=>kit_is)
   (case h_k_NoText_NoWeb=>kit_is)
   (case h_k_NoText_NoText=>kit_is)
   (case h_k_NoText_TooLong=>kit_is)
   (case h_k_NoText_NoStand=>kit_is)
   (case h_k_NoText_NoRow=>kit_is)
   (case h_k_NoText_NoNumber=>kit_is)
   (case h_k_NoText_NoBack=>kit_is)
   (case h_v_NoText=>kit_is)
   (case q0=>k_is)
   (case r0=>k_is)
   (case q1=>k_is)
   (case r1=>k_is)
   (case q2=>k_is)
   (case r2=>k_is)
   (case q3=>k_is)
   (case q4=>k_is)
   (case q5=>k_is)
   (case q6=>k_is)
   (case q7=>k_is)
   (case q8=>k_is)
   (case q9=>k_is)
   (case r9=>k_is)
   (case q10=>k_is)
   (case q11=>k_is)
   (case q12=>k_is)
   (case q13=>k_is)
   (case q14=>k_is)
   (case q15=>k_is)
   (case q16=>k_is)
   (case q17=>k_is)
#print axioms PySem.Challenge.cw_glowflock_k58_texts_refused_holds
