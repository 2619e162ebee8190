import PyProof.Rows.All
import Wide.All
import OpenK.AllK
import Wide.FinOn
import Lean
import PyProof.EqAt
import PyProof.EqKinds
import PyProof.TupleCall
import PyProof.P3In
import PyProof.ReprRoads
import PyProof.MaxThree
import PyProof.Rows.SetFrom
import PyProof.SetRoads
import PyProof.Rows.TupDisplay
import PyProof.AttrMissHeap
import KE.KDictOf
import PyProof.Walks
import KE.KItemsList
import PySem.SetTable
import PyProof.TupleKey
import PyProof.SetKind
import PyProof.IsRules
import KE.KSortTup
import PyProof.FactsAll.set_1
import KE.KDictList
import PyProof.WalksMore
import PyProof.DictValues
import PyProof.DictWalks
import PySem.Challenge.RW_glowflock_k35_whole_rows_are_stands
set_option compiler.extract_closed false
set_option Elab.async false
set_option linter.all false
set_option maxRecDepth 100000
open Array renaming append_assoc->Xv,forIn_toList->Vt,getD->uN,getD_eq_getD_getElem?->vy,getElem?_eq_getElem->vS,getElem?_eq_none->Vp,getElem?_eq_some_iff->WV,getElem?_toList->Wu,length_toList->wJ,replicate->uO,size_map->u4,toList->Uk
open Bool renaming and_eq_true->wV,and_eq_true_iff->xY,and_false->QK,beq_eq_decide_eq->Qr,eq_iff_iff->vI,false_and->W1,false_eq_true->w6,false_ne_true->vC,not_eq_true->um,not_eq_true'->Vb,not_false->QE,not_true->Wr,true_and->Q0
open Classical renaming byContradiction->VU,not_not->qp
open False renaming elim->WU
open Int renaming dvd_mul_left->uf,dvd_mul_right->VI,dvd_trans->qE,ediv_eq_of_eq_mul_right->QQ,ediv_le_self->ug,ediv_mul_le->uU,emod_lt_of_pos->Qa,emod_nonneg->Qv,fdiv_eq_ediv_of_nonneg->VC,gcd->vB,gcd_comm->Xy,gcd_dvd_left->qA,gcd_dvd_right->Qi,gcd_pos_of_ne_zero_right->qu,gcd_zero_right->XH,mul_assoc->qc,mul_ediv_cancel_left->V1,mul_le_mul_of_nonneg_right->WG,mul_ne_zero->xw,mul_neg->X4,mul_nonneg->u7,mul_one->xC,mul_pos->vN,natAbs_ediv_le_natAbs->Q9,natAbs_mul->xQ,natCast_ediv->V2,natCast_mul->Vx,neg_dvd->X3,neg_one_mul->uE,one_mul->xF,pow_add->ua,pow_ne_zero->qf,pow_pos->X5,pow_succ->V3,pow_zero->Qw,sign_eq_neg_one_of_neg->QZ,sign_eq_one_of_pos->xE,toNat->xx,toNat_natCast->wP,zero_sub->XI
open List renaming Pairwise->QY,all_cons->Xh,all_eq_true->WI,all_map->XC,any_cons->QX,any_eq_true->ut,append_assoc->VG,append_nil->We,cons_append->ue,dropLast_concat_getLast->QG,dropLast_eq_take->xT,drop_eq_getElem_cons->qL,drop_eq_nil_of_le->xJ,drop_succ_cons->Qz,drop_zero->u0,eq_nil_of_length_eq_zero->Ve,ext_getElem->Vj,filterMap_cons->qH,filter_append->W5,filter_congr->vK,filter_cons->WY,filter_eq_nil_iff->xK,filter_eq_self->Xk,filter_filter->qX,find?_cons->uQ,find?_some->uR,flatten_cons->VF,foldl->uA,foldl_append->XQ,foldl_cons->uB,forIn_cons->qM,forIn_nil->QJ,getD_eq_getElem?_getD->wa,getElem?_append_left->vR,getElem?_append_right->vv,getElem?_cons_succ->xr,getElem?_drop->QR,getElem?_eq_getElem->wc,getElem?_eq_none->wL,getElem?_eq_some_iff->WE,getElem?_map->wx,getElem?_range->vQ,getElem?_replicate->xo,getElem?_set->VH,getElem?_set_ne->xZ,getElem?_set_self->xB,getElem?_take_of_lt->xg,getElem?_toArray->xV,getElem_drop->XS,getElem_map->Vk,getElem_mem->vJ,getElem_of_mem->wX,getElem_take->XR,length_append->wT,length_cons->vo,length_drop->vU,length_dropLast->Xf,length_eq_zero_iff->Qh,length_erase_of_mem->xl,length_filter_le->WH,length_map->wm,length_nil->xA,length_pos_iff->qa,length_pos_of_mem->qk,length_range->vk,length_replicate->Wt,length_set->Vw,length_singleton->Wh,length_tail->uh,length_take->Wn,length_zipWith->Xl,lookup_cons->qC,map_append->vE,map_congr_left->Qy,map_cons->w9,map_drop->Xi,map_dropLast->Q7,map_map->V4,map_nil->xh,map_replicate->XJ,map_take->Ub,mem_append->Wk,mem_append_left->VR,mem_append_right->vY,mem_cons->wK,mem_cons_of_mem->wy,mem_cons_self->wC,mem_erase_of_ne->Xe,mem_filter->ve,mem_filterMap->qQ,mem_iff_getElem->Xc,mem_iff_getElem?->xU,mem_map->wW,mem_of_find?_eq_some->xf,mem_of_getElem?->x5,mem_or_eq_of_mem_set->xb,mem_range->wG,mem_singleton->vc,nil_append->Qs,nodup_cons->WN,nodup_range->WZ,not_mem_nil->qD,of_mem_zip->xu,pairwise_append->qB,pairwise_cons->W4,pairwise_iff_getElem->Wa,pairwise_map->qm,pairwise_singleton->xp,range->wq,range_succ->Qu,replicate->vf,replicate_succ->V9,set_cons_succ->XF,set_cons_zero->XG,size_toArray->wN,sum_cons->Vd,tail_cons->uX,take_add_one->Qj,take_append_drop->xS,take_length->Wx,take_of_length_le->WR,take_sublist->XM,take_subset->ui,take_succ_cons->Xo,take_zero->u6,zipIdx_cons->ur,zipIdx_nil->uL
open List.Pairwise renaming drop->Uv,imp_of_mem->Uq
open List.cons renaming injEq->uK
open Nat renaming add_assoc->VB,add_le_add_left->Xp,add_mul->X7,add_sub_cancel->qV,add_zero->Xz,div_div_eq_div_mul->xO,eq_or_lt_of_le->W6,gcd_dvd_right->XO,le_add_right->WJ,le_antisymm->uI,le_max_left->uF,le_max_right->ud,le_of_dvd->Uc,le_of_lt->Va,le_of_lt_succ->VN,le_refl->wo,le_trans->vV,lt_irrefl->Vc,lt_of_le_of_lt->W2,lt_of_lt_of_le->wS,lt_or_ge->wB,lt_succ_of_lt->VL,lt_trans->Xx,lt_trichotomy->VJ,lt_two_pow_self->Xq,min_eq_left->xy,min_le_right->ub,mod_eq_of_lt->xk,mod_lt->Qe,mod_mul->xN,mod_self->XA,mul_add->QN,mul_assoc->WX,mul_comm->qt,mul_le_mul->W7,mul_le_mul_left->QC,mul_le_mul_right->Wb,mul_left_comm->XY,mul_mod->X9,mul_succ->qU,ne_of_gt->vg,ne_of_lt->wO,not_lt_zero->WF,one_mul->X8,pow_add->QM,pow_le_pow_right->Xa,pow_succ->WP,sub_self->Vs,succ_mul->qT,succ_ne_self->uo,succ_pos->Qt,two_pow_pos->Wf,zero_le->Ww,zero_mul->xm
open Nat.succ renaming inj->xn
open Ne renaming symm->WA
open Option renaming getD_none->uc,getD_some->Qp,isSome->Ud,map->Ut,map_eq_some_iff->Vn,map_some->uJ
open Option.some renaming inj->wQ,injEq->Q4
open Prod renaming ext->Qo,fst->Ui,snd->Uj
open PyProof.Rows renaming callWith_type1->vx,slot_tuple_getitem->qb
open PyProof.Rows.F renaming entry_set_update_loop->qZ,plain_set_update_loop->Vu
open PyProof.Rows.IsTup renaming new->Qq
open PySem renaming Addr->wf,Around->wY,FuncData->wE,Heap->wF,IsPair->Wv,IsTupleKey->vG,NameKind->W0,Program->wH,PyData->wD,SetTable->Wo,Shared->wl,Stmt->vd,Value->we,World->wI,backTo->Vh,binaryOp->WD,bootBuiltins->vM,cLine->Wz,call->uD,codeAny_builtin->qi,compareOp->wU,letOwnedTupleGo->qO,mainGlobals->wR,mem_of_lookup->Vg,ofAClassStatement->qr,pyNext->VO,rawInt->VP,sizeLine->wZ,sizeLine_eq->qF,sliceBounds->qG,starEach->w5,tupleKeyHash->w8,wpAny->wt,wpAny_Call_Name_kw->Qc,wpAny_attempt->VE,wpAny_bind->wg,wpAny_call_entry->vZ,wpAny_execs_nil->qN,wpAny_field->vA,wpAny_forIn_list->V8,wpAny_holding->Wg,wpAny_isInstance->Vm,wpAny_mono->Wy,wpAny_newObj_type->WC,wpAny_passesOwn->VA,wpAny_pure->wp,wpAny_pyIter_list->qq,wpAny_pyIter_tuple->W8,wpAny_seqItems->Wd,wpAny_setField_rec->W9,wpAny_setState_of->VQ,wpAny_specialOf->qP,wpAny_truthy_bool->Wq
open PySem.Around renaming under->Um,under_plainId->VW
open PySem.Builtin.Dict renaming pairItems->xP,updateFrom->xt
open PySem.Builtin.Frozenset renaming newClass->Ug,updateFrom->u5
open PySem.Builtin.Int renaming intBits->Xm
open PySem.Builtin.List renaming listTooLong->qS
open PySem.Builtin.Range renaming rangeSize->Ur
open PySem.Builtin.Slice renaming sliceAdjust->qJ,sliceApplied->QV,sliceFields->Uh,slicePartIndex->uV,slicePlaces->VS
open PySem.Builtin.SmallTypes renaming nextOf->vH,ownedTupleHandOut->qY,ownedTupleIsFree->vF
open PySem.Builtin.Tuple renaming tupleExact->V0,tupleHashOf->vT,tupleItemsOf->QW
open PySem.Calls renaming Name_function_global->QU,evalArgs_plain->x6,spliced_cons->QP,spliced_nil->Q3
open PySem.Challenge renaming pw_glowflock_k35_whole_rows_are_stands->Vq,rw_glowflock_k35_whole_rows_are_stands->wu
open PySem.Code renaming isGuard->Uo
open PySem.EntryCells renaming newEntry->Xn
open PySem.F renaming args_enumerate_next_1->xq,args_tuple_add_2->qR,args_tuple_iterator_next_1->QI,args_zip_next_1->VM,called_set->V7,entry_enumerate_next->xM,entry_tuple_add->Qg,entry_tuple_iterator_next->QT,entry_zip_next->V6,excBase_ValueError->Xd,plainAttrs_list->WM,plain_set_new->uP,slot_enumerate_next->qy,slot_int_rmul->uC,slot_list_append->WK,slot_tuple_add->Ql,slot_tuple_eq->xz,slot_tuple_hash->qo,slot_tuple_iterator_next->VD,slot_zip_getattribute->ql,slot_zip_next->Wl,type_list_append->WL
open PySem.Heap renaming IsTuple->XD,MadeExcOf->uY,SameBut->vi,get?_push_ne->Q5,get?_push_of_some->wn,get?_push_size->wM,get?_update_other->Qm,get?_update_self->Vv,lt_size->wA,size_push->VY,update->xL
open PySem.Heap.IsSliceOf renaming new->Uu
open PySem.Heap.SameBut renaming refl->X0,update->qI
open PySem.IntMulOk renaming of_left->uu,of_right->X1
open PySem.IsRange renaming new->Us
open PySem.Obj renaming cls_mapFields->XX,data_mapFields->qg,isFreed_of_fields->qx,mapFields->Qn,mapSeq->Q8,putSet->xc
open PySem.Paired renaming length->u8
open PySem.PassesOwn renaming leaving->X2,never->vL
open PySem.PyData renaming canLay0->Wc,canLayAll0->Wp,depth->V5,depthAll->WO,eqv->vb,eqvAll->WW,strOk->Up
open PySem.SeqAt renaming canLay_of_shaped->Vl,shaped->vX
open PySem.SeqAt.EqAt renaming int_str->Xr,str_int->Xs
open PySem.SetTable renaming below->WB,fill->Uf,grown->xX,has->XE,insertAt->Wj,laid->Ue,layClean->XZ,sizeAbove->qh,turns->xW
open PySem.SetTable.below renaming go->Qk
open PySem.SetTable.layClean renaming free->WT
open PySem.SetTable.probe renaming go->Q6
open PySem.SetTable.sizeAbove renaming go->Wi
open PySem.Shared renaming heap->X6
open PySem.Str renaming ofString->Wm,ofString->vP
open PySem.Value renaming isInt->QL
open PySem.W renaming Frag->wb,OpenLaw->xv,WalkO->u9,callWith_K->Xw,cellsFrom_some->xD,codeIn->QD,excIn->qd,exmOne->qz,findIn->Vi,fnOf->VZ,hideAll->uw,hideAll_get->Xj,instObj->uv,isFn->Ul,keepIn->VX,kia_one->Vy,kia_tup->Vz,kitAny->u3,kitOne->Qf,kitx_bool->XU,kitx_dict->XW,kitx_int->uj,kitx_list->XV,kitx_none->XT,kitx_str->uk,kitx_tuple->XB,methodObj->Q1,mg_none_of->vD,mg_of->Ws,mroIn->Xg,nsIn->vj,of_hideAll->Xu,specialIn->Q2,takesIn->uz
open PySem.W.Looks renaming ld->Uw
open PySem.Walks renaming list->uM
open Rat renaming den_divInt->uW,den_intCast->uT,divInt->wz,divInt_mul_divInt->xR,divInt_nonneg->XN,divInt_ofNat->xi,div_def->xG,div_mul_cancel->W3,ext->uZ,intCast_add->qK,intCast_eq_zero_iff->Vf,intCast_le_intCast->Vo,intCast_lt_intCast->xI,intCast_mul->vO,intCast_pos->uH,le_iff->Xb,le_of_lt->vW,le_refl->WS,le_trans->xj,lt_of_le_of_ne->qW,mul_assoc->Ua,mul_comm->Qb,mul_eq_zero->uG,mul_le_mul_of_nonneg_right->Qx,mul_nonneg->QF,mul_pos->qj,not_lt->VT,num_divInt_den->Vr,num_intCast->uS,num_nonneg->Qd,one_mul->xH,pow_succ->WQ,pow_zero->qw
namespace GH
open PySem PySem.W PyProof.Rows
noncomputable def sT (p:wH) (w:wI) (m:Nat) (an:Option we) (N:Nat) (s0:wl):Option wl :=
 Option.bind (Fast.tw14082659384304107361 Fast.tw14364793385576792824 p w m an N s0 (topStub p)) λs1=>match staticsOk (Fast.tw5923862056798008813 p.main.body) s0.heap s1.heap&&namesBound p s1.heap&&gensDone s1&&laidKept s0.heap s1.heap with | true=>some s1 | false=>none
noncomputable def gn (w:wI) (os:OsState):wl:=⟨boot_heap w.params,#[],boot_drawn,boot_toks,os⟩
theorem zuZ{p q:wH}{loose:List Str}{Xt:wl->Bool}{A:Type}{Yf:wl->A}{Ya:wI->A}{N:Nat}(e:opening p=plainProg p.main.scope.names)(hN:Nat.ble 600 N=true)(f:∀s,fenceModules? p s=some s){m:Nat}{an:Option we}
  (size:∀w:wI,((boot_heap w.params).isNs wR,(boot_heap w.params).objs.size,(boot_heap w.params).nsMap wR "__annotations__")=(true,m,an))
  (h:∀w:wI,(λos=>(sT p w m an N (gn w os)).map (λs=>(Fast.tw4187177175401517315 q loose (Fast.tw5923862056798008813 p.main.body) Xt true s,Yf s)))=λ_=>some (openGood q loose,Ya w)):LeftO p q loose Xt Yf Ya N:=λw=>by
 obtain⟨⟨h',gs,d,k,os⟩,e',e2⟩:=Vn.mp (boot_open e hN f (w:=w));obtain⟨rfl,rfl,rfl,rfl⟩:h'=boot_heap w.params/\gs = #[]/\d=boot_drawn/\k=boot_toks:=by simpa using e2
 obtain⟨z1,z2,z3⟩:_/\_/\_:=by simpa only[Prod.mk.injEq] using size w
 have r:=congrFun (h w) os;unfold openEnds;rw[e']
 show Ut _ (topFrom treeTable p w N _)=_
 rw[<- r];unfold topFrom sT gn;rw[<- Fast.te14082659384304107361,<- Fast.te14364793385576792824,<- Fast.te5923862056798008813,<- Fast.te4187177175401517315];dsimp only;rw[z1,z2,z3]
 rfl
noncomputable def jw (p:wH) (w:wI) (m:Nat) (an:Option we) (N:Nat) (s0:wl):Option wl:=Fast.tw14082659384304107361 Fast.tw14364793385576792824 p w m an N s0 (topStub p)
noncomputable def Bz (p:wH) (w:wI) (m:Nat) (an:Option we) (N:Nat) (os:OsState):Option Bool:=(jw p w m an N (gn w os)).map λs1=>staticsOk (Fast.tw5923862056798008813 p.main.body) (gn w os).heap s1.heap&&namesBound p s1.heap&&gensDone s1&&laidKept (gn w os).heap s1.heap
theorem R9{p q:wH}{loose:List Str}{Xt:wl->Bool}{A:Type}{Yf:wl->A}{Ya:wI->A}{N:Nat}(e:opening p=plainProg p.main.scope.names)(hN:Nat.ble 600 N=true)(f:∀s,fenceModules? p s=some s){m:Nat}{an:Option we}
  (size:∀w:wI,((boot_heap w.params).isNs wR,(boot_heap w.params).objs.size,(boot_heap w.params).nsMap wR "__annotations__")=(true,m,an))
  (hA:∀w:wI,(λos=>Bz p w m an N os)=λ_=>some true)
  (hB0:∀w:wI,(λos=>(jw p w m an N (gn w os)).map (λs=>((Fast.tw4187177175401517315 q loose (Fast.tw5923862056798008813 p.main.body) Xt true s).1,(Fast.tw4187177175401517315 q loose (Fast.tw5923862056798008813 p.main.body) Xt true s).2.1)))=λ_=>some (expectedOf q,bltViewBooted))
  (hB1:∀w:wI,(λos=>(jw p w m an N (gn w os)).map (λs=>((Fast.tw4187177175401517315 q loose (Fast.tw5923862056798008813 p.main.body) Xt true s).2.2.1,(Fast.tw4187177175401517315 q loose (Fast.tw5923862056798008813 p.main.body) Xt true s).2.2.2.1)))=λ_=>some (true,true))
  (hB2:∀w:wI,(λos=>(jw p w m an N (gn w os)).map (λs=>(Fast.tw4187177175401517315 q loose (Fast.tw5923862056798008813 p.main.body) Xt true s).2.2.2.2))=λ_=>some (pinGoodD (drecsOf q),plainGoodE q (looseW q loose),plainGoodD q loose,wideGood q,clsGoodW q loose))
  (hC:∀w:wI,(λos=>(jw p w m an N (gn w os)).map (λs=>Yf s))=λ_=>some (Ya w)):LeftO p q loose Xt Yf Ya N:=by
 refine zuZ e hN f size λw=>?_
 funext os
 have h1:=congrFun (hA w) os;unfold Bz at h1;obtain⟨s1,e1,e2⟩:=Vn.mp h1;have g0:=congrFun (hB0 w) os;have g1:=congrFun (hB1 w) os;have g2:=congrFun (hB2 w) os;have k:=congrFun (hC w) os;rw[e1]at g0 g1 g2 k;have g0:=wQ g0;have g1:=wQ g1;have g2:=wQ g2;have a0:=congrArg Ui g0;have b0:=congrArg Uj g0;have a1:=congrArg Ui g1;have b1:=congrArg Uj g1;have g:Fast.tw4187177175401517315 q loose (Fast.tw5923862056798008813 p.main.body) Xt true s1=openGood q loose:=Qo a0 (Qo b0 (Qo a1 (Qo b1 g2)));have k:=wQ k
 have ez:sT p w m an N (gn w os)=some s1:=by
  unfold sT;unfold jw at e1;rw[e1]
  show(match _ with | true=>some s1 | false=>none)=some s1
  rw[e2]
 rw[ez];exact congrArg some (Qo g k)
def qv:wH:=view Vq [1,2,3,4,5,6,8,9,10,11,12,13,14,15,16,17,19,20,21,22,23,24,25,26,27,28,30,31,32,33,34,35,36,37,38,39,41,42,44,45,46,47,48,49,50,51,52,54,55,56,57,58,59,60,61,62,63,65,66,67,68,69,70,72,73,74,75,76,77,78,79,80,81,82,83,84,85,86,87,88,89]
theorem Im:wu.wellSaid=true:=by kernel_rfl
theorem size(w:wI):((boot_heap w.params).isNs wR,(boot_heap w.params).objs.size,(boot_heap w.params).nsMap wR "__annotations__")=(true,11,some (.ref 6)):=by kernel_rfl
theorem SJ(w:wI):(λos=>Bz wu.row.prog w 11 (some (.ref 6)) 6946 os)=λ_=>some true:=by kernel_rfl
theorem Ss(w:wI):(λos=>(jw wu.row.prog w 11 (some (.ref 6)) 6946 (gn w os)).map (λs=>((Fast.tw4187177175401517315 qv [] (Fast.tw5923862056798008813 wu.row.prog.main.body) (λs=>xlAt GH.qv [] s&&recOk (RowW.records (OpenRow.toRowW (OpenLaw.row wu))) s) true s).1,(Fast.tw4187177175401517315 qv [] (Fast.tw5923862056798008813 wu.row.prog.main.body) (λs=>xlAt GH.qv [] s&&recOk (RowW.records (OpenRow.toRowW (OpenLaw.row wu))) s) true s).2.1)))=λ_=>some (expectedOf qv,bltViewBooted):=by kernel_rfl
theorem Sy(w:wI):(λos=>(jw wu.row.prog w 11 (some (.ref 6)) 6946 (gn w os)).map (λs=>((Fast.tw4187177175401517315 qv [] (Fast.tw5923862056798008813 wu.row.prog.main.body) (λs=>xlAt GH.qv [] s&&recOk (RowW.records (OpenRow.toRowW (OpenLaw.row wu))) s) true s).2.2.1,(Fast.tw4187177175401517315 qv [] (Fast.tw5923862056798008813 wu.row.prog.main.body) (λs=>xlAt GH.qv [] s&&recOk (RowW.records (OpenRow.toRowW (OpenLaw.row wu))) s) true s).2.2.2.1)))=λ_=>some (true,true):=by kernel_rfl
theorem Sw(w:wI):(λos=>(jw wu.row.prog w 11 (some (.ref 6)) 6946 (gn w os)).map (λs=>(Fast.tw4187177175401517315 qv [] (Fast.tw5923862056798008813 wu.row.prog.main.body) (λs=>xlAt GH.qv [] s&&recOk (RowW.records (OpenRow.toRowW (OpenLaw.row wu))) s) true s).2.2.2.2))=λ_=>some (pinGoodD (drecsOf qv),plainGoodE qv (looseW qv []),plainGoodD qv [],wideGood qv,clsGoodW qv []):=by kernel_rfl
local macro_rules | `(tactic| o_head $H)=>`(tactic| (refine holds_open (q:=GH.qv) (loose:=[]) (Xt:=λ s=>xlAt GH.qv [] s && recOk (RowW.records (OpenRow.toRowW (OpenLaw.row wu))) s) (XP:=XL GH.qv []) (Yf:=Hook.obs $H) (Ya:=Hook.val $H) (YP:=Hook.says $H) (N:=6946) ?hl (Hook.of $H) (Hook.keeps $H) (λ s e=>xl_of s (xY.mp e).1) XL.keeps (by rfl) (by rfl) (by rfl) (λ s e=>recFacts_of (xY.mp e).2) (by rfl) (by first | assumption | decide +kernel) (by decide +kernel) ⟨rfl,rfl,rfl,rfl,rfl,by decide +kernel⟩ ?hw ?hc; (case hl=>refine GH.R9 (by kernel_rfl) rfl (λ s=>by kernel_rfl) GH.size GH.SJ GH.Ss GH.Sy GH.Sw ?_; intro w; kernel_rfl)))
local macro_rules | `(tactic| o_law)=>`(tactic| refine holds_law GH.Im λ Im=>?_)
set_option maxHeartbeats 0
open_top head for wu
end GH
set_option maxHeartbeats 4000000
namespace L2
open PySem PySem.Spec PyProof.Rows
abbrev Key:=Sum Int Str
def KH:Key->we->Bool
 | .inl k,v=>QL k v
 | .inr x,v=>Value.isStrOf x v
def zCZ(w:wI):Key->Int
 | .inl k=>hashInt k
 | .inr x=>hashStr w x
theorem jl:∀{k:Key}{v:we},KH k v=true->(∃i t,k=Sum.inl i/\v=Value.int i t)\/(∃x t,k=Sum.inr x/\v=Value.str x t)
 | .inl i,v,h=>by
  obtain⟨t,e⟩:=Value.isInt_shape (k:=i) (v:=v) h;exact .inl ⟨i,t,rfl,e⟩
 | .inr x,v,h=>by
  obtain⟨t,e⟩:=Value.isStrOf_shape (x:=x) (v:=v) h;exact .inr ⟨x,t,rfl,e⟩
theorem UE(a b:Int):decide ((Sum.inl a:Key)=Sum.inl b)=(a == b):=by
 by_cases e:a=b
 ·subst e;simp
 ·have h:¬ (Sum.inl a:Key)=Sum.inl b:=λq=>e (Sum.inl.inj q)
  rw[decide_eq_false h];exact(beq_eq_false_iff_ne.mpr e).symm
theorem Tn(a b:Str):decide ((Sum.inr a:Key)=Sum.inr b)=decide (a=b):=by
 by_cases e:a=b
 ·subst e;simp
 ·have h:¬ (Sum.inr a:Key)=Sum.inr b:=λq=>e (Sum.inr.inj q)
  rw[decide_eq_false h,decide_eq_false e]
theorem SY(a:Int)(b:Str):decide ((Sum.inl a:Key)=Sum.inr b)=false:=decide_eq_false (λq=>nomatch q)
theorem zA3(a:Str)(b:Int):decide ((Sum.inr a:Key)=Sum.inl b)=false:=decide_eq_false (λq=>nomatch q)
def AR(prog:wH)(w:wI):PySem.KeyKind prog w Key where
 is:=KH
 hash:=zCZ w
 inj:=λv a b ha hb=>by
  rcases jl ha with⟨i,t,rfl,rfl⟩ | ⟨x,t,rfl,rfl⟩
  ·rcases jl hb with⟨j,u,rfl,e⟩ | ⟨y,u,rfl,e⟩
   ·injection e with e1 _;rw[e1]
   ·exact nomatch e
  ·rcases jl hb with⟨j,u,rfl,e⟩ | ⟨y,u,rfl,e⟩
   ·exact nomatch e
   ·injection e with e1 _;rw[e1]
 byValue:=λk v h=>by
  rcases jl h with⟨i,t,rfl,rfl⟩ | ⟨x,t,rfl,rfl⟩<;>rfl
 pyHash:=λhv h=>by
  rcases jl hv with⟨i,t,rfl,rfl⟩ | ⟨x,t,rfl,rfl⟩
  ·exact wpAny_pyHash_int h
  ·exact wpAny_pyHash_str h
 eqBool:=λhu hv h=>by
  rcases jl hu with⟨i,t,rfl,rfl⟩ | ⟨x,t,rfl,rfl⟩
  ·rcases jl hv with⟨j,u,rfl,rfl⟩ | ⟨y,u,rfl,rfl⟩
   ·rw[UE]at h;exact wpAny_eqBool_int h
   ·rw[SY]at h;exact Xr i t y u _ _ _ _ h
  ·rcases jl hv with⟨j,u,rfl,rfl⟩ | ⟨y,u,rfl,rfl⟩
   ·rw[zA3]at h;exact Xs x t j u _ _ _ _ h
   ·rw[Tn]at h;exact wpAny_eqBool_str h
 «strs»:=λk x t v h=>by
  rcases jl h with⟨i,u,rfl,e⟩ | ⟨y,u,rfl,e⟩
  ·exact nomatch e
  ·injection e with e1 _
   subst e1;cases v<;>rfl
inductive V where
 | bj | bl (b:Bool) | int (i:Int) | str (x:Str) | byt (b:Array UInt8) | kZ (b:UInt64) | ref (a:wf) | ty (n:String)
 deriving DecidableEq
def aW:V->we->Prop
 | .bj,u=>u=Value.none
 | .bl b,u=>u=Value.bool b
 | .int i,u=>∃t,u=Value.int i t
 | .str x,u=>∃t,u=Value.str x t
 | .byt b,u=>∃t,u=Value.bytes b t
 | .kZ b,u=>∃t,u=Value.float b t
 | .ref a,u=>u=Value.ref a
 | .ty n,u=>u=Value.type n
abbrev aM:List V->List we->Prop:=Paired aW
theorem aM.length{xs:List V}{us:List we}(r:aM xs us):xs.length=us.length:=u8 r
theorem aM.get:∀{xs:List V}{us:List we}{i:Nat}{x:V},aM xs us->xs[i]? = some x->∃u,us[i]? = some u/\aW x u
 | _,_,_,_,.nil,e=>by simp at e
 | _,_,0,_,.cons r _,e=>by simp at e;subst e;exact⟨_,rfl,r⟩
 | _,_,i+1,x,.cons _ t,e=>by
  obtain⟨u,h1,h2⟩:=aM.get (i:=i) (x:=x) t (by simpa using e);exact⟨u,by simpa using h1,h2⟩
theorem aM.set{x:V}{u:we}(r:aW x u):∀{xs:List V}{us:List we}(i:Nat),aM xs us->aM (xs.set i x) (us.set i u)
 | _,_,_,.nil=>.nil
 | _,_,0,.cons _ t=>.cons r t
 | _,_,i+1,.cons q t=>.cons q (aM.set r i t)
theorem aM.append:∀{xs ys:List V}{us ws:List we},aM xs us->aM ys ws->aM (xs++ys) (us++ws)
 | _,_,_,_,.nil,s=>s
 | _,_,_,_,.cons r t,s=>.cons r (aM.append t s)
theorem aM.take:∀{xs:List V}{us:List we}(n:Nat),aM xs us->aM (xs.take n) (us.take n)
 | _,_,0,_=>.nil
 | _,_,_+1,.nil=>.nil
 | _,_,n+1,.cons r t=>.cons r (aM.take n t)
theorem aM.drop:∀{xs:List V}{us:List we}(n:Nat),aM xs us->aM (xs.drop n) (us.drop n)
 | _,_,0,r=>r
 | _,_,_+1,.nil=>.nil
 | _,_,n+1,.cons _ t=>aM.drop n t
def Iz:Option V->Option we->Prop
 | some v,some u=>aW v u
 | none,none=>True
 | _,_=>False
def KV{κ : Type} : List (κ × V)->List (κ × we)->Prop:=Paired λ(p : κ × V)(q : κ × we)=>p.1=q.1/\aW p.2 q.2
def kV:Key->V
 | .inl i=>.int i
 | .inr x=>.str x
inductive HO where
 /-- a list -/
 | lst (xs:List V)
 /-- a tuple (never changes) -/
 | tup (xs:List V)
 /-- a dict whose keys are ints and texts;one whose keys are tuples of ints and texts (the empty one is both) -/
 | dK (kvs:List (Key × V)) | dT (kvs:List (List Key × V))
 /-- a set of ints: its members,its size -/
 | set (S:Int->Bool) (n:Nat)
 /-- an instance of the class at C,its dict at dx,its attributes -/
 | ins (C dx:wf) (fs:List (Str × V))
 /-- the dict of the instance at x -/
 | own (x:wf)
 /-- the dict of an exception -/
 | xd (fs:List (Str × V))
 /-- a bound method,f of x -/
 | met (f x:wf)
 /-- a range object lo,lo+1,.. below hi -/
 | sv (lo hi:Int)
 /-- a thing that is known to the object (the script;a dict while a loop walks it): read,never written while it is so -/
 | fb (o:Obj) (u:HO)
 /-- a code object's table -/
 | jX (ps:Array we)
 /-- any other thing,by what is true of its one object (a def of one's own: lG a S n:=HO.ext λh=>..) -/
 | ext (φ : wF->Prop)
abbrev Hp:=wf->Option HO
def upd(H:Hp)(a:wf)(o:HO):Hp:=λb=>if b=a then some o else H b
theorem cE{H:Hp}{a:wf}{o:HO} : upd H a o a=some o:=by unfold upd;rw[if_pos rfl]
theorem dU{H:Hp}{a b:wf}{o:HO}(h:b≠a):upd H a o b=H b:=by unfold upd;rw[if_neg h]
theorem IV{H:Hp}{a b:wf}{o u:HO}(h:H a=some o)(h':H b=some u)(d:o≠u):a≠b:=by
 intro e;subst e;rw[h]at h';exact d (wQ h')
theorem jj{H:Hp}{a b:wf}{o:HO}(h:H a=some o)(h':H b=none):a≠b:=by
 intro e;subst e;rw[h]at h';cases h'
section
variable(P:wH)(w:wI)
def di(H:Hp)(h:wF)(a:wf):HO->Prop
 | .lst xs=>xs.length<=wZ /\ ∃(its:List we)(n:Nat),aM xs its/\h.get? a=some {cls:=.type "list",data:=.seq its.toArray n}
 | .tup xs=>xs.length<=wZ /\ ∃its:List we,aM xs its/\IsTup h a its.toArray
 | .dK kvs=>kvs.length<=wZ/\(a == sysModules)=false /\ ∃vs,KV kvs vs/\h.DictOf (AR P w) a vs
 | .dT kvs=>kvs.length<=wZ/\(a == sysModules)=false /\ ∃xs:List (List Key × wf × we),
     Paired (λ(p:List Key × V)(q:List Key × wf × we)=>p.1=q.1/\H q.2.1=some (.tup (p.1.map kV))/\aW p.2 q.2.2) kvs xs /\
     ∃o es ep,h.get? a=some o/\o.ExactDict/\o.data=.dict es ep/\es.toList=xs.map (entryOfKey (tupleKind (AR P w)))/\(xs.map (·.1)).Nodup
 | .set S n=>h.SetOf (intKind P w) a S n
 | .ins C dx fs=>H dx=some (.own a)/\fs.length<=1000/\dx≠a/\h.get? a=some (uv C dx) /\
     ∃mA,h.Ns1 dx mA/\(∀f,Iz (fs.lookup f) (mA f))/\PySem.Within mA (fs.map (·.1))
 | .own _=>∃o,h.get? a=some o
 | .xd fs=>∃mA,h.Ns1 a mA /\ ∀f,Iz (fs.lookup f) (mA f)
 | .sv lo hi=>∃t u v,h.get? a=some {cls:=.type "range",data:=.fields #[.int lo t,.int hi u,.int 1 v]}
 | .fb o u=>h.get? a=some o/\di H h a u
 | .jX ps=>h.get? a=some {cls:=.none,data:=.fields ps}
 | .met f x=>h.get? a=some (Q1 (.ref f) (.ref x))
 | .ext φ=>φ h/\(∃o,h.get? a=some o) /\ ∀h1 h2:wF,φ h1->(∀o,h1.get? a=some o->h2.get? a=some o) -> φ h2
def cU(H:Hp)(h:wF):Prop:=∀a o,H a=some o->di P w H h a o
end
section
variable{P:wH}{w:wI}{H H':Hp}{h h':wF}{a:wf}{o:HO}
theorem di.lt(x:di P w H h a o):a<h.objs.size:=by
 cases o with
 | lst xs=>obtain⟨_,_,_,_,e⟩:=x;exact wA e
 | tup xs=>obtain⟨_,_,_,p⟩:=x;exact p.lt
 | dK kvs=>obtain⟨_,_,_,_,o,_,_,e,_⟩:=x;exact wA e
 | dT kvs=>obtain⟨_,_,_,_,o,_,_,e,_⟩:=x;exact wA e
 | set S n=>obtain⟨o,_,_,_,e,_⟩:=x;exact wA e
 | ins C dx fs=>obtain⟨_,_,_,e,_⟩:=x;exact wA e
 | own y=>obtain⟨_,e⟩:=x;exact wA e
 | xd fs=>obtain⟨_,⟨_,_,_,e,_⟩,_⟩:=x;exact wA e
 | sv lo hi=>obtain⟨_,_,_,e⟩:=x;exact wA e
 | fb ob u=>obtain⟨e,_⟩:=x;exact wA e
 | jX ps=>exact wA (show h.get? a=some _ from x)
 | met f y=>exact wA (show h.get? a=some _ from x)
 | ext φ=>obtain⟨_,⟨_,e⟩,_⟩:=x;exact wA e
theorem Paired.Ik{α β : Type}{F G : α -> β -> Prop} : ∀{l₁ : List α}{l₂ : List β},Paired F l₁ l₂ -> (∀a b,F a b->G a b)->Paired G l₁ l₂
 | _,_,.nil,_=>.nil
 | _,_,.cons r t,f=>.cons (f _ _ r) (Paired.Ik t f)
theorem di.jS(x:di P w H h a o)(k:∀b u,(b=a\/H b=some (.own a))->h.get? b=some u->h'.get? b=some u)
  (ho:∀b,H b=some (.own a)->H' b=some (.own a)) (ht:∀b xs,H b=some (.tup xs)->H' b=some (.tup xs)):di P w H' h' a o:=by
 induction o with
 | lst xs=>obtain⟨z,its,n,r,e⟩:=x;exact⟨z,its,n,r,k _ _ (.inl rfl) e⟩
 | tup xs=>obtain⟨z,its,r,ob,e,c⟩:=x;exact⟨z,its,r,ob,k _ _ (.inl rfl) e,c⟩
 | dK kvs=>obtain⟨z,y,vs,r,ob,es,ep,e,c⟩:=x;exact⟨z,y,vs,r,ob,es,ep,k _ _ (.inl rfl) e,c⟩
 | dT kvs =>
  obtain⟨z,y,xs,r,ob,es,ep,e,c⟩:=x;exact⟨z,y,xs,Paired.Ik r λp q z=>⟨z.1,ht _ _ z.2.1,z.2.2⟩,ob,es,ep,k _ _ (.inl rfl) e,c⟩
 | set S n=>obtain⟨ob,es,ep,t,e,c⟩:=x;exact⟨ob,es,ep,t,k _ _ (.inl rfl) e,c⟩
 | ins C dx fs =>
  obtain⟨d,z,ne,e,mA,⟨od,es,ep,e2,c⟩,r⟩:=x;exact⟨ho _ d,z,ne,k _ _ (.inl rfl) e,mA,⟨od,es,ep,k _ _ (.inr d) e2,c⟩,r⟩
 | own y=>obtain⟨ob,e⟩:=x;exact⟨ob,k _ _ (.inl rfl) e⟩
 | xd fs=>obtain⟨mA,⟨od,es,ep,e,c⟩,r⟩:=x;exact⟨mA,⟨od,es,ep,k _ _ (.inl rfl) e,c⟩,r⟩
 | sv lo hi=>obtain⟨t,u,v,e⟩:=x;exact⟨t,u,v,k _ _ (.inl rfl) e⟩
 | fb ob u ih=>obtain⟨e,q⟩:=x;exact⟨k _ _ (.inl rfl) e,ih q⟩
 | jX ps =>
  have e:h.get? a=some {cls:=.none,data:=.fields ps}:=x
  show h'.get? a=some {cls:=.none,data:=.fields ps}
  exact k a _ (.inl rfl) e
 | met f y =>
  have e:h.get? a=some (Q1 (.ref f) (.ref y)):=x
  show h'.get? a=some (Q1 (.ref f) (.ref y))
  exact k a _ (.inl rfl) e
 | ext φ=>obtain⟨p,⟨o,e⟩,st⟩:=x;exact⟨st _ _ p λo q=>k _ _ (.inl rfl) q,⟨o,k _ _ (.inl rfl) e⟩,st⟩
theorem cU.lt(x:cU P w H h)(e:H a=some o):a<h.objs.size:=(x a o e).lt
theorem cU.fresh(x:cU P w H h)(e:h.objs.size<=a):H a=none:=by
 cases q:H a with
 | none=>rfl
 | some u=>exact absurd (wS (x.lt q) e) (Vc _)
theorem cU.kept(x:cU P w H h)(k:∀b u,h.get? b=some u->h'.get? b=some u):cU P w H h':=λa o e =>
 (x a o e).jS (λb u _ q=>k b u q) (λ_ q=>q) λ_ _ q=>q
theorem cU.laid(x:cU P w H h)(k:∀b u,h.get? b=some u->h'.get? b=some u)(hp:h.objs.size<=a)(new:di P w (upd H a o) h' a o):cU P w (upd H a o) h':=λb u e=>by
 have hn:=x.fresh hp
 by_cases hb:b=a
 ·subst hb;rw[cE]at e;cases e;exact new
 ·rw[dU hb]at e
  exact(x b u e).jS (λc v _ q=>k c v q) (λc q=>by rw[dU (jj q hn)];exact q) λc xs q=>by rw[dU (jj q hn)];exact q
end
def Rd(H:Hp)(a:wf)(u:HO):Prop:=H a=some u \/ ∃o,H a=some (.fb o u)
theorem Rd.ok{P:wH}{w:wI}{H:Hp}{h:wF}{a:wf}{u:HO}(r:Rd H a u)(x:cU P w H h):di P w H h a u:=by
 rcases r with r | ⟨o,r⟩
 ·exact x a u r
 ·obtain⟨_,q⟩:=x a _ r
  exact q
def tY:Option HO->Prop
 | some (.lst _)=>True
 | some (.dK _)=>True
 | some (.dT _)=>True
 | some (.set _ _)=>True
 | some (.ins _ _ _)=>True
 | some (.ext _)=>True
 | _=>False
section
variable{P:wH}{w:wI}{H:Hp}{h h':wF}{x e:wf}{o':HO}
theorem cU.write(ok:cU P w H h)(mu:tY (H x))(he:e=x\/H e=some (.own x))(k:∀b u,b≠e->h.get? b=some u->h'.get? b=some u)(heo:∃u,h'.get? e=some u)
  (new:di P w (upd H x o') h' x o'):cU P w (upd H x o') h':=λb u q=>by
 have nown:∀c y,H c=some (.own y)->c≠x:=λc y r z=>by subst z;rw[r]at mu;exact mu
 have ntup:∀c xs,H c=some (.tup xs)->c≠x:=λc xs r z=>by subst z;rw[r]at mu;exact mu
 by_cases hb:b=x
 ·subst hb;rw[cE]at q;cases q;exact new
 ·rw[dU hb]at q
  by_cases hbe:b=e
  ·have q':H b=some (.own x):=by
    rcases he with z | z
    ·exact absurd (hbe.trans z) hb
    ·rw[hbe];exact z
   rw[q]at q';cases q';obtain⟨v,hv⟩:=heo;exact⟨v,by rw[hbe];exact hv⟩
  ·refine(ok b u q).jS (λc v hc r=>k c v ?_ r) (λc r=>by rw[dU (nown c b r)];exact r) λc xs r=>by rw[dU (ntup c xs r)];exact r
   rcases hc with rfl | hc
   ·exact hbe
   ·rintro rfl
    rcases he with z | z
    ·exact nown c b hc z
    ·rw[hc]at z;cases z;exact hb rfl
end
structure Un(fs ex:List wf)(H H':Hp)(h h':wF):Prop where
 keep:∀b o,h.get? b=some o->H b=none->b ∉ fs->b ∉ ex->h'.get? b=some o
 slot:∀b o,h.get? b=some o->H b=none->b∈fs->b ∉ ex->∃sl,h'.get? b=some {o with slots:=sl}
 free:∀b o,h.get? b=some o->H b=none->b ∉ ex->H' b=none
 there:∀b o,h.get? b=some o->b ∉ ex->∃o',h'.get? b=some o'
 gR:∀b xs,H b=some (.tup xs)->H' b=some (.tup xs)
 gA:∀b o u,H b=some (.fb o u)->H' b=some (.fb o u)
 gT:∀b ps,H b=some (.jX ps)->∃more,H' b=some (.jX (ps++more))
section
variable{fs fs' ex ex':List wf}{H H1 H2:Hp}{h h1 h2 h':wF}{a x e:wf}{o:HO}
theorem Un.any(u:Un fs ex H H1 h h1){b:wf}{ob:Obj}(q:h.get? b=some ob)(n:H b=none)(hx:b ∉ ex):∃sl,h1.get? b=some {ob with slots:=sl}:=by
 by_cases hb:b∈fs
 ·exact u.slot b ob q n hb hx
 ·exact⟨ob.slots,u.keep b ob q n hb hx⟩
theorem Un.kept(k:∀b u,h.get? b=some u->h'.get? b=some u):Un fs ex H H h h' :=
 ⟨λb ob q _ _ _=>k b ob q,λb ob q _ _ _=>⟨ob.slots,k b ob q⟩,λ_ _ _ n _=>n,λb ob q _=>⟨ob,k b ob q⟩,λ_ _ q=>q,λ_ _ _ q=>q,λ_ ps q=>⟨#[],by rw[q];simp⟩⟩
theorem Un.refl:Un fs ex H H h h:=Un.kept λ_ _ q=>q
theorem Un.laid(k:∀b u,h.get? b=some u->h'.get? b=some u)(hp:h.objs.size<=a)(hn:H a=none):Un fs ex H (upd H a o) h h' where
 keep:=λb u q _ _ _=>k b u q
 slot:=λb u q _ _ _=>⟨u.slots,k b u q⟩
 free:=λb u q n _=>by rw[dU (wO (wS (wA q) hp))];exact n
 there:=λb u q _=>⟨u,k b u q⟩
 gR:=λb xs q=>by rw[dU (jj q hn)];exact q
 gA:=λb u xs q=>by rw[dU (jj q hn)];exact q
 gT:=λb ps q=>⟨#[],by rw[dU (jj q hn),q];simp⟩
theorem Un.write(mu:tY (H x))(he:e=x\/H e=some (.own x))(k:∀b u,b≠e->h.get? b=some u->h'.get? b=some u)(heo:∃u,h'.get? e=some u):Un fs ex H (upd H x o) h h':=by
 have hx:∀b,H b=none->b≠x:=λb n z=>by subst z;rw[n]at mu;exact mu
 have hb:∀b,H b=none->b≠e:=λb n z=>by
  subst z;rcases he with r | r
  ·exact hx b n r
  ·rw[n]at r;cases r
 have hm:∀b u,H b=some u->¬ tY (some u)->b≠x:=λb u q nm z=>by subst z;rw[q]at mu;exact nm mu
 refine⟨λb u q n _ _=>k b u (hb b n) q,λb u q n _ _=>⟨u.slots,k b u (hb b n) q⟩,λb u q n _=>by rw[dU (hx b n)];exact n,λb u q _=>?_,
  λb xs q=>by rw[dU (hm b _ q λz=>z)];exact q,λb u xs q=>by rw[dU (hm b _ q λz=>z)];exact q,λb ps q=>⟨#[],by rw[dU (hm b _ q λz=>z),q];simp⟩⟩
 by_cases hbe:b=e
 ·subst hbe;exact heo
 ·exact⟨u,k b u hbe q⟩
end
def gZ(h:wF)(H:Hp):List wf:=(wq h.objs.size).filter λa=>(H a).isSome
def jE(h:wF)(H:Hp):wF:=uw h (gZ h H)
theorem zvf(h:wF)(H:Hp):(jE h H).objs.size=h.objs.size:=PySem.W.hideAll_size _ _
theorem U8{h:wF}{H:Hp}{b:wf}{o:Obj}(e:h.get? b=some o)(n:H b=none):(jE h H).get? b=some o :=
 Xj _ e λhm=>by
  have q:(H b).isSome=true:=(ve.mp hm).2;rw[n]at q;simp at q
theorem Z7{h:wF}{H:Hp}{b:wf}{o:Obj}(e:(jE h H).get? b=some o):h.get? b=some o/\H b=none:=by
 have e':h.get? b=some o:=Xu (gZ h H) e;refine⟨e',?_⟩;cases q:H b with
 | none=>rfl
 | some x =>
  have hm:b∈gZ h H:=ve.mpr ⟨wG.mpr (wA e'),by simp[q]⟩;have z:(jE h H).get? b=none:=PySem.W.hideAll_none (gZ h H) hm;rw[z]at e;cases e
def zyv(g h:wF)(L:wf):List (wf × Obj):=(wq h.objs.size).filterMap λa=>if a=L\/(g.get? a).isSome=true then none else(h.get? a).map λo=>(a,o)
def cH(g h:wF)(L d:wf):List (wf × Obj):=(zyv g h L).filter λp=>decide (p.1≠d)
structure Mod(K:wb)(mg:Str->Option we)(base:wF):Prop where
 oI:K.In base
 glob:base.Ns wR mg
 blt:∃mb,base.Ns builtinsNs mb /\ ∀x:Str,x≠"__name__" -> mb x=vM x
 nolimit:base.NoLimit
structure Cx where
 prog:wH
 w:wI
 K:wb
 mg:Str->Option we
 base:wF
 A:wY
 N:List Str
 s₀ : wl
 H₀ : Hp
 env:Env
 outer:List Env
 stack:List Env
 ex:List wf
 fn:Str->Bool
 calm:Bool
 pn:List (wf × Obj)
 xe:we->wl->Prop
def dy(l:List Env):List wf:=l.filterMap (·.frame)
abbrev Cx.fs(X:Cx):List wf:=dy X.outer
def zC(sc:Scope)(x:Str):Prop:=sc.names.lookup x=some .local\/sc.names.lookup x=some .cell\/sc.names.lookup x=some .free
def Loc(sc:Scope)(x:Str):Prop:=sc.names.lookup x=some .local\/sc.names.lookup x=some .cell
def TV(env:Env)(h:wF)(m:Str->Option we)(x:Str)(u:we):Prop :=
 (env.kindOf x=some .local/\m x=some u)\/((env.kindOf x=some .cell\/env.kindOf x=some .free) /\ ∃c,env.cells.lookup x=some c/\h.IsCell c (some u))
structure Cx.Ok(X:Cx):Prop where
 mod:Mod X.K X.mg X.base
 kind:X.env.scope.kind=.function
 glob:X.env.globals=wR
 blt:X.env.builtins=builtinsNs
 above:X.s₀.heap.objs.size<=X.env.locals
 inj:∀x y c,X.env.cells.lookup x=some c->X.env.cells.lookup y=some c->x=y
 has:∀x,(X.env.kindOf x=some .cell\/X.env.kindOf x=some .free)->∃c,X.env.cells.lookup x=some c
 ki:∀x c,X.fn x=true->X.env.cells.lookup x=some c->X.s₀.heap.objs.size<=c
 hd:X.calm=true->X.A.handled=none
 frames:X.A.frames=some X.stack
 kM:X.stack=X.outer\/(X.stack=X.env::X.outer/\X.env.frame=some X.env.locals)
 oh:∀b∈X.ex,b≠X.env.locals /\ ∀x c,X.env.cells.lookup x=some c->c≠b
 bs:∀b o,X.base.get? b=some o->X.s₀.heap.get? b=some o/\X.H₀ b=none
 ic:X.base.objs.size<=X.s₀.heap.objs.size
 jR:∀b o,X.base.get? b=some o->b ∉ X.ex
 ko:∀b∈X.ex,b ∉ X.fs
 eG:X.s₀.heap.FunFrames X.base X.outer
 iK:∀b∈X.fs,X.H₀ b=none
structure Inv(X:Cx)(pins:List (wf × Obj))(σ : List (Option V))(H:Hp)(s:wl):Prop where
 ok:X.Ok
 os:s.os=X.s₀.os
 bare:AllBare s.gens
 base:Un X.fs X.ex X.H₀ H X.s₀.heap s.heap
 loc:∃m,s.heap.Ns X.env.locals m /\ ∀(i:Nat)(x:Str)(v:V),X.N[i]? = some x -> σ[i]? = some (some v)->zC X.env.scope x->∃u,aW v u/\TV X.env s.heap m x u
 cell:∀x c,X.env.cells.lookup x=some c->∃v,s.heap.IsCell c v
 free:H X.env.locals=none
 fN:∀x c,X.env.cells.lookup x=some c->H c=none
 pin:∀p∈X.pn++pins,s.heap.get? p.1=some p.2/\H p.1=none/\p.1≠X.env.locals/\p.1 ∉ X.fs /\ ∀v,p.2.data≠.cell v
 aG:cU X.prog X.w H s.heap
 len : σ.length=X.N.length
section
variable{X:Cx}{pins:List (wf × Obj)}{σ : List (Option V)}{H H':Hp}{s:wl}{h':wF}
theorem Cx.Ok.SF(ok:X.Ok){b:wf}{o:Obj}(e:X.base.get? b=some o):b ∉ X.fs:=λhb=>by
 have:=(ok.eG.mem hb).1;rw[e]at this;cases this
theorem Inv.bs(I:Inv X pins σ H s):∀b o,X.base.get? b=some o->s.heap.get? b=some o/\H b=none:=λb o e =>
 ⟨I.base.keep b o (I.ok.bs b o e).1 (I.ok.bs b o e).2 (I.ok.SF e) (I.ok.jR b o e),I.base.free b o (I.ok.bs b o e).1 (I.ok.bs b o e).2 (I.ok.jR b o e)⟩
theorem Inv.bk(I:Inv X pins σ H s):∀b o,X.base.get? b=some o->s.heap.get? b=some o:=λb o e=>(I.bs b o e).1
theorem Inv.mod(I:Inv X pins σ H s):Mod X.K X.mg X.base:=I.ok.mod
theorem Inv.dk(I:Inv X pins σ H s):X.K.In s.heap:=I.ok.mod.oI.keeps I.bk
theorem Inv.lt(I:Inv X pins σ H s):X.env.locals<s.heap.objs.size:=let ⟨_,hn,_⟩:=I.loc;hn.lt
theorem Inv.sz(I:Inv X pins σ H s):X.s₀.heap.objs.size<=s.heap.objs.size:=vV I.ok.above (Va I.lt)
theorem Inv.SA(I:Inv X pins σ H s){a:wf}(h:s.heap.objs.size<=a):a ∉ X.fs:=λhb=>by
 obtain⟨_,o,ho,_⟩:=I.ok.eG.mem hb;exact absurd (wS (wA ho) (vV I.sz h)) (Vc _)
theorem Inv.j4(I:Inv X pins σ H s):∀x c,X.env.cells.lookup x=some c->c≠X.env.locals:=λx c e z=>by
 obtain⟨v,o,ho,hd⟩:=I.cell x c e;obtain⟨m,⟨o',es,ep,ho',hd',_⟩,_⟩:=I.loc;rw[z,ho']at ho;cases ho;rw[hd']at hd;cases hd
theorem Inv.eG(I:Inv X pins σ H s):s.heap.FunFrames X.base X.outer:=by
 have all:∀(l:List Env),(∀b∈dy l,b∈X.fs)->X.s₀.heap.FunFrames X.base l->s.heap.FunFrames X.base l:=by
  intro l
  induction l with
  | nil=>intro _ _;trivial
  | cons env r ih =>
   intro hs hl;obtain⟨hk,⟨L,o,hf,hn,ho,hd⟩,hr⟩:=hl;have hL:L∈X.fs:=hs L (by unfold dy;rw[qH,hf];exact wC);obtain⟨sl,e⟩:=I.base.slot L o ho (I.ok.iK L hL) hL λz=>I.ok.ko L z hL
   exact⟨hk,⟨L,_,hf,hn,e,hd⟩,ih (λb hb=>hs b (by unfold dy;rw[qH,hf];exact wy _ hb)) hr⟩
 exact all X.outer (λ_ hb=>hb) I.ok.eG
theorem Inv.stack(I:Inv X pins σ H s):s.heap.FunFrames X.base X.stack:=by
 rcases I.ok.kM with e | ⟨e,hf⟩
 ·rw[e];exact I.eG
 ·rw[e]
  obtain⟨m,hn,_⟩:=I.loc;refine .cons (by rw[I.ok.kind];decide) hf hn ?_ I.eG;exact Heap.get?_none_of_le (vV I.ok.ic I.ok.above)
theorem Inv.lE(I:Inv X pins σ H s):∀b∈dy X.stack,b∈X.env.locals::X.fs:=λb hb=>by
 rcases I.ok.kM with e | ⟨e,hf⟩
 ·rw[e]at hb;exact wy _ hb
 ·rw[e]at hb
  unfold dy at hb;rw[qH,hf]at hb;exact hb
theorem Inv.q_(I:Inv X pins σ H s):∀b∈dy X.stack,H b=none:=λb hb=>by
 rcases wK.mp (I.lE b hb)with e | hb
 ·rw[e];exact I.free
 ·obtain⟨_,o,ho,_⟩:=I.ok.eG.mem hb
  exact I.base.free b o ho (I.ok.iK b hb) λz=>I.ok.ko b z hb
theorem Inv.step{g':Array GenState}{t':Nat}{d':Drawn}{ch:List wf}(I:Inv X pins σ H s)
  (hch:∀b∈ch,(b∈X.ex\/X.s₀.heap.objs.size<=b)/\b≠X.env.locals/\(∀x c,X.env.cells.lookup x=some c->c≠b) /\ ∀p∈X.pn++pins,p.1≠b)
  (keep:∀b o,b≠X.env.locals->b ∉ X.fs->b ∉ ch->s.heap.get? b=some o->H b=none->h'.get? b=some o)
  (slot:∀b o,b≠X.env.locals->b∈X.fs->b ∉ ch->s.heap.get? b=some o->H b=none->∃sl,h'.get? b=some {o with slots:=sl}) (free:∀b o,b ∉ ch->s.heap.get? b=some o->H b=none->H' b=none)
  (there:∀b o,b ∉ ch->s.heap.get? b=some o->∃o',h'.get? b=some o')
  (gR:∀b xs,H b=some (.tup xs)->H' b=some (.tup xs)) (gA:∀b o u,H b=some (.fb o u)->H' b=some (.fb o u)) (gT:∀b ps,H b=some (.jX ps)->∃more,H' b=some (.jX (ps++more)))
  (ns:∀m,s.heap.Ns X.env.locals m->h'.Ns X.env.locals m) (aG:cU X.prog X.w H' h') (hg:AllBare g') :
  Inv X pins σ H' {s with heap:=h',gens:=g',drawn:=d',toks:=t'}:=by
 have neL:∀b o,X.s₀.heap.get? b=some o->b≠X.env.locals:=λb o e=>wO (wS (wA e) I.ok.above)
 have neC:∀b o,X.s₀.heap.get? b=some o->b ∉ X.ex->b ∉ ch:=λb o e hx hb=>by
  rcases (hch b hb).1 with z | z
  ·exact hx z
  ·exact absurd (wS (wA e) z) (Vc _)
 have cellK:∀x c,X.env.cells.lookup x=some c->∀v,s.heap.IsCell c v->h'.IsCell c v:=λx c e v ⟨o,ho,hd⟩=>by
  have nch:c ∉ ch:=λz=>(hch c z).2.2.1 x c e rfl
  by_cases hc:c∈X.fs
  ·obtain⟨sl,q⟩:=slot c o (I.j4 x c e) hc nch ho (I.fN x c e)
   exact⟨_,q,hd⟩
  ·exact⟨o,keep c o (I.j4 x c e) hc nch ho (I.fN x c e),hd⟩
 refine⟨I.ok,I.os,hg,⟨λb o e n hb hx=>?_,λb o e n hb hx=>?_,λb o e n hx=>?_,λb o e hx=>?_,λb xs e=>gR b xs (I.base.gR b xs e),λb o xs e=>gA b o xs (I.base.gA b o xs e),λb ps e=>?_⟩,?_,λx c e=>?_,?_,λx c e=>?_,λp hp=>?_,aG,I.len⟩
 ·exact keep b o (neL b o e) hb (neC b o e hx) (I.base.keep b o e n hb hx) (I.base.free b o e n hx)
 ·obtain⟨sl,e1⟩:=I.base.slot b o e n hb hx
  obtain⟨sl',e2⟩:=slot b _ (neL b o e) hb (neC b o e hx) e1 (I.base.free b o e n hx);exact⟨sl',e2⟩
 ·obtain⟨o',e1⟩:=I.base.there b o e hx
  exact free b o' (neC b o e hx) e1 (I.base.free b o e n hx)
 ·obtain⟨o',e1⟩:=I.base.there b o e hx
  exact there b o' (neC b o e hx) e1
 ·obtain⟨m1,e1⟩:=I.base.gT b ps e
  obtain⟨m2,e2⟩:=gT b _ e1;exact⟨m1++m2,by rw[e2,Xv]⟩
 ·obtain⟨m,hn,hl⟩:=I.loc
  refine⟨m,ns m hn,λi x v e1 e2 e3=>?_⟩;obtain⟨u,r,l⟩:=hl i x v e1 e2 e3;refine⟨u,r,?_⟩;rcases l with l | ⟨k,c,e,z⟩
  ·exact .inl l
  ·exact .inr ⟨k,c,e,cellK x c e _ z⟩
 ·obtain⟨v,z⟩:=I.cell x c e
  exact⟨v,cellK x c e v z⟩
 ·obtain⟨m,⟨o,_,_,ho,_⟩,_⟩:=I.loc
  exact free _ o (λz=>(hch _ z).2.1 rfl) ho I.free
 ·obtain⟨v,o,ho,hd⟩:=I.cell x c e
  exact free c o (λz=>(hch c z).2.2.1 x c e rfl) ho (I.fN x c e)
 ·obtain⟨e,n,ne,nf,d⟩:=I.pin p hp
  have nch:p.1 ∉ ch:=λz=>(hch p.1 z).2.2.2 p hp rfl
  exact⟨keep p.1 p.2 ne nf nch e n,free p.1 p.2 nch e n,ne,nf,d⟩
theorem Inv.un{t':Nat}(I:Inv X pins σ H s)(u:Un X.fs [] H H' s.heap h')(aG:cU X.prog X.w H' h'):Inv X pins σ H' {s with heap:=h',toks:=t'}:=by
 obtain⟨m,⟨o,es,ep,ho,r⟩,_⟩:=id I.loc;obtain⟨sl,hL⟩:=u.any ho I.free (by simp)
 exact I.step (g':=s.gens) (d':=s.drawn) (ch:=[]) (λ_ z=>nomatch z) (λb o _ hb _ e n=>u.keep b o e n hb (by simp)) (λb o _ hb _ e n=>u.slot b o e n hb (by simp)) (λb o _ e n=>u.free b o e n (by simp)) (λb o _ e=>u.there b o e (by simp)) u.gR u.gA u.gT (λm' hm=>by
  obtain⟨o',es',ep',ho',r'⟩:=hm;rw[ho]at ho';cases ho';exact⟨_,es',ep',hL,r'⟩) aG I.bare
theorem Inv.call{g':Array GenState}{t':Nat}{d':Drawn}{ch:List wf}(I:Inv X pins σ H s)(u:Un (dy X.stack) ch H H' s.heap h')(aG:cU X.prog X.w H' h')(hg:AllBare g')
  (hch:∀b∈ch,(b∈X.ex\/X.s₀.heap.objs.size<=b)/\b≠X.env.locals/\(∀x c,X.env.cells.lookup x=some c->c≠b) /\ ∀p∈X.pn++pins,p.1≠b) :
  Inv X pins σ H' {s with heap:=h',gens:=g',drawn:=d',toks:=t'}:=by
 obtain⟨m,⟨o,es,ep,ho,r⟩,_⟩:=id I.loc;obtain⟨sl,hL⟩:=u.any ho I.free λz=>(hch _ z).2.1 rfl
 exact I.step (ch:=ch) hch (λb o hL hb hc e n=>u.keep b o e n (λz=>(wK.mp (I.lE b z)).elim hL hb) hc) (λb o _ _ hc e n=>u.any e n hc) (λb o hc e n=>u.free b o e n hc) (λb o hc e=>u.there b o e hc) u.gR u.gA u.gT (λm' hm=>by
  obtain⟨o',es',ep',ho',r'⟩:=hm;rw[ho]at ho';cases ho';exact⟨_,es',ep',hL,r'⟩) aG hg
theorem Inv.turned{t':Nat}{it:wf}(I:Inv X pins σ H s)(k:∀b o,b≠it->s.heap.get? b=some o->h'.get? b=some o)(hn:H it=none)(hL:it≠X.env.locals)
  (h1:it∈X.ex\/X.s₀.heap.objs.size<=it) (h2:∀x c,X.env.cells.lookup x=some c->c≠it) (h3:∀p∈X.pn++pins,p.1≠it):Inv X pins σ H {s with heap:=h',toks:=t'}:=by
 have nit:∀b u,H b=some u->b≠it:=λb u e z=>by rw[z,hn]at e;cases e
 refine I.step (g':=s.gens) (d':=s.drawn) (ch:=[it]) (λb hb=>?_) (λb o _ _ hc e _=>k b o (λz=>hc (by simp[z])) e) (λb o _ _ hc e _=>⟨o.slots,k b o (λz=>hc (by simp[z])) e⟩) (λ_ _ _ _ n=>n)
  (λb o hc e=>⟨o,k b o (λz=>hc (by simp[z])) e⟩) (λ_ _ e=>e) (λ_ _ _ e=>e) (λb ps e=>⟨#[],by rw[e];simp⟩) (λm hm=>?_) (λb u e=>?_) I.bare
 ·have e:b=it:=by simpa using hb
  subst e;exact⟨h1,hL,h2,h3⟩
 ·obtain⟨o,es,ep,ho,r⟩:=hm
  exact⟨o,es,ep,k _ o (WA hL) ho,r⟩
 ·refine(I.aG b u e).jS (λc v hc q=>k c v ?_ q) (λ_ q=>q) λ_ _ q=>q
  rcases hc with z | z
  ·rw[z];exact nit b u e
  ·exact nit c _ z
theorem Inv.tok(I:Inv X pins σ H s)(t:Nat):Inv X pins σ H {s with toks:=t}:=I.un (h':=s.heap) (t':=t) Un.refl I.aG
theorem Inv.kept{t':Nat}(I:Inv X pins σ H s)(k:∀b u,s.heap.get? b=some u->h'.get? b=some u):Inv X pins σ H {s with heap:=h',toks:=t'}:=I.un (Un.kept k) (I.aG.kept k)
theorem Inv.laid{a:wf}{o:HO}{t':Nat}(I:Inv X pins σ H s)(k:∀b u,s.heap.get? b=some u->h'.get? b=some u)(hp:s.heap.objs.size<=a)(new:di X.prog X.w (upd H a o) h' a o) :
  Inv X pins σ (upd H a o) {s with heap:=h',toks:=t'}:=I.un (Un.laid k hp (I.aG.fresh hp)) (I.aG.laid k hp new)
theorem Inv.write{x e:wf}{o:HO}{t':Nat}(I:Inv X pins σ H s)(mu:tY (H x))(he:e=x\/H e=some (.own x))(k:∀b u,b≠e->s.heap.get? b=some u->h'.get? b=some u)(heo:∃u,h'.get? e=some u)
  (new:di X.prog X.w (upd H x o) h' x o):Inv X pins σ (upd H x o) {s with heap:=h',toks:=t'}:=I.un (Un.write mu he k heo) (I.aG.write mu he k heo new)
theorem Inv.HZ{pins':List (wf × Obj)}(I:Inv X pins σ H s)(h:∀p∈pins',s.heap.get? p.1=some p.2/\H p.1=none/\p.1≠X.env.locals/\p.1 ∉ X.fs /\ ∀v,p.2.data≠.cell v):Inv X pins' σ H s :=
 ⟨I.ok,I.os,I.bare,I.base,I.loc,I.cell,I.free,I.fN,λp hp=>(Wk.mp hp).elim (λz=>I.pin p (VR _ z)) (h p),I.aG,I.len⟩
theorem Rv{N:List Str}(hN:N.Nodup){i j:Nat}{x:Str}(a:N[i]? = some x)(b:N[j]? = some x):i=j:=by
 obtain⟨h1,e1⟩:=WE.mp a;obtain⟨h2,e2⟩:=WE.mp b;exact(List.getElem_inj hN).mp (e1.trans e2.symm)
theorem NL{M:Model}{A:wY}{E:we->wl->Prop}{i:Nat}{x:Str}{v:V}{u:we}{Q:Unit->wl->Prop}(I:Inv X pins σ H s)(hN:X.N.Nodup)(hi:X.N[i]? = some x)(hx:Loc X.env.scope x)(r:aW v u)
  (h:∀s',Inv X pins (σ.set i (some v)) H s'->(∃a,vi a s.heap s'.heap/\(a=X.env.locals\/X.env.cells.lookup x=some a))->Q () s') (hf:X.fn x=true\/X.env.scope.names.lookup x=some .local:=by first | exact .inl rfl | exact .inr rfl | assumption):wt M A (storeName X.env x u) Q E s:=by
 obtain⟨m,hn,hl⟩:=id I.loc;have hcls:(X.env.scope.kind == .class || (X.env.scope.kind == .module&&X.env.locals != X.env.globals))=false:=by rw[I.ok.kind];rfl
 have hiσ : i < σ.length:=by rw[I.len];exact(WE.mp hi).1
 have j4:=I.j4
 have tracked:∀{a:wf}{h':wF},(∃o,s.heap.get? a=some o/\H a=none)->vi a s.heap h'->cU X.prog X.w H h':=λ{a h'} ha hs b ob e=>by
  obtain⟨_,_,hfree⟩:=ha;refine(I.aG b ob e).jS (λc w' hc q=>(hs.2 c ?_).trans q) (λ_ q=>q) λ_ _ q=>q
  rintro rfl;rcases hc with rfl | hc
  ·rw[hfree]at e;cases e
  ·rw[hfree]at hc;cases hc
 rcases hx with hk | hk
 ·refine wpAny_storeName_local hk hn (λh' hn' hs=>?_) hcls
  obtain⟨oL,_,_,hoL,_⟩:=id hn;refine h _ ⟨I.ok,I.os,I.bare,⟨λb o e n hb hx=>?_,λb o e n hb hx=>?_,I.base.free,λb o e hx=>?_,I.base.gR,I.base.gA,I.base.gT⟩,⟨_,hn',λj y v' e1 e2 e3=>?_⟩,λy c e=>?_,I.free,I.fN,λp hp=>?_,tracked ⟨oL,hoL,I.free⟩ hs,by simpa using I.len⟩ ⟨_,hs,.inl rfl⟩
  ·exact(hs.2 b (wO (wS (wA e) I.ok.above))).trans (I.base.keep b o e n hb hx)
  ·obtain⟨sl,e1⟩:=I.base.slot b o e n hb hx
   exact⟨sl,(hs.2 b (wO (wS (wA e) I.ok.above))).trans e1⟩
  ·obtain⟨o',e1⟩:=I.base.there b o e hx
   exact⟨o',(hs.2 b (wO (wS (wA e) I.ok.above))).trans e1⟩
  ·by_cases hj:j=i
   ·subst hj
    rw[hi]at e1;cases e1;rw[xB hiσ]at e2;cases e2;exact⟨u,r,.inl ⟨hk,by simp⟩⟩
   ·rw[xZ (WA hj)]at e2
    obtain⟨u',r',q⟩:=hl j y v' e1 e2 e3;refine⟨u',r',?_⟩;rcases q with⟨k,e⟩ | ⟨k,c,e,z⟩
    ·refine .inl ⟨k,?_⟩
     have:y≠x:=λe=>hj (Rv hN e1 (e ▸ hi))
     simp[this,e]
    ·exact .inr ⟨k,c,e,z.sameBut hs (j4 y c e)⟩
  ·obtain⟨w',z⟩:=I.cell y c e
   exact⟨w',z.sameBut hs (j4 y c e)⟩
  ·obtain⟨e,n,ne,nf,d⟩:=I.pin p hp
   exact⟨(hs.2 p.1 ne).trans e,n,ne,nf,d⟩
 ·have hfn:X.fn x=true:=by
   rcases hf with z | z
   ·exact z
   ·rw[z]at hk;cases hk
  obtain⟨c,hc⟩:=I.ok.has x (.inl hk);obtain⟨w',z⟩:=I.cell x c hc;refine wpAny_storeName_cell I.ok.kind hk hc z (λh' hc' hs=>?_);obtain⟨oc,hoc,hocd⟩:=id z;refine h {s with heap:=h'} ⟨I.ok,I.os,I.bare,⟨λb o e n hb hx=>?_,λb o e n hb hx=>?_,I.base.free,λb o e hx=>?_,I.base.gR,I.base.gA,I.base.gT⟩,⟨m,hn.sameBut hs (WA (j4 x c hc)),λj y v' e1 e2 e3=>?_⟩,λy c' e=>?_,I.free,I.fN,λp hp=>?_,tracked ⟨oc,hoc,I.fN x c hc⟩ hs,by simpa using I.len⟩ ⟨c,hs,.inr hc⟩
  ·exact(hs.2 b (wO (wS (wA e) (I.ok.ki x c hfn hc)))).trans (I.base.keep b o e n hb hx)
  ·obtain⟨sl,e1⟩:=I.base.slot b o e n hb hx
   exact⟨sl,(hs.2 b (wO (wS (wA e) (I.ok.ki x c hfn hc)))).trans e1⟩
  ·obtain⟨o',e1⟩:=I.base.there b o e hx
   exact⟨o',(hs.2 b (wO (wS (wA e) (I.ok.ki x c hfn hc)))).trans e1⟩
  ·by_cases hj:j=i
   ·subst hj
    rw[hi]at e1;cases e1;rw[xB hiσ]at e2;cases e2;exact⟨u,r,.inr ⟨.inl hk,c,hc,hc'⟩⟩
   ·rw[xZ (WA hj)]at e2
    obtain⟨u',r',q⟩:=hl j y v' e1 e2 e3;refine⟨u',r',?_⟩;rcases q with q | ⟨k,c',e,z'⟩
    ·exact .inl q
    ·refine .inr ⟨k,c',e,z'.sameBut hs ?_⟩
     rintro rfl;exact hj (Rv hN e1 (I.ok.inj _ _ _ e hc ▸ hi))
  ·by_cases hcc:c'=c
   ·subst hcc;exact⟨_,hc'⟩
   ·obtain⟨w2,z2⟩:=I.cell y c' e
    exact⟨w2,z2.sameBut hs hcc⟩
  ·obtain⟨e,n,ne,nf,d⟩:=I.pin p hp
   refine⟨(hs.2 p.1 ?_).trans e,n,ne,nf,d⟩;intro q;rw[q,hoc]at e;have q':oc=p.2:=wQ e;exact d w' (by rw[<- q'];exact hocd)
theorem om{M:Model}{A:wY}{E:we->wl->Prop}{i:Nat}{x:Str}{v:V}{u:we}{Q:Unit->wl->Prop}(I:Inv X pins σ H s)(hN:X.N.Nodup)(hi:X.N[i]? = some x)(hx:Loc X.env.scope x)(r:aW v u)
  (h:∀s',Inv X pins (σ.set i (some v)) H s'->Q () s') (hf:X.fn x=true\/X.env.scope.names.lookup x=some .local:=by first | exact .inl rfl | exact .inr rfl | assumption):wt M A (storeName X.env x u) Q E s :=
 NL I hN hi hx r (λs' I' _=>h s' I') hf
theorem Inv.Ig{s':wl}{ch:List wf}(I:Inv X pins σ H s)(ho:s'.os=s.os)(u:Un (dy X.stack) ch H H' s.heap s'.heap)(aG:cU X.prog X.w H' s'.heap)(hg:AllBare s'.gens)
  (hch:∀b∈ch,(b∈X.ex\/X.s₀.heap.objs.size<=b)/\b≠X.env.locals/\(∀x c,X.env.cells.lookup x=some c->c≠b) /\ ∀p∈X.pn++pins,p.1≠b):Inv X pins σ H' s':=by
 obtain⟨h',g',d',t',o'⟩:=s';have e:o'=s.os:=ho;subst e;exact I.call (g':=g') (t':=t') (d':=d') u aG hg hch
end
abbrev XK:=we->Option wf->Hp->Prop
abbrev St:=List (Option V)
abbrev VK:=V->Hp->Prop
abbrev TE:=St->Hp->VK->Prop
abbrev TT:=St->Hp->(Bool->Hp->Prop)->Prop
abbrev TA:=St->Hp->(List V->Hp->Prop)->Prop
structure cj where
 nx:St->Hp->Prop
 rt:VK
 bk:St->Hp->Prop:=λ_ _=>False
 ct:St->Hp->Prop:=λ_ _=>False
abbrev TS:=cj->St->Hp->Prop
def EP(X:Cx)(pins:List (wf × Obj))(σ : St)(Q:VK)(u:we)(s':wl):Prop:=∃v H',Inv X pins σ H' s'/\aW v u/\Q v H'
def TP(X:Cx)(pins:List (wf × Obj))(σ : St)(Q:Bool->Hp->Prop)(b:Bool)(s':wl):Prop:=∃H',Inv X pins σ H' s'/\Q b H'
def AP(X:Cx)(pins:List (wf × Obj))(σ : St)(Q:List V->Hp->Prop)(us:List we)(s':wl):Prop:=∃vs H',Inv X pins σ H' s'/\aM vs us/\Q vs H'
def SP(X:Cx)(pins:List (wf × Obj))(D:cj)(f:Flow)(s':wl):Prop :=
 match f with
 | .next=>∃σ' H',Inv X pins σ' H' s'/\D.nx σ' H'
 | .brk=>∃σ' H',Inv X pins σ' H' s'/\D.bk σ' H'
 | .cont=>∃σ' H',Inv X pins σ' H' s'/\D.ct σ' H'
 | .ret u=>∃v σ' H',Inv X pins σ' H' s'/\aW v u/\D.rt v H'
def PE(X:Cx)(e:Expr)(t:TE):Prop :=
 ∀(pins:List (wf × Obj))(s:wl)(σ : St)(H:Hp)(Q:VK),Inv X pins σ H s->t σ H Q->wt (model X.prog X.w) X.A (eval e X.env) (EP X pins σ Q) X.xe s
def PT(X:Cx)(e:Expr)(t:TT):Prop :=
 ∀(pins:List (wf × Obj))(s:wl)(σ : St)(H:Hp)(Q:Bool->Hp->Prop),Inv X pins σ H s->t σ H Q->wt (model X.prog X.w) X.A (isTrue e X.env (eval e X.env)) (TP X pins σ Q) X.xe s
def PW(X:Cx)(e:Expr)(t:TT):Prop :=
 ∀(whole:Sem we)(pins:List (wf × Obj))(s:wl)(σ : St)(H:Hp)(Q:Bool->Hp->Prop),Inv X pins σ H s->t σ H Q->wt (model X.prog X.w) X.A (isTrue e X.env whole) (TP X pins σ Q) X.xe s
theorem PW.pt{X:Cx}{e:Expr}{t:TT}(h:PW X e t):PT X e t:=h _
def PA(X:Cx)(es:List Expr)(t:TA):Prop :=
 ∀(pos:Pos)(pins:List (wf × Obj))(s:wl)(σ : St)(H:Hp)(Q:List V->Hp->Prop),Inv X pins σ H s->t σ H Q->wt (model X.prog X.w) X.A (spliced (Vh pos (w5 es X.env))) (AP X pins σ Q) X.xe s
def PS(X:Cx)(st:vd)(t:TS):Prop :=
 ∀(pins:List (wf × Obj))(s:wl)(σ : St)(H:Hp)(D:cj),Inv X pins σ H s->t D σ H->wt (model X.prog X.w) X.A (exec st X.env) (SP X pins D) X.xe s
def eX(X:Cx)(st:List vd)(t:TS):Prop :=
 ∀(pins:List (wf × Obj))(s:wl)(σ : St)(H:Hp)(D:cj),Inv X pins σ H s->t D σ H->wt (model X.prog X.w) X.A (execs st X.env) (SP X pins D) X.xe s
theorem aI{α : Type}{t:Sem α}{Q Q' : α -> wl->Prop}{M:Model}{A:wY}{E:we->wl->Prop}{s:wl}(h:wt M A t Q E s)(hQ:∀a s,Q a s->Q' a s):wt M A t Q' E s:=Wy h hQ λ_ _ x=>x
section
variable{X:Cx}
def sU(i:Nat):TE:=λσ H Q=>∃v,σ[i]? = some (some v)/\Q v H
def tC(v:V):TE:=λ_ H Q=>Q v H
theorem Tp{i:Nat}{x:Str}{pos:Pos}(hN:X.N[i]? = some x)(hv:zC X.env.scope x)(hd:(x == ("__debug__" : Str))=false:=by decide)(hcd:(x == ("__classdict__" : Str))=false:=by decide):PE X (.Name x pos) (sU i):=by
 intro pins s σ H Q I h;obtain⟨v,e,h⟩:=h;obtain⟨m,hn,hl⟩:=I.loc;obtain⟨u,r,l⟩:=hl i x v hN e hv;have fin:EP X pins σ Q u s:=⟨v,H,I,r,h⟩;rcases l with⟨hk,hm⟩ | ⟨hk,c,hc,hcell⟩
 ·exact wpAny_Name (wpAny_loadName_local I.ok.kind hk hn hm fin) hd
 ·rcases hk with hk | hk
  ·exact wpAny_Name (wpAny_loadName_cell I.ok.kind hk hc hcell fin) hd
  ·exact wpAny_Name (wpAny_loadName_free I.ok.kind hk hc hcell fin hcd) hd
theorem ay{i j pos} : PE X (.Constant (.int i) j pos) (tC (.int i)):=λ_ _ _ H _ I h=>wpAny_Constant_int ⟨.int i,H,I.tok _,⟨_,rfl⟩,h⟩
theorem iZ{b j pos} : PE X (.Constant (.bool b) j pos) (tC (.bl b)):=λ_ _ _ H _ I h=>Constant_bool ⟨.bl b,H,I,rfl,h⟩
theorem g_{j pos} : PE X (.Constant .none j pos) (tC .bj):=λ_ _ _ H _ I h=>Constant_none ⟨.bj,H,I,rfl,h⟩
theorem gm{x j pos} : PE X (.Constant (.str x) j pos) (tC (.str x)):=λ_ _ _ H _ I h=>Calls.Constant_str ⟨.str x,H,I.tok _,⟨_,rfl⟩,h⟩
def Gl(X:Cx)(x:Str):Prop:=X.env.kindOf x=some .globalImplicit
theorem nU{E:we->wl->Prop}{pins:List (wf × Obj)}{s:wl}{σ : St}{H:Hp}{x:Str}{u:we}{pos:Pos}{Q:we->wl->Prop}(I:Inv X pins σ H s)(hg:Gl X x)(hm:X.mg x=some u)(h:Q u s)
  (hd:(x == ("__debug__" : Str))=false:=by decide):wt (model X.prog X.w) X.A (eval (.Name x pos) X.env) Q E s :=
 QU I.ok.kind hg (Calls.loadGlobal_global (by rw[I.ok.glob];exact I.mod.glob.keeps I.bk) hm h) hd
theorem gf{E:we->wl->Prop}{pins:List (wf × Obj)}{s:wl}{σ : St}{H:Hp}{x:Str}{u:we}{pos:Pos}{Q:we->wl->Prop}(I:Inv X pins σ H s)(hg:Gl X x)(hm:X.mg x=none)(hv:vM x=some u)(h:Q u s)
  (hn:x≠"__name__":=by decide) (hd:(x == ("__debug__" : Str))=false:=by decide):wt (model X.prog X.w) X.A (eval (.Name x pos) X.env) Q E s:=by
 obtain⟨mb,h1,h2⟩:=I.mod.blt;exact QU I.ok.kind hg (Calls.loadGlobal_builtin (by rw[I.ok.glob];exact I.mod.glob.keeps I.bk) hm (by rw[I.ok.blt];exact h1.keeps I.bk) ((h2 x hn).trans hv) h) hd
theorem bW{x:Str}{v:V}{u:we}{pos:Pos}(hg:Gl X x)(hm:X.mg x=some u)(r:aW v u)(hd:(x == ("__debug__" : Str))=false:=by decide):PE X (.Name x pos) (tC v) :=
 λ_ _ _ H _ I h=>nU I hg hm ⟨v,H,I,r,h⟩ hd
theorem nh{x:Str}{v:V}{u:we}{pos:Pos}(hg:Gl X x)(hm:X.mg x=none)(hv:vM x=some u)(r:aW v u)(hn:x≠"__name__":=by decide)(hd:(x == ("__debug__" : Str))=false:=by decide):PE X (.Name x pos) (tC v) :=
 λ_ _ _ H _ I h=>gf I hg hm hv ⟨v,H,I,r,h⟩ hn hd
def t2I(ta tb:TE)(k:Int->Int->Hp->Prop):St->Hp->Prop:=λσ H=>ta σ H λx H1=>tb σ H1 λy H2=>∃i j,x=.int i/\y=.int j/\k i j H2
variable{a b:Expr}{ta tb:TE}{pos:Pos}
def lR(p:Int->Int->Bool)(ta tb:TE):TE:=λσ H Q=>t2I ta tb (λi j H2=>Q (.bl (p i j)) H2) σ H
abbrev tLt:TE->TE->TE:=lR λi j=>decide (i<j)
abbrev tLe:TE->TE->TE:=lR λi j=>decide (i<=j)
abbrev tGt:TE->TE->TE:=lR λi j=>decide (j<i)
abbrev tGe:TE->TE->TE:=lR λi j=>decide (j<=i)
abbrev zDa:TE->TE->TE:=lR λi j=>decide (i=j)
abbrev zDb:TE->TE->TE:=lR λi j=>!decide (i=j)
def tB(t:TE):TT:=λσ H Q=>t σ H λx H1=>∃c,x=.bl c/\Q c H1
theorem dD{e:Expr}{t:TE}(h:PE X e t)(he:∀whole,isTrue e X.env whole=(do let v <- whole;standAt e.pos;holding [v] (truthy v)):=by intro _;rfl):PT X e (tB t):=by
 intro pins s σ H Q I hw;refine isTrue_plain (aI (h pins s σ H _ I hw) λv s1 ⟨x,H1,I1,r1,q1⟩=>?_) (he _);obtain⟨d,rfl,q⟩:=q1;cases r1;exact Wq ⟨H1,I1,q⟩
variable{tA tB':TT}{cH:List Expr}
def O1(t u:TT):TT:=λσ H Q=>t σ H λc H1=>if c=true then u σ H1 Q else Q false H1
def N9(t u:TT):TT:=λσ H Q=>t σ H λc H1=>if c=true then Q true H1 else u σ H1 Q
def Lh(t:TT):TT:=λσ H Q=>t σ H λc H1=>Q (!c) H1
theorem Zs(ha:PT X a tA):PW X (.BoolOp .And [a] pos) tA:=by
 intro wh pins s σ H Q I h;refine isTrue_and (aI (ha pins s σ H Q I h) λc s1 e=>?_);cases c with
 | true=>exact isTrue_and_nil e
 | false=>exact e
theorem jV(ha:PT X a tA):PW X (.BoolOp .Or [a] pos) tA:=by
 intro wh pins s σ H Q I h;refine isTrue_or (aI (ha pins s σ H Q I h) λc s1 e=>?_);cases c with
 | false=>exact isTrue_or_nil e
 | true=>exact e
theorem Yg(ha:PT X a tA)(hb:PW X (.BoolOp .And (b::cH) pos) tB'):PW X (.BoolOp .And (a::b::cH) pos) (O1 tA tB'):=by
 intro wh pins s σ H Q I h;refine isTrue_and (aI (ha pins s σ H _ I h) λc s1 ⟨H1,I1,q1⟩=>?_);cases c with
 | true=>exact hb wh pins s1 σ H1 Q I1 q1
 | false=>exact⟨H1,I1,q1⟩
theorem jD(ha:PT X a tA)(hb:PW X (.BoolOp .Or (b::cH) pos) tB'):PW X (.BoolOp .Or (a::b::cH) pos) (N9 tA tB'):=by
 intro wh pins s σ H Q I h;refine isTrue_or (aI (ha pins s σ H _ I h) λc s1 ⟨H1,I1,q1⟩=>?_);cases c with
 | true=>exact⟨H1,I1,q1⟩
 | false=>exact hb wh pins s1 σ H1 Q I1 q1
theorem ee(ha:PT X a tA):PT X (.UnaryOp .Not a pos) (Lh tA):=by
 intro pins s σ H Q I h;exact isTrue_not (ha pins s σ H (λc H1=>Q (!c) H1) I h)
def Jc(ta tb:TE):TE:=λσ H Q=>ta σ H λx H1=>∃c,x=.bl c/\if c=true then tb σ H1 Q else Q (.bl false) H1
def Mc(ta:TE):TE:=λσ H Q=>ta σ H λx H1=>∃c,x=.bl c/\Q (.bl (!c)) H1
theorem kR{op}{t:TE}(h:PE X a t):PE X (.BoolOp op [a] pos) t:=λpins s σ H Q I hw=>BoolOp_one (h pins s σ H Q I hw)
theorem hV(ha:PE X a ta)(hb:PE X (.BoolOp .And (b::cH) pos) tb):PE X (.BoolOp .And (a::b::cH) pos) (Jc ta tb):=by
 intro pins s σ H Q I h;refine BoolOp_and (aI (ha pins s σ H _ I h) λv s1 ⟨x,H1,I1,r1,q1⟩=>?_);obtain⟨c,rfl,q1⟩:=q1;cases r1;refine Wq ?_;cases c with
 | true=>exact hb pins s1 σ H1 Q I1 q1
 | false=>exact⟨.bl false,H1,I1,rfl,q1⟩
theorem my(ha:PE X a ta):PE X (.UnaryOp .Not a pos) (Mc ta):=by
 intro pins s σ H Q I h;refine UnaryOp_ (aI (ha pins s σ H _ I h) λv s1 ⟨x,H1,I1,r1,q1⟩=>?_);obtain⟨c,rfl,q1⟩:=q1;cases r1;exact not_of (Wq ⟨.bl (!c),H1,I1,rfl,q1⟩)
def Ky(t:TT)(ta tb:TE):TE:=λσ H Q=>t σ H λc H1=>if c=true then ta σ H1 Q else tb σ H1 Q
theorem yI{c:Expr}(hc:PT X c tA)(ha:PE X a ta)(hb:PE X b tb):PE X (.IfExp c a b pos) (Ky tA ta tb):=by
 intro pins s σ H Q I h;refine wpAny_IfExp (aI (hc pins s σ H _ I h) λd s1 ⟨H1,I1,q1⟩=>?_);cases d with
 | true=>exact ha pins s1 σ H1 Q I1 q1
 | false=>exact hb pins s1 σ H1 Q I1 q1
end
def aK(K:wb)(H:Hp)(a:wf)(xs:List V):Prop :=
 Rd H a (.lst xs) \/
  ∃(o:Obj)(its:Array we)(n:Nat),K.lookup a=some o/\o.cls=.type "list"/\o.dict=none/\o.data=.seq its n/\its.size<=wZ/\aM xs its.toList
def aR(K:wb)(H:Hp)(a:wf)(xs:List V):Prop :=
 Rd H a (.tup xs) \/
  ∃(o:Obj)(its:Array we)(n:Nat),K.lookup a=some o/\o.cls=.type "tuple"/\o.data=.seq its n/\its.size<=wZ/\aM xs its.toList
def YJ:we->Option V
 | .none=>some .bj
 | .bool b=>some (.bl b)
 | .int i _=>some (.int i)
 | .str x _=>some (.str x)
 | .bytes b _=>some (.byt b)
 | .float b _=>some (.kZ b)
 | .ref a=>some (.ref a)
 | .type n=>some (.ty n)
 | _=>none
theorem aW.abs{x:V}{u:we}(r:aW x u):YJ u=some x:=by
 cases x with
 | bj=>cases r;rfl
 | bl _=>cases r;rfl
 | int _=>obtain⟨t,rfl⟩:=r;rfl
 | str _=>obtain⟨t,rfl⟩:=r;rfl
 | byt _=>obtain⟨t,rfl⟩:=r;rfl
 | kZ _=>obtain⟨t,rfl⟩:=r;rfl
 | ref _=>cases r;rfl
 | ty _=>cases r;rfl
theorem aW.inj{x y:V}{u:we}(r:aW x u)(q:aW y u):x=y:=wQ (r.abs.symm.trans q.abs)
theorem aM.inj:∀{xs ys:List V}{us:List we},aM xs us->aM ys us->xs=ys
 | _,_,_,.nil,.nil=>rfl
 | _,_,_,.cons r t,.cons r' t'=>by rw[r.inj r',aM.inj t t']
section
variable{X:Cx}{pins:List (wf × Obj)}{σ : St}{H:Hp}{s:wl}{a:wf}{xs ys:List V}
theorem aK.of{K:wb}(h:H a=some (.lst xs)):aK K H a xs:=.inl (.inl h)
theorem aR.of{K:wb}(h:H a=some (.tup xs)):aR K H a xs:=.inl (.inl h)
theorem Inv.list(I:Inv X pins σ H s)(h:aK X.K H a xs):∃its:List we,aM xs its/\PlainL s.heap a its.toArray/\xs.length<=wZ:=by
 rcases h with h | ⟨o,its,n,hk,hc,hd,hs,hz,r⟩
 ·obtain⟨z,its,n,r,e⟩:=h.ok I.aG
  exact⟨its,r,⟨_,n,e,rfl,rfl,rfl⟩,z⟩
 ·refine⟨its.toList,r,⟨o,n,I.dk a o hk,hc,hd,by simpa using hs⟩,?_⟩
  have e:=r.length;simp only[wJ]at e;omega
theorem Inv.tuple(I:Inv X pins σ H s)(h:aR X.K H a xs):∃its:List we,aM xs its/\IsTup s.heap a its.toArray/\xs.length<=wZ:=by
 rcases h with h | ⟨o,its,n,hk,hc,hs,hz,r⟩
 ·obtain⟨z,its,r,p⟩:=h.ok I.aG
  exact⟨its,r,p,z⟩
 ·refine⟨its.toList,r,⟨o,I.dk a o hk,hc,n,by simpa using hs⟩,?_⟩
  have e:=r.length;simp only[wJ]at e;omega
theorem Inv.Az(I:Inv X pins σ H s)(h:aK X.K H a xs)(h':aK X.K H a ys):xs=ys:=by
 obtain⟨its,r,⟨o,n,e,_,_,d⟩,_⟩:=I.list h;obtain⟨its',r',⟨o',n',e',_,_,d'⟩,_⟩:=I.list h';rw[e]at e';cases e';rw[d]at d'
 injection d' with d1 _
 have:its=its':=by simpa using congrArg Uk d1
 subst this;exact r.inj r'
theorem Inv.As(I:Inv X pins σ H s)(h:aR X.K H a xs)(h':aR X.K H a ys):xs=ys:=by
 obtain⟨its,r,⟨o,e,_,n,d⟩,_⟩:=I.tuple h;obtain⟨its',r',⟨o',e',_,n',d'⟩,_⟩:=I.tuple h';rw[e]at e';cases e';rw[d]at d'
 injection d' with d1 _
 have:its=its':=by simpa using congrArg Uk d1
 subst this;exact r.inj r'
end
abbrev Cx.iC(X:Cx)(E:we->wl->Prop):Cx:={X with xe:=E}
abbrev Cx.yf(X:Cx):Cx:=X.iC λ_ _=>False
theorem Cx.Ok.iC{X:Cx}(ok:X.Ok)(E:we->wl->Prop):(X.iC E).Ok :=
 ⟨ok.mod,ok.kind,ok.glob,ok.blt,ok.above,ok.inj,ok.has,ok.ki,ok.hd,ok.frames,ok.kM,ok.oh,ok.bs,ok.ic,ok.jR,ok.ko,ok.eG,ok.iK⟩
theorem Cx.Ok.jP{X:Cx}{E:we->wl->Prop}(ok:(X.iC E).Ok):X.Ok :=
 ⟨ok.mod,ok.kind,ok.glob,ok.blt,ok.above,ok.inj,ok.has,ok.ki,ok.hd,ok.frames,ok.kM,ok.oh,ok.bs,ok.ic,ok.jR,ok.ko,ok.eG,ok.iK⟩
section
variable{X:Cx}{pins:List (wf × Obj)}{σ : St}{H:Hp}{s:wl}{E:we->wl->Prop}
theorem Inv.iC(I:Inv X pins σ H s)(E:we->wl->Prop):Inv (X.iC E) pins σ H s:=⟨I.ok.iC E,I.os,I.bare,I.base,I.loc,I.cell,I.free,I.fN,I.pin,I.aG,I.len⟩
theorem Inv.jP(I:Inv (X.iC E) pins σ H s):Inv X pins σ H s:=⟨I.ok.jP,I.os,I.bare,I.base,I.loc,I.cell,I.free,I.fN,I.pin,I.aG,I.len⟩
theorem SP.jP{D:cj}{f:Flow}{s':wl}(h:SP (X.iC E) pins D f s'):SP X pins D f s':=by
 cases f with
 | next=>obtain⟨σ',H',I,q⟩:=h;exact⟨σ',H',I.jP,q⟩
 | brk=>obtain⟨σ',H',I,q⟩:=h;exact⟨σ',H',I.jP,q⟩
 | cont=>obtain⟨σ',H',I,q⟩:=h;exact⟨σ',H',I.jP,q⟩
 | ret u=>obtain⟨v,σ',H',I,r,q⟩:=h;exact⟨v,σ',H',I.jP,r,q⟩
theorem eX.yf{st:List vd}{t:TS}(h:eX X.yf st t):eX X st t:=λpins s σ H D I hw =>
 Wy (h pins s σ H D (I.iC _) hw) (λ_ _ q=>q.jP) λ_ _ z=>WU z
end
section
variable{X:Cx}{st:vd}{cH:List vd}{t u:TS}{e:Expr}{te:TE}{pos:Pos}
def M9:TS:=λD σ H=>D.nx σ H
def Er(t u:TS):TS:=λD σ H=>t {D with nx:=u D} σ H
theorem bQ:eX X [] M9:=λ_ _ σ H _ I h=>qN ⟨σ,H,I,h⟩
theorem ao(h1:PS X st t)(h2:eX X cH u):eX X (st::cH) (Er t u):=by
 intro pins s σ H D I h;refine wpAny_execs_cons (aI (h1 pins s σ H {D with nx:=u D} I h) λf s1 q=>?_);cases f with
 | next =>
  obtain⟨σ',H',I',q⟩:=q;exact h2 pins s1 σ' H' D I' q
 | ret v=>exact q
 | brk=>exact q
 | cont=>exact q
theorem av(h1:PS X st t):eX X [st] t:=by
 intro pins s σ H D I h;refine wpAny_execs_cons (aI (h1 pins s σ H D I h) λf s1 q=>?_);cases f with
 | next=>exact qN q
 | ret v=>exact q
 | brk=>exact q
 | cont=>exact q
theorem Inv.quiet{pins:List (wf × Obj)}{σ : St}{H:Hp}{s:wl}(I:Inv X pins σ H s):interactive X.env=false:=by simp[interactive,I.ok.kind]
def LC(te:TE):TS:=λD σ H=>te σ H λ_ H1=>D.nx σ H1
theorem mD(he:PE X e te)(hs:swapsWith e none pos.line X.env=pure false:=by rfl):PS X (.Expr e pos) (LC te):=by
 intro pins s σ H D I h;exact wpAny_Expr_any (aI (he pins s σ H _ I h) λv s1 ⟨x,H1,I1,r1,q1⟩=>⟨σ,H1,I1,q1⟩) I.quiet hs
def RK(te:TE):TS:=λD σ H=>te σ H D.rt
theorem aE(he:PE X e te):PS X (.Return (some e) pos) (RK te):=by
 intro pins s σ H D I h;exact wpAny_Return_some (aI (he pins s σ H _ I h) λv s1 ⟨x,H1,I1,r1,q1⟩=>⟨x,σ,H1,I1,r1,q1⟩)
def O8(c:TT)(t u:TS):TS:=λD σ H=>c σ H λb H1=>if b=true then t D σ H1 else u D σ H1
theorem bP{c:Expr}{a b:List vd}{tc:TT}(hc:PT X c tc)(ha:eX X a t)(hb:eX X b u):PS X (.If c a b pos) (O8 tc t u):=by
 intro pins s σ H D I h;refine wpAny_If (aI (hc pins s σ H _ I h) λd s1 ⟨H1,I1,q1⟩=>?_);cases d with
 | true=>exact ha pins s1 σ H1 D I1 q1
 | false=>exact hb pins s1 σ H1 D I1 q1
def zBM:TS:=λ_ _ _=>False
theorem A8:PS X st zBM:=λ_ _ _ _ _ _ h=>h.elim
end
abbrev TG:=V->St->Hp->(St->Hp->Prop)->Prop
abbrev jC:=List V->St->Hp->(St->Hp->Prop)->Prop
def PG(X:Cx)(target:Expr)(t:TG):Prop :=
 ∀(pins:List (wf × Obj))(s:wl)(σ : St)(H:Hp)(v:V)(u:we)(Q:St->Hp->Prop),Inv X pins σ H s->aW v u->t v σ H Q ->
  wt (model X.prog X.w) X.A (assign target X.env u) (λ_ s'=>∃σ' H',Inv X pins σ' H' s'/\Q σ' H') X.xe s
def zK(X:Cx)(ts:List Expr)(t:jC):Prop :=
 ∀(pins:List (wf × Obj))(s:wl)(σ : St)(H:Hp)(vs:List V)(us:List we)(Q:St->Hp->Prop),Inv X pins σ H s->aM vs us->t vs σ H Q ->
  wt (model X.prog X.w) X.A (assignInOrder ((assignEach ts X.env).map (·.2)) us) (λ_ s'=>∃σ' H',Inv X pins σ' H' s'/\Q σ' H') X.xe s
abbrev sG:=V->V->V->Hp->(Hp->Prop)->Prop
def RW(X:Cx)(t:sG):Prop :=
 ∀(pins:List (wf × Obj))(s:wl)(σ : St)(H:Hp)(o i v:V)(ov iv u:we)(Q:Hp->Prop),Inv X pins σ H s->aW o ov->aW i iv->aW v u->t o i v H Q ->
  wt (model X.prog X.w) X.A (setItem ov iv u) (λ_ s'=>∃H',Inv X pins σ H' s'/\Q H') X.xe s
abbrev oF:=V->V->Hp->VK->Prop
def O_(X:Cx)(op:Operator)(t:oF):Prop :=
 ∀(pins:List (wf × Obj))(s:wl)(σ : St)(H:Hp)(x y:V)(v u:we)(Q:VK),Inv X pins σ H s->aW x v->aW y u->t x y H Q ->
  wt (model X.prog X.w) X.A (inplaceOp op v u) (EP X pins σ Q) X.xe s
section
variable{X:Cx}{pos:Pos}
def iX(i:Nat):TG:=λv σ H Q=>Q (σ.set i (some v)) H
theorem bL{i:Nat}{x:Str}(hN:X.N.Nodup)(hi:X.N[i]? = some x)(hx:Loc X.env.scope x)(hf:X.fn x=true\/X.env.scope.names.lookup x=some .local:=by first | exact .inl rfl | exact .inr rfl | assumption):PG X (.Name x pos) (iX i):=by
 intro pins s σ H v u Q I r h;exact wpAny_assign_Name (om I hN hi hx r (λs' I'=>⟨_,H,I',h⟩) hf)
def Jy:jC:=λvs σ H Q=>vs=[]/\Q σ H
def L5(t:TG)(u:jC):jC:=λvs σ H Q=>∃v r,vs=v::r/\t v σ H λσ' H'=>u r σ' H' Q
theorem nk:zK X [] Jy:=by
 intro pins s σ H vs us Q I r h;obtain⟨e,h⟩:=h;subst e;cases r;exact assignInOrder_nil ⟨σ,H,I,h⟩
theorem gC{e:Expr}{es:List Expr}{t:TG}{u:jC}(h1:PG X e t)(h2:zK X es u)
  (hs:(assignEach (e::es) X.env).map (·.2)=assign e X.env::(assignEach es X.env).map (·.2):=by rfl):zK X (e::es) (L5 t u):=by
 intro pins s σ H vs us Q I r h;obtain⟨v,vr,e1,h⟩:=h;subst e1;cases r with
 | cons r rr =>
  rw[hs];refine assignInOrder_cons (aI (h1 pins s σ H _ _ _ I r h) λ_ s1 ⟨σ1,H1,I1,q1⟩=>?_);exact h2 pins s1 σ1 H1 _ _ Q I1 rr q1
def kz(K:wb)(n:Nat)(t:jC):TG:=λv σ H Q=>∃a xs,v=.ref a/\aR K H a xs/\xs.length=n/\t xs σ H Q
theorem mW{es:List Expr}{k:Nat}{t:jC}{n:Nat}(hc:X.calm=true)(h:zK X es t)
  (hn:(assignEach es X.env).length=n:=by rfl) (hst:(assignEach es X.env).findIdx? (·.1)=none:=by rfl):PG X (.Tuple es k pos) (kz X.K n t):=by
 intro pins s σ H v u Q I r hw;obtain⟨a,xs,e1,hq,hl,hw⟩:=hw;subst e1;cases r;obtain⟨its,rv,ht,hz⟩:=I.tuple hq;refine assign_Tuple_tuple (I.ok.hd hc) ht (by simp[hn,<- hl,rv.length]) hst λh' hx=>?_
 have I1:Inv X pins σ H {s with heap:=h'}:=I.kept (t':=s.toks) λb o e=>hx b o (wO (wA e)) e
 exact h pins _ σ H xs _ Q I1 (by simpa using rv) hw
def PR(to ti:TE)(t:sG):TG:=λv σ H Q=>to σ H λo H1=>ti σ H1 λi H2=>t o i v H2 λH3=>Q σ H3
theorem pA{o i:Expr}{to ti:TE}{t:sG}(ho:PE X o to)(hi:PE X i ti)(hs:RW X t)
  (ha:∀v,assign (.Subscript o i pos) X.env v=(do
   let ov <- holding [v] (eval o X.env)
   let iv <- holding [v,ov] (eval i X.env)
   standAt pos
   holding [v,ov,iv] (setItem ov iv v)
   release [v,ov,iv] []):=by intro _;rfl):PG X (.Subscript o i pos) (PR to ti t):=by
 intro pins s σ H v u Q I r h;rw[ha];refine wg (Wg (aI (ho pins s σ H _ I h) λov s1 ⟨x,H1,I1,r1,q1⟩=>?_));refine wg (Wg (aI (hi pins s1 σ H1 _ I1 q1) λiv s2 ⟨y,H2,I2,r2,q2⟩=>?_));refine wg (wpAny_standAt (wg (Wg (aI (hs pins s2 σ H2 x y v ov iv u _ I2 r1 r2 r q2) λ_ s3 ⟨H3,I3,q3⟩=>?_))));exact wpAny_release ⟨σ,H3,I3,q3⟩
def ly(te:TE)(g:TG):TS:=λD σ H=>te σ H λx H1=>g x σ H1 D.nx
theorem mC{tg e:Expr}{te:TE}{g:TG}(he:PE X e te)(hg:PG X tg g)(hs:swapsWithSole [tg] e pos.line X.env=pure false:=by rfl)(hw:swappedStores [tg] e X.env=pure none:=by rfl)
  (h1:(assignEach [tg] X.env).map (·.2)=[assign tg X.env]:=by rfl):PS X (.Assign [tg] e pos) (ly te g):=by
 intro pins s σ H D I h;refine wpAny_Assign_stores (aI (he pins s σ H _ I h) λv s1 ⟨x,H1,I1,r1,q1⟩=>?_) hs hw;rw[h1];exact aI (hg pins s1 σ H1 x v _ I1 r1 q1) λ_ s2 q=>q
theorem zBA{i:Nat}{x:Str}{e:Expr}{te:TE}{pos':Pos}(hN:X.N.Nodup)(hi:X.N[i]? = some x)(hx:Loc X.env.scope x)(he:PE X e te)(hs:swapsWith e (some (.Name x pos')) pos.line X.env=pure false:=by rfl)(hf:X.fn x=true\/X.env.scope.names.lookup x=some .local:=by first | exact .inl rfl | exact .inr rfl | assumption) :
  PS X (.Assign [.Name x pos'] e pos) (ly te (iX i)):=by
 intro pins s σ H D I h;refine wpAny_Assign_Name (aI (he pins s σ H _ I h) λv s1 ⟨y,H1,I1,r1,q1⟩=>?_) hs;exact om I1 hN hi hx r1 (λs2 I2=>⟨_,H1,I2,q1⟩) hf
def OD(i j:Nat)(ta:TA):TS:=λD σ H=>ta σ H λvs H1=>∃v w,vs=[v,w]/\D.nx ((σ.set i (some v)).set j (some w)) H1
theorem Yj{i j:Nat}{x y:Str}{a b:Expr}{ta:TA}{px py pt:Pos}{kt k2 pt2}(hc:X.calm=true)(hN:X.N.Nodup)(hi:X.N[i]? = some x)(hj:X.N[j]? = some y)(hij:i≠j)
  (hx:X.env.scope.names.lookup x=some .local) (hy:X.env.scope.names.lookup y=some .local) (ha:PA X [a,b] ta)
  (hw:swappedStores [.Tuple [.Name x px,.Name y py] kt pt] (.Tuple [a,b] k2 pt2) X.env=pure (some [x,y]))
  (hs:swapsWithSole [.Tuple [.Name x px,.Name y py] kt pt] (.Tuple [a,b] k2 pt2) pos.line X.env=pure false:=by rfl) :
  PS X (.Assign [.Tuple [.Name x px,.Name y py] kt pt] (.Tuple [a,b] k2 pt2) pos) (OD i j ta):=by
 intro pins s σ H D I h;rw[exec_Assign_arm];refine wg (wpAny_standAt ?_);rw[hs];refine wg (wp ?_);rw[if_neg (by decide)];refine wg (Tuple_ (aI (ha _ pins s σ H _ I h) λus s1 ⟨vs,H1,I1,r1,q1⟩=>?_));obtain⟨v,w,e1,q1⟩:=q1;subst e1
 obtain⟨u1,u2,rfl,rv,rw'⟩:∃u1 u2,us=[u1,u2]/\aW v u1/\aW w u2:=by
  cases r1 with
  | cons p q =>
   cases q with
   | cons p' q' =>
    cases q';exact⟨_,_,rfl,p,p'⟩
 refine WC ?_ (by show 2<=wZ;decide);have I2:Inv X pins σ H1 {s1 with heap:=s1.heap.push {cls:=.type "tuple",data:=.seq [u1,u2].toArray}}:=I1.kept (t':=s1.toks) λb o e=>wn _ e
 rw[hw];refine wg (wp ?_)
 show wt (model X.prog X.w) X.A (do rule "assign.swapped-stores";let items <- unpackItems (.ref s1.heap.objs.size) 2 none;assignInOrder [λv=>bindName X.env y v,λv=>bindName X.env x v] items.reverse;pure Flow.next) _ _ _
 refine wg (wpAny_rule (wg (unpackItems_tuple (items:=#[u1,u2]) (I.ok.hd hc) (Qq s1.heap _) λh' hx'=>?_)));have I3:=I2.kept (h':=h') (t':=s1.toks) λb o e=>hx' b o (wO (wA e)) e
 show wt _ _ (assignInOrder [λv=>bindName X.env y v,λv=>bindName X.env x v] [u2,u1] >>= λ_=>pure Flow.next) _ _ _
 refine wg (assignInOrder_cons (wpAny_bindName (om I3 hN hj (.inl hy) rw' (λs2 I4=>?_) (.inr hy))));refine assignInOrder_cons (wpAny_bindName (om I4 hN hi (.inl hx) rv (λs3 I5=>assignInOrder_nil (wp ?_)) (.inr hx)));rw[List.set_comm _ _ (WA hij)]at I5;exact⟨_,H1,I5,q1⟩
def OT(i:Nat)(te:TE)(ti:oF):TS:=λD σ H=>∃x,σ[i]? = some (some x)/\te σ H λy H1=>ti x y H1 λz H2=>D.nx (σ.set i (some z)) H2
theorem UQ{i:Nat}{x:Str}{e:Expr}{te:TE}{op:Operator}{ti:oF}{pos':Pos}(hN:X.N.Nodup)(hi:X.N[i]? = some x)(hx:Loc X.env.scope x)(he:PE X e te)(ho:O_ X op ti)(hf:X.fn x=true\/X.env.scope.names.lookup x=some .local:=by first | exact .inl rfl | exact .inr rfl | assumption) :
  PS X (.AugAssign (.Name x pos') op e pos) (OT i te ti):=by
 intro pins s σ H D I h;obtain⟨v,e1,h⟩:=h;obtain⟨m,hn,hl⟩:=I.loc;have Cn:zC X.env.scope x:=by rcases hx with k | k;exact .inl k;exact .inr (.inl k)
 obtain⟨u,r,l⟩:=hl i x v hi e1 Cn;refine wpAny_AugAssign_Name ?_
 have go:wt (model X.prog X.w) X.A (eval e X.env) (λw s₂=>wt (model X.prog X.w) X.A (inplaceOp op u w) (λr s₃=>wt (model X.prog X.w) X.A (storeName X.env x r) (λ_=>SP X pins D .next) X.xe s₃) X.xe s₂) X.xe s:=by
  refine aI (he pins s σ H _ I h) λw s1 ⟨y,H1,I1,r1,q1⟩=>?_
  refine aI (ho pins s1 σ H1 v y u w _ I1 r r1 q1) λz s2 ⟨zv,H2,I2,r2,q2⟩=>?_
  exact om I2 hN hi hx r2 (λs3 I3=>⟨_,H2,I3,q2⟩) hf
 rcases l with⟨hk,hm⟩ | ⟨hk,c,hc,hcell⟩
 ·exact wpAny_loadName_local I.ok.kind hk hn hm go
 ·rcases hk with hk | hk
  ·exact wpAny_loadName_cell I.ok.kind hk hc hcell go
  ·rcases hx with k | k
   ·have:X.env.scope.names.lookup x=some .free:=hk
    rw[k]at this;cases this
   ·have:X.env.scope.names.lookup x=some .free:=hk
    rw[k]at this;cases this
def Jf(f:Int->Int->Int):oF:=λx y H Q=>∃i j,x=.int i/\y=.int j/\Q (.int (f i j)) H
theorem zBJ:O_ X .Add (Jf λi j=>i+j):=by
 intro pins s σ H x y v u Q I r1 r2 h;obtain⟨i,j,e1,e2,q⟩:=h;subst e1;subst e2;obtain⟨t,rfl⟩:=r1;obtain⟨t',rfl⟩:=r2;exact iadd_int ⟨.int _,H,I.tok _,⟨_,rfl⟩,q⟩
end
section
variable{X:Cx}{pos:Pos}
def BP(c:TT)(tb:TS):TS:=λD σ H=>∃W:Nat->St->Hp->Prop,(∃m,W m σ H) /\ ∀m σ H,W m σ H ->
 c σ H λb H1=>if b=true then ∃N:St->Hp->Prop,(∀σ' H',N σ' H'->∃m',m'<m/\W m' σ' H')/\tb {D with nx:=N,ct:=N,bk:=D.nx} σ H1 else D.nx σ H1
theorem lU{c:Expr}{body:List vd}{tc:TT}{tb:TS}(hp:PassesOwn (model X.prog X.w) X.A X.env X.xe)(hc:PT X c tc)(hb:eX X body tb):PS X (.While c body [] pos) (BP tc tb):=by
 intro pins s σ H D I h;obtain⟨W,⟨m0,w0⟩,turn⟩:=h;refine wpAny_While (codeAny_whileLoop (λn s'=>∃σ' H',Inv X pins σ' H' s'/\W n σ' H') ?_ m0 ⟨σ,H,I,w0⟩);rintro n s1 ⟨σ1,H1,I1,w1⟩;refine VA hp (aI (hc pins s1 σ1 H1 _ I1 (turn n σ1 H1 w1)) λb s2 ⟨H2,I2,q2⟩=>?_);cases b with
 | true =>
  obtain⟨N,hN,q2⟩:=q2;rw[if_pos rfl];refine VA hp (aI (hb pins s2 σ1 H2 _ I2 q2) λf s3 q3=>?_);cases f with
  | next =>
   obtain⟨σ3,H3,I3,n3⟩:=q3;obtain⟨m',hm,w3⟩:=hN σ3 H3 n3;exact⟨m',hm,σ3,H3,I3,w3⟩
  | cont =>
   obtain⟨σ3,H3,I3,n3⟩:=q3;obtain⟨m',hm,w3⟩:=hN σ3 H3 n3;exact⟨m',hm,σ3,H3,I3,w3⟩
  | brk=>exact q3
  | ret v=>exact q3
 | false =>
  rw[if_neg vC];exact qN ⟨σ1,H2,I2,q2⟩
end
structure It where
 go:Nat->Hp->Prop
 fD:Nat->Hp->V->Hp->Prop
 stop:Nat->Hp->Prop
def d8(X:Cx)(pins:List (wf × Obj))(H:Hp)(b:wf):Prop :=
 H b=none/\b≠X.env.locals/\b ∉ X.fs/\(b∈X.ex\/X.s₀.heap.objs.size<=b)/\(∀x c,X.env.cells.lookup x=some c->c≠b) /\ ∀p∈X.pn++pins,p.1≠b
theorem Inv.ji{X:Cx}{pins:List (wf × Obj)}{σ : St}{H H':Hp}{s:wl}{b:wf}(I:Inv X pins σ H s)(hb:s.heap.objs.size<=b)(hn:H' b=none):d8 X pins H' b:=by
 refine⟨hn,vg (wS I.lt hb),I.SA hb,.inr (vV I.sz hb),λx c e z=>?_,λp hp z=>?_⟩
 ·obtain⟨v,q⟩:=I.cell x c e
  exact absurd (wS q.lt (by rw[z];exact hb)) (Vc _)
 ·exact absurd (wS (wA (I.pin p hp).1) (by rw[z];exact hb)) (Vc _)
structure iR(P:wH)(w:wI)(K:wb)(tg:Expr)(J:It)(fp:List wf)(it:wf)(tn:Nat->wF->Prop):Prop where
 mem:it∈fp
 obj:∀i h,tn i h->∀b∈fp,∃o,h.get? b=some o /\ ∀v,o.data≠.cell v
 keep:∀i h h',tn i h->(∀b∈fp,∀o,h.get? b=some o->h'.get? b=some o)->tn i h'
 item:∀(X:Cx),X.prog=P->X.w=w->X.K=K->X.calm=true->∀(i:Nat)(pins:List (wf × Obj))(s:wl)(σ : St)(H:Hp)(E:we->wl->Prop),Inv X pins σ H s->(∀b∈fp,d8 X pins H b)->tn i s.heap->J.go i H ->
   wt (model P w) X.A (VO (.ref it)) (λr s1=>∃u,r=some u /\
     wt (model P w) X.A (qO tg (.ref it) u) (λ_ s2=>∃x H',Inv X pins σ H' s2/\aW x u/\J.fD i H x H'/\tn (i+1) s2.heap /\ ∀b∈fp,H' b=none) E s1) E s
 done:∀(X:Cx),X.prog=P->X.w=w->X.K=K->X.calm=true->∀(i:Nat)(pins:List (wf × Obj))(s:wl)(σ : St)(H:Hp)(E:we->wl->Prop),Inv X pins σ H s->(∀b∈fp,d8 X pins H b)->tn i s.heap->J.stop i H ->
   wt (model P w) X.A (VO (.ref it)) (λr s1=>r=none/\Inv X pins σ H s1) E s
 self:∀(A:wY)(i:Nat)(s:wl)(Q:we->wl->Prop)(E:we->wl->Prop),tn i s.heap->Q (.ref it) s->wt (model P w) A (pyIter (.ref it)) Q E s
abbrev TI:=St->Hp->(It->Hp->Prop)->Prop
def DK(X:Cx)(pins:List (wf × Obj))(σ : St)(tg:Expr)(R:It->Hp->Prop)(itv:we)(s2:wl):Prop :=
 ∃(it:wf)(fp:List wf)(tn:Nat->wF->Prop)(J:It)(H':Hp),itv=.ref it/\Inv X pins σ H' s2/\iR X.prog X.w X.K tg J fp it tn/\tn 0 s2.heap/\(∀b∈fp,d8 X pins H' b)/\R J H'
def PI(X:Cx)(tg iter:Expr)(wi:TI):Prop :=
 ∀(pins:List (wf × Obj))(s:wl)(σ : St)(H:Hp)(R:It->Hp->Prop),Inv X pins σ H s->wi σ H R ->
  wt (model X.prog X.w) X.A (eval iter X.env) (λv s1=>wt (model X.prog X.w) X.A (pyIter v) (DK X pins σ tg R) X.xe s1) X.xe s
theorem CY{M:Model}{A:wY}{E:we->wl->Prop}{s:wl}{tg:Expr}{it:wf}{u:we}{o:Obj}{n:String}{vs:Array we}{Q:Unit->wl->Prop}(ho:s.heap.get? it=some o)(hc:o.cls=.type n)(hd:o.data=.fields vs)
   (hn:["enumerate","zip","dict_itemiterator","dict_reverseitemiterator","odict_iterator","itertools.zip_longest","itertools.pairwise"].contains n=false) (hQ:Q () s):wt M A (qO tg (.ref it) u) Q E s:=by
 unfold qO
 cases tg<;>first
   | exact wp hQ
   | (cases u<;>first
       | exact wp hQ
       | (refine wg (wpAny_load ho ?_)
          rw[hc,hd]
          show wt M A (if(["enumerate","zip","dict_itemiterator","dict_reverseitemiterator","odict_iterator","itertools.zip_longest","itertools.pairwise"].contains n&&vs[0]? == some (VP _))=true then _ else _) Q E s
          rw[if_neg (by intro h;rw[hn,W1]at h;cases h)];exact wp hQ))
def iY(K:wb)(a:wf):It :=
 ⟨λi H=>∃xs x,aK K H a xs/\xs[i]? = some x,λi H x H'=>H'=H /\ ∀xs,aK K H a xs->xs[i]? = some x,λi H=>∃xs,aK K H a xs/\xs.length<=i⟩
def iM(K:wb)(a:wf):It :=
 ⟨λi H=>∃xs x,aR K H a xs/\xs[i]? = some x,λi H x H'=>H'=H /\ ∀xs,aR K H a xs->xs[i]? = some x,λi H=>∃xs,aR K H a xs/\xs.length<=i⟩
def fT(lo:Int)(n:Nat):It:=⟨λi _=>i<n,λi H x H'=>H'=H/\x=.int (lo+i),λi _=>n<=i⟩
theorem LJ{P:wH}{w:wI}{K:wb}{tg:Expr}(a it:wf):iR P w K tg (iY K a) [it] it (λi h=>h.IsListIter it a i) where
 mem:=by simp
 obj:=λi h st b hb=>by
  have e:b=it:=by simpa using hb
  subst e;obtain⟨o,e,c,d⟩:=st;exact⟨o,e,λv z=>by rw[d]at z;cases z⟩
 keep:=λi h h' st k=>st.at λo e=>k it (by simp) o e
 item:=by
  intro X hP hw hK hc i pins s σ H E I hf st hg;subst hP hw hK;obtain⟨xs,x,hq,hx⟩:=hg;obtain⟨its,rv,p,hz⟩:=I.list hq;obtain⟨u,hu,ru⟩:=rv.get hx;obtain⟨f0,f1,f2,f3,f4,f5⟩:=hf it (by simp);refine wpAny_pyNext_list_item st p.isList (x:=u) (by simpa using hu) λh' st' sb=>?_
  have I1:Inv X pins σ H {s with heap:=h'}:=I.turned (t':=s.toks) (λb o hb e=>(sb.2 b hb).trans e) f0 f1 f3 f4 f5;obtain⟨o,e,c,d⟩:=id st';exact⟨u,rfl,CY (s:={s with heap:=h'}) e c d (by decide) ⟨x,H,I1,ru,⟨rfl,λys hy=>by rw[I.Az hy hq];exact hx⟩,st',λb hb=>(hf b hb).1⟩⟩
 done:=by
  intro X hP hw hK hc i pins s σ H E I hf st hg;subst hP hw hK;obtain⟨xs,hq,hx⟩:=hg;obtain⟨its,rv,p,hz⟩:=I.list hq;obtain⟨f0,f1,f2,f3,f4,f5⟩:=hf it (by simp);have hl:=rv.length;exact wpAny_pyNext_list_end (I.ok.hd hc) st p.isList (by simp;omega) λh' eb=>⟨rfl,I.turned (t':=s.toks) (λb o hb e=>eb b o hb e) f0 f1 f3 f4 f5⟩
 self:=λ_ _ _ _ _ st h=>wpAny_pyIter_listiter st h
theorem L0{P:wH}{w:wI}{K:wb}{tg:Expr}(a it:wf):iR P w K tg (iM K a) [it] it (λi h=>h.IsTupleIter it a i) where
 mem:=by simp
 obj:=λi h st b hb=>by
  have e:b=it:=by simpa using hb
  subst e;obtain⟨o,e,c,d⟩:=st;exact⟨o,e,λv z=>by rw[d]at z;cases z⟩
 keep:=λi h h' st k=>st.at λo e=>k it (by simp) o e
 item:=by
  intro X hP hw hK hc i pins s σ H E I hf st hg;subst hP hw hK;obtain⟨xs,x,hq,hx⟩:=hg;obtain⟨its,rv,p,hz⟩:=I.tuple hq;obtain⟨u,hu,ru⟩:=rv.get hx;obtain⟨f0,f1,f2,f3,f4,f5⟩:=hf it (by simp);refine wpAny_pyNext_tuple_item st (show s.heap.IsTuple a its.toArray from p) (x:=u) (by simpa using hu) λh' st' sb=>?_
  have I1:Inv X pins σ H {s with heap:=h'}:=I.turned (t':=s.toks) (λb o hb e=>(sb.2 b hb).trans e) f0 f1 f3 f4 f5;obtain⟨o,e,c,d⟩:=id st';exact⟨u,rfl,CY (s:={s with heap:=h'}) e c d (by decide) ⟨x,H,I1,ru,⟨rfl,λys hy=>by rw[I.As hy hq];exact hx⟩,st',λb hb=>(hf b hb).1⟩⟩
 done:=by
  intro X hP hw hK hc i pins s σ H E I hf st hg;subst hP hw hK;obtain⟨xs,hq,hx⟩:=hg;obtain⟨its,rv,p,hz⟩:=I.tuple hq;obtain⟨f0,f1,f2,f3,f4,f5⟩:=hf it (by simp);have hl:=rv.length;exact wpAny_pyNext_tuple_end (I.ok.hd hc) st (show s.heap.IsTuple a its.toArray from p) (by simp;omega) λh' eb=>⟨rfl,I.turned (t':=s.toks) (λb o hb e=>eb b o hb e) f0 f1 f3 f4 f5⟩
 self:=λ_ _ _ _ _ st h=>wpAny_pyIter_tupleiter st h
theorem zrX{P:wH}{w:wI}{K:wb}{tg:Expr}(it:wf)(lo:Int)(n:Nat):iR P w K tg (fT lo n) [it] it (λi h=>IsRangeIter h it (lo+(i:Nat)*1) ((n:Int)-(i:Nat)) 1) where
 mem:=by simp
 obj:=λi h st b hb=>by
  have e:b=it:=by simpa using hb
  subst e
  exact⟨_,st,λv z=>by
   have z':Data.fields _=Data.cell v:=z;cases z'⟩
 keep:=λi h h' st k=>k it (by simp) _ st
 item:=by
  intro X hP hw hK hc i pins s σ H E I hf st hg;subst hP hw hK;obtain⟨f0,f1,f2,f3,f4,f5⟩:=hf it (by simp);have W:=Walks.range (prog:=X.prog) (w:=X.w) (I.ok.hd hc) it lo 1 n;refine W.item i s _ _ hg st λv h' tk hv st' kk=>?_
  obtain⟨t,rfl⟩:=hv;have I1:Inv X pins σ H {s with heap:=h',toks:=tk}:=I.turned (λb o hb e=>kk b o (by simpa using hb) e) f0 f1 f3 f4 f5;refine⟨_,rfl,CY (s:={s with heap:=h',toks:=tk}) (n:="range_iterator") st' rfl rfl (by decide) ⟨.int (lo+i),H,I1,⟨t,?_⟩,⟨rfl,rfl⟩,st',λb hb=>(hf b hb).1⟩⟩;rw[xC]
 done:=by
  intro X hP hw hK hc i pins s σ H E I hf st hg;subst hP hw hK;obtain⟨f0,f1,f2,f3,f4,f5⟩:=hf it (by simp);exact wpAny_pyNext_range_end (I.ok.hd hc) st (by have:n<=i:=hg;omega) λh' eb=>⟨rfl,I.turned (t':=s.toks) (λb o hb e=>eb b o hb e) f0 f1 f3 f4 f5⟩
 self:=λ_ _ _ _ _ st h=>wpAny_pyIter_rangeiter st h
section
variable{X:Cx}{tg:Expr}
def Dx(K:wb)(tl:TE):TI:=λσ H R=>tl σ H λx H1=>∃a,x=.ref a/\(∃xs,aK K H1 a xs)/\R (iY K a) H1
def Ks(K:wb)(tl:TE):TI:=λσ H R=>tl σ H λx H1=>∃a,x=.ref a/\(∃xs,aR K H1 a xs)/\R (iM K a) H1
theorem gx{l:Expr}{tl:TE}(hl:PE X l tl):PI X tg l (Dx X.K tl):=by
 intro pins s σ H R I h;refine aI (hl pins s σ H _ I h) λv s1 ⟨x,H1,I1,r1,q1⟩=>?_
 obtain⟨a,e,⟨xs,hq⟩,q⟩:=q1;subst e;cases r1;obtain⟨its,rv,p,hz⟩:=I1.list hq;refine qq p.isList ?_;refine⟨s1.heap.objs.size,[s1.heap.objs.size],_,_,H1,rfl,I1.kept (t':=s1.toks) λb o e=>wn _ e,LJ a _,⟨_,wM _ rfl,rfl,rfl⟩,λb hb=>?_,q⟩;have e:b=s1.heap.objs.size:=by simpa using hb
 subst e;exact I1.ji (wo _) (I1.aG.fresh (wo _))
theorem jT{l:Expr}{tl:TE}(hl:PE X l tl):PI X tg l (Ks X.K tl):=by
 intro pins s σ H R I h;refine aI (hl pins s σ H _ I h) λv s1 ⟨x,H1,I1,r1,q1⟩=>?_
 obtain⟨a,e,⟨xs,hq⟩,q⟩:=q1;subst e;cases r1;obtain⟨its,rv,p,hz⟩:=I1.tuple hq;refine W8 (show s1.heap.IsTuple a its.toArray from p) ?_;refine⟨s1.heap.objs.size,[s1.heap.objs.size],_,_,H1,rfl,I1.kept (t':=s1.toks) λb o e=>wn _ e,L0 a _,⟨_,wM _ rfl,rfl,rfl⟩,λb hb=>?_,q⟩;have e:b=s1.heap.objs.size:=by simpa using hb
 subst e;exact I1.ji (wo _) (I1.aG.fresh (wo _))
theorem Oo{pins:List (wf × Obj)}{σ : St}{H:Hp}{s:wl}{R:It->Hp->Prop}{E:we->wl->Prop}{lo hi:Int}{t u v:Tok}{tk:Nat}(I:Inv X pins σ H s)(h1 : -(2^62)<=lo)(h2:lo<2^62)(h3 : -(2^62)<=hi)(h4:hi<2^62)
  (q:R (fT lo (hi-lo).toNat) H):wt (model X.prog X.w) X.A (pyIter (.ref s.heap.objs.size)) (DK X pins σ tg R) E {s with heap:=s.heap.push {cls:=.type "range",data:=.fields #[.int lo t,.int hi u,.int 1 v]},toks:=tk}:=by
 refine wpAny_pyIter_range (Us ..) (small_one h1 h2 h3 h4) ?_;have I1:Inv X pins σ H {s with heap:=s.heap.push {cls:=.type "range",data:=.fields #[.int lo t,.int hi u,.int 1 v]},toks:=tk}:=I.kept λb o e=>wn _ e
 refine⟨(s.heap.push {cls:=.type "range",data:=.fields #[.int lo t,.int hi u,.int 1 v]}).objs.size,[(s.heap.push {cls:=.type "range",data:=.fields #[.int lo t,.int hi u,.int 1 v]}).objs.size],_,_,H,rfl,
  I1.kept (t':=tk) λb o e=>wn _ e,zrX _ lo (hi-lo).toNat,?_,λb hb=>?_,q⟩
 ·have e1:lo+((0:Nat):Int)*1=lo:=by simp
  have e2:(((hi-lo).toNat:Nat):Int)-((0:Nat):Int)=Ur lo hi 1:=by rw[rangeSize_one];split<;>omega
  show IsRangeIter _ _ (lo+((0:Nat):Int)*1) ((((hi-lo).toNat:Nat):Int)-((0:Nat):Int)) 1
  rw[e1,e2];exact wM _ rfl
 ·have e:b=(s.heap.push {cls:=.type "range",data:=.fields #[.int lo t,.int hi u,.int 1 v]}).objs.size:=by simpa using hb
  subst e;exact I1.ji (wo _) (I1.aG.fresh (wo _))
def BF(ta:TA):TI:=λσ H R=>ta σ H λvs H1=>∃j:Int,vs=[.int j] /\ -(2^62)<=j/\j<2^62/\R (fT 0 j.toNat) H1
def Ny(ta:TA):TI:=λσ H R=>ta σ H λvs H1=>∃i j:Int,vs=[.int i,.int j]/\(-(2^62)<=i/\i<2^62 /\ -(2^62)<=j/\j<2^62)/\R (fT i (j-i).toNat) H1
theorem jH{a:Expr}{ta:TA}{p pos:Pos}(hg:Gl X "range")(hm:X.mg "range"=none)(ha:PA X [a] ta)(hs:w5 [a] X.env=[(false,eval a X.env)]:=by rfl):PI X tg (.Call (.Name "range" p) [a] [] pos) (BF ta):=by
 intro pins s σ H R I h;refine Call_ (gf I hg hm boot_range (vx (aI (ha pos pins s σ H _ I h) λus s1 ⟨vs,H1,I1,r1,q1⟩=>?_) hs rfl));obtain⟨j,e,q1,q2,q⟩:=q1;subst e;cases r1 with
 | cons r rr =>
  cases rr;obtain⟨t,rfl⟩:=r;exact call_range_1 (Oo I1 (by omega) (by omega) q1 q2 (by simpa using q))
theorem zum{a b:Expr}{ta:TA}{p pos:Pos}(hg:Gl X "range")(hm:X.mg "range"=none)(ha:PA X [a,b] ta)(hs:w5 [a,b] X.env=[(false,eval a X.env),(false,eval b X.env)]:=by rfl)(hs2:w5 [b] X.env=[(false,eval b X.env)]:=by rfl) :
  PI X tg (.Call (.Name "range" p) [a,b] [] pos) (Ny ta):=by
 intro pins s σ H R I h;refine Call_ (gf I hg hm boot_range (vx (aI (ha pos pins s σ H _ I h) λus s1 ⟨vs,H1,I1,r1,q1⟩=>?_) (by rw[hs,hs2]) (by rw[hs2];rfl)));obtain⟨i,j,e,⟨q1,q2,q3,q4⟩,q⟩:=q1;subst e;cases r1 with
 | cons r rr =>
  cases rr with
  | cons r' rr =>
   cases rr;obtain⟨t,rfl⟩:=r;obtain⟨t',rfl⟩:=r';exact call_range_2 (Oo I1 q1 q2 q3 q4 q)
def lJ(wi:TI)(g:TG)(tb:TS):TS:=λD σ H=>wi σ H λJ H1=>∃W:Nat->Nat->St->Hp->Prop,(∃m,W 0 m σ H1) /\ ∀i m σ H,W i m σ H ->
 (J.stop i H/\D.nx σ H)\/(J.go i H /\ ∃N:St->Hp->Prop,(∀σ' H',N σ' H'->∃m',m'<m/\W (i+1) m' σ' H') /\ ∀x H',J.fD i H x H'->g x σ H' λσ2 H2=>tb {D with nx:=N,ct:=N,bk:=D.nx} σ2 H2)
def pC(fp:List wf)(h:wF):List (wf × Obj):=fp.filterMap λb=>(h.get? b).map λo=>(b,o)
theorem tW{fp:List wf}{h:wF}{b:wf}{o:Obj}(hb:b∈fp)(e:h.get? b=some o):(b,o)∈pC fp h:=qQ.mpr ⟨b,hb,by rw[e];rfl⟩
theorem YX{fp:List wf}{h:wF}{p:wf × Obj}(hp:p∈pC fp h):p.1∈fp/\h.get? p.1=some p.2:=by
 obtain⟨b,hb,e⟩:=qQ.mp hp;cases q:h.get? b with
 | none=>rw[q]at e;cases e
 | some o =>
  rw[q]at e;have e':(b,o)=p:=wQ e;subst e';exact⟨hb,q⟩
theorem Inv.pinned{pins:List (wf × Obj)}{σ : St}{H:Hp}{s:wl}{fp:List wf}(I:Inv X pins σ H s)(hf:∀b∈fp,d8 X pins H b)(ho:∀b∈fp,∃o,s.heap.get? b=some o /\ ∀v,o.data≠.cell v):Inv X (pins++pC fp s.heap) σ H s :=
 I.HZ λp hp=>(Wk.mp hp).elim (λz=>I.pin p (vY _ z)) λz=>by
  obtain⟨hb,e⟩:=YX z;obtain⟨f0,f1,f2,_⟩:=hf p.1 hb;obtain⟨o,e',d⟩:=ho p.1 hb;rw[e]at e';cases e';exact⟨e,f0,f1,f2,d⟩
theorem Inv.p_{pins pl:List (wf × Obj)}{σ : St}{H:Hp}{s:wl}(I:Inv X (pins++pl) σ H s):Inv X pins σ H s:=I.HZ λp hp=>I.pin p (vY _ (VR _ hp))
theorem gk{iter:Expr}{body:List vd}{wi:TI}{g:TG}{tb:TS}{pos:Pos}(hp:PassesOwn (model X.prog X.w) X.A X.env X.xe)(hc:X.calm=true)(hi:PI X tg iter wi)(hg:PG X tg g)(hb:eX X body tb)
  (hs:∀x,foldedSetIterable iter X.env x=pure x:=by intro _;rfl):PS X (.For tg iter body [] pos) (lJ wi g tb):=by
 intro pins s σ H D I h;refine wpAny_For (aI (hi pins s σ H _ I h) λv s1 h1=>aI h1 λitv s2 h2=>?_) hs;obtain⟨it,fp,tn,J,H2,e,I2,T,st2,f2,W,⟨m0,w0⟩,turn⟩:=h2;subst e
 -- what stays true of the iterator's objects through the loop
 have stat:∀{H':Hp},(∀b∈fp,H' b=none)->∀b∈fp,d8 X pins H' b:=λhn b hb=>⟨hn b hb,(f2 b hb).2⟩
 refine codeAny_forLoop_any (λn s'=>∃i σ' H',Inv X pins σ' H' s'/\tn i s'.heap/\(∀b∈fp,H' b=none)/\W i n σ' H') ?_ m0 ⟨0,σ,H2,I2,st2,λb hb=>(f2 b hb).1,w0⟩;rintro n s3 ⟨i,σ3,H3,I3,st3,fr3,w3⟩;rcases turn i n σ3 H3 w3 with⟨stop,qn⟩ | ⟨go,N,hN,step⟩
 ·refine VA hp (aI (T.done X rfl rfl rfl hc i pins s3 σ3 H3 X.xe I3 (stat fr3) st3 stop) λr s4 ⟨hr,I4⟩=>?_)
  subst hr;exact qN ⟨σ3,H3,I4,qn⟩
 ·refine VA hp (aI (T.item X rfl rfl rfl hc i pins s3 σ3 H3 X.xe I3 (stat fr3) st3 go) λr s4 ⟨u,hr,h4⟩=>?_)
  subst hr;refine VA hp (aI h4 λ_ s5 ⟨x,H5,I5,r5,y5,st5,fr5⟩=>?_);have I5':=I5.pinned (stat fr5) (T.obj _ _ st5);refine VA hp (aI (hg _ s5 σ3 H5 x u _ I5' r5 (step x H5 y5)) λ_ s6 ⟨σ6,H6,I6,q6⟩=>?_);refine VA hp (aI (hb _ s6 σ6 H6 _ I6 q6) λf s7 q7=>?_)
  have again:∀{σ7:St}{H7:Hp},Inv X (pins++pC fp s5.heap) σ7 H7 s7->N σ7 H7->∃m,m<n /\ ∃i σ' H',Inv X pins σ' H' s7/\tn i s7.heap/\(∀b∈fp,H' b=none)/\W i m σ' H':=λ{σ7 H7} I7 n7=>by
   obtain⟨m',hm,w7⟩:=hN σ7 H7 n7;refine⟨m',hm,i+1,σ7,H7,I7.p_,T.keep _ _ _ st5 λb hb o e=>(I7.pin (b,o) (vY _ (vY _ (tW hb e)))).1,λb hb=>?_,w7⟩;obtain⟨o,e,d⟩:=T.obj _ _ st5 b hb;exact(I7.pin (b,o) (vY _ (vY _ (tW hb e)))).2.1
  cases f with
  | next=>obtain⟨σ7,H7,I7,n7⟩:=q7;exact again I7 n7
  | cont=>obtain⟨σ7,H7,I7,n7⟩:=q7;exact again I7 n7
  | brk=>obtain⟨σ7,H7,I7,q7⟩:=q7;exact⟨σ7,H7,I7.p_,q7⟩
  | ret v=>obtain⟨x7,σ7,H7,I7,r7,q7⟩:=q7;exact⟨x7,σ7,H7,I7.p_,r7,q7⟩
end
theorem zxH{K:wb}{a:wf}{xs:List V}{g:TG}{tb:TS}{D:cj}{σ : St}{H:Hp}(Pv:Nat->St->Hp->Prop)(h0:Pv 0 σ H)(hl:∀i σ H,i<=xs.length->Pv i σ H->aK K H a xs)
  (hs:∀i x σ H,xs[i]? = some x->Pv i σ H->g x σ H λσ2 H2=>tb {D with nx:=Pv (i+1),ct:=Pv (i+1),bk:=D.nx} σ2 H2) (hd:∀σ H,Pv xs.length σ H->D.nx σ H) :
  ∃W:Nat->Nat->St->Hp->Prop,(∃m,W 0 m σ H) /\ ∀i m σ H,W i m σ H ->
   ((iY K a).stop i H/\D.nx σ H)\/((iY K a).go i H /\ ∃N:St->Hp->Prop,(∀σ' H',N σ' H'->∃m',m'<m/\W (i+1) m' σ' H') /\ ∀x H',(iY K a).fD i H x H'->g x σ H' λσ2 H2=>tb {D with nx:=N,ct:=N,bk:=D.nx} σ2 H2):=by
 refine⟨λi m σ H=>m=xs.length-i/\i<=xs.length/\Pv i σ H,⟨xs.length,by simp,Ww _,h0⟩,?_⟩;rintro i m σ H ⟨rfl,hi,p⟩;have q:=hl i σ H hi p
 by_cases hlt:i<xs.length
 ·refine .inr ⟨⟨xs,xs[i],q,by simp[hlt]⟩,Pv (i+1),λσ' H' p'=>⟨xs.length-(i+1),by omega,rfl,hlt,p'⟩,λx H' y=>?_⟩
  obtain⟨e,y⟩:=y;subst e;exact hs i x σ _ (y xs q) p
 ·have e:i=xs.length:=by omega
  subst e;exact .inl ⟨⟨xs,q,wo _⟩,hd σ H p⟩
theorem zy7{K:wb}{a:wf}{xs:List V}{g:TG}{tb:TS}{D:cj}{σ : St}{H:Hp}(Pv:Nat->St->Hp->Prop)(h0:Pv 0 σ H)(hl:∀i σ H,i<=xs.length->Pv i σ H->aR K H a xs)
  (hs:∀i x σ H,xs[i]? = some x->Pv i σ H->g x σ H λσ2 H2=>tb {D with nx:=Pv (i+1),ct:=Pv (i+1),bk:=D.nx} σ2 H2) (hd:∀σ H,Pv xs.length σ H->D.nx σ H) :
  ∃W:Nat->Nat->St->Hp->Prop,(∃m,W 0 m σ H) /\ ∀i m σ H,W i m σ H ->
   ((iM K a).stop i H/\D.nx σ H)\/((iM K a).go i H /\ ∃N:St->Hp->Prop,(∀σ' H',N σ' H'->∃m',m'<m/\W (i+1) m' σ' H') /\ ∀x H',(iM K a).fD i H x H'->g x σ H' λσ2 H2=>tb {D with nx:=N,ct:=N,bk:=D.nx} σ2 H2):=by
 refine⟨λi m σ H=>m=xs.length-i/\i<=xs.length/\Pv i σ H,⟨xs.length,by simp,Ww _,h0⟩,?_⟩;rintro i m σ H ⟨rfl,hi,p⟩;have q:=hl i σ H hi p
 by_cases hlt:i<xs.length
 ·refine .inr ⟨⟨xs,xs[i],q,by simp[hlt]⟩,Pv (i+1),λσ' H' p'=>⟨xs.length-(i+1),by omega,rfl,hlt,p'⟩,λx H' y=>?_⟩
  obtain⟨e,y⟩:=y;subst e;exact hs i x σ _ (y xs q) p
 ·have e:i=xs.length:=by omega
  subst e;exact .inl ⟨⟨xs,q,wo _⟩,hd σ H p⟩
theorem II{lo:Int}{n:Nat}{g:TG}{tb:TS}{D:cj}{σ : St}{H:Hp}(Pv:Nat->St->Hp->Prop)(h0:Pv 0 σ H)
  (hs:∀i σ H,i<n->Pv i σ H->g (.int (lo+i)) σ H λσ2 H2=>tb {D with nx:=Pv (i+1),ct:=Pv (i+1),bk:=D.nx} σ2 H2) (hd:∀σ H,Pv n σ H->D.nx σ H) :
  ∃W:Nat->Nat->St->Hp->Prop,(∃m,W 0 m σ H) /\ ∀i m σ H,W i m σ H ->
   ((fT lo n).stop i H/\D.nx σ H)\/((fT lo n).go i H /\ ∃N:St->Hp->Prop,(∀σ' H',N σ' H'->∃m',m'<m/\W (i+1) m' σ' H') /\ ∀x H',(fT lo n).fD i H x H'->g x σ H' λσ2 H2=>tb {D with nx:=N,ct:=N,bk:=D.nx} σ2 H2):=by
 refine⟨λi m σ H=>m=n-i/\i<=n/\Pv i σ H,⟨n,by simp,Ww _,h0⟩,?_⟩;rintro i m σ H ⟨rfl,hi,p⟩
 by_cases hlt:i<n
 ·refine .inr ⟨hlt,Pv (i+1),λσ' H' p'=>⟨n-(i+1),by omega,rfl,hlt,p'⟩,λx H' y=>?_⟩
  obtain⟨e,y⟩:=y;subst e y;exact hs i σ _ hlt p
 ·have e:i=n:=by omega
  subst e;exact .inl ⟨wo _,hd σ H p⟩
abbrev R2:=V->V->Hp->VK->Prop
def aN(X:Cx)(f:we->we->Sem we)(r:R2):Prop :=
 ∀(pins:List (wf × Obj))(s:wl)(σ : St)(H:Hp)(x y:V)(v u:we)(Q:VK),Inv X pins σ H s->aW x v->aW y u->r x y H Q ->
  wt (model X.prog X.w) X.A (f v u) (EP X pins σ Q) X.xe s
def DI(X:Cx)(f:we->Sem we)(r:V->Hp->VK->Prop):Prop :=
 ∀(pins:List (wf × Obj))(s:wl)(σ : St)(H:Hp)(x:V)(v:we)(Q:VK),Inv X pins σ H s->aW x v->r x H Q ->
  wt (model X.prog X.w) X.A (f v) (EP X pins σ Q) X.xe s
def aO(X:Cx)(f:we)(r:List V->Hp->VK->Prop):Prop :=
 ∀(pins:List (wf × Obj))(s:wl)(σ : St)(H:Hp)(xs:List V)(us:List we)(Q:VK),Inv X pins σ H s->aM xs us->r xs H Q ->
  wt (model X.prog X.w) X.A (call f us) (EP X pins σ Q) X.xe s
def SQ(X:Cx)(r:V->Hp->(Bool->Hp->Prop)->Prop):Prop :=
 ∀(pins:List (wf × Obj))(s:wl)(σ : St)(H:Hp)(x:V)(v:we)(Q:Bool->Hp->Prop),Inv X pins σ H s->aW x v->r x H Q ->
  wt (model X.prog X.w) X.A (truthy v) (TP X pins σ Q) X.xe s
def lA(r:R2)(ta tb:TE):TE:=λσ H Q=>ta σ H λx H1=>tb σ H1 λy H2=>r x y H2 Q
def Mq(r:V->Hp->VK->Prop)(ta:TE):TE:=λσ H Q=>ta σ H λx H1=>r x H1 Q
def rI(C:Int->Int->Prop)(g:Int->Int->V):R2:=λx y H Q=>∃i j,x=.int i/\y=.int j/\C i j/\Q (g i j) H
def h9(g:Int->Int->V):R2:=λx y H Q=>∃i j,x=.int i/\y=.int j/\Q (g i j) H
def rU(g:Int->V):V->Hp->VK->Prop:=λx H Q=>∃i,x=.int i/\Q (g i) H
section
variable{X:Cx}{a b c:Expr}{ta tb tc:TE}{pos:Pos}
theorem Cw(ha:PE X a ta)(hb:PE X b tb){pins:List (wf × Obj)}{s:wl}{σ : St}{H:Hp}{R:V->V->Hp->Prop}(I:Inv X pins σ H s)
  (h:ta σ H λx H1=>tb σ H1 λy H2=>R x y H2) {Q:we->wl->Prop} {f:we->we->Sem we}
  (hf:∀v u s2 x y H2,Inv X pins σ H2 s2->aW x v->aW y u->R x y H2->wt (model X.prog X.w) X.A (f v u) Q X.xe s2) :
  wt (model X.prog X.w) X.A (eval a X.env) (λv s₁=>wt (model X.prog X.w) X.A (eval b X.env) (λu s₂=>wt (model X.prog X.w) X.A (f v u) Q X.xe s₂) X.xe s₁) X.xe s:=by
 refine aI (ha pins s σ H _ I h) λv s1 ⟨x,H1,I1,r1,q1⟩=>?_
 refine aI (hb pins s1 σ H1 _ I1 q1) λu s2 ⟨y,H2,I2,r2,q2⟩=>?_
 exact hf v u s2 x y H2 I2 r1 r2 q2
theorem aA{op:Operator}{r:R2}(ho:aN X (WD op) r)(ha:PE X a ta)(hb:PE X b tb):PE X (.BinOp a op b pos) (lA r ta tb):=by
 intro pins s σ H Q I h;exact wpAny_BinOp (Cw ha hb I h λv u s2 x y H2 I2 rx ry q=>ho pins s2 σ H2 x y v u Q I2 rx ry q)
theorem iA{op:UnaryOp}{r:V->Hp->VK->Prop}(ho:DI X (unaryOp op) r)(ha:PE X a ta):PE X (.UnaryOp op a pos) (Mq r ta):=by
 intro pins s σ H Q I h;exact UnaryOp_ (aI (ha pins s σ H _ I h) λv s1 ⟨x,H1,I1,r1,q1⟩=>ho pins s1 σ H1 x v Q I1 r1 q1)
theorem sR{f:we->we->Sem we}{C:Int->Int->Prop}{g:Int->Int->Int}
  (rule:∀(i j:Int)(t u:Tok)(s:wl)(Q:we->wl->Prop)(E:we->wl->Prop),C i j->Q (.int (g i j) s.toks) {s with toks:=s.toks+1}->wt (model X.prog X.w) X.A (f (.int i t) (.int j u)) Q E s) :
  aN X f (rI C λi j=>.int (g i j)):=by
 intro pins s σ H x y v u Q I rx ry h;obtain⟨i,j,rfl,rfl,hc,q⟩:=h;obtain⟨t,rfl⟩:=rx;obtain⟨t',rfl⟩:=ry;exact rule i j t t' s _ _ hc ⟨.int (g i j),H,I.tok _,⟨_,rfl⟩,q⟩
theorem My{f:we->we->Sem we}{g:Int->Int->Int}
  (rule:∀(i j:Int)(t u:Tok)(s:wl)(Q:we->wl->Prop)(E:we->wl->Prop),Q (.int (g i j) s.toks) {s with toks:=s.toks+1}->wt (model X.prog X.w) X.A (f (.int i t) (.int j u)) Q E s) :
  aN X f (h9 λi j=>.int (g i j)):=by
 intro pins s σ H x y v u Q I rx ry h;obtain⟨i,j,rfl,rfl,q⟩:=h;obtain⟨t,rfl⟩:=rx;obtain⟨t',rfl⟩:=ry;exact rule i j t t' s _ _ ⟨.int (g i j),H,I.tok _,⟨_,rfl⟩,q⟩
theorem zt{f:we->we->Sem we}{g:Int->Int->Bool}
  (rule:∀(i j:Int)(t u:Tok)(s:wl)(Q:we->wl->Prop)(E:we->wl->Prop),Q (.bool (g i j)) s->wt (model X.prog X.w) X.A (f (.int i t) (.int j u)) Q E s) :
  aN X f (h9 λi j=>.bl (g i j)):=by
 intro pins s σ H x y v u Q I rx ry h;obtain⟨i,j,rfl,rfl,q⟩:=h;obtain⟨t,rfl⟩:=rx;obtain⟨t',rfl⟩:=ry;exact rule i j t t' s _ _ ⟨.bl (g i j),H,I,rfl,q⟩
def LF(i j:Int):Prop:=0<=j/\j<=1000000/\i.natAbs<2^64
theorem zAR:aN X (WD .Add) (h9 λi j=>.int (i+j)):=My λ_ _ _ _ _ _ _ q=>add_int q
theorem jr:aN X (WD .Sub) (h9 λi j=>.int (i-j)):=My λ_ _ _ _ _ _ _ q=>sub_int q
theorem gv:aN X (WD .Mod) (rI (λ_ j=>0<j) λi j=>.int (i % j)):=sR λi j _ _ _ _ _ hc q=>by
 have h1:(0:Int)<j:=hc;exact mod_int' (by omega) (by rw[Int.fmod_eq_emod_of_nonneg i (by omega)];exact q)
theorem Zj:aN X (WD .Pow) (rI LF λi j=>.int (i^j.toNat)):=sR λ_ _ _ _ _ _ _ hc q=>pow_int_small hc.1 hc.2.1 hc.2.2 q
theorem YH{f:we->Sem we}{g:Int->Int}
  (rule:∀(i:Int)(t:Tok)(s:wl)(Q:we->wl->Prop)(E:we->wl->Prop),Q (.int (g i) s.toks) {s with toks:=s.toks+1}->wt (model X.prog X.w) X.A (f (.int i t)) Q E s) :
  DI X f (rU λi=>.int (g i)):=by
 intro pins s σ H x v Q I rx h;obtain⟨i,rfl,q⟩:=h;obtain⟨t,rfl⟩:=rx;exact rule i t s _ _ ⟨.int (g i),H,I.tok _,⟨_,rfl⟩,q⟩
theorem ib:DI X (unaryOp .USub) (rU λi=>.int (-i)):=YH λ_ _ _ _ _ q=>neg_int q
end
section
variable{X:Cx}{a b c:Expr}{ta tb tc:TE}{pos:Pos}
theorem KI{pins:List (wf × Obj)}{σ : St}{H:Hp}{s:wl}{Q:VK}{k k':Bool}(I:Inv X pins σ H s)(q:Q (.bl k) H)(e:k=k'):EP X pins σ Q (.bool k') s:=by
 subst e;exact⟨.bl k,H,I,rfl,q⟩
theorem lY:aN X (wU .Lt) (h9 λi j=>.bl (decide (i<j))):=zt λ_ _ _ _ _ _ _ q=>lt_int q
theorem nQ:aN X (wU .LtE) (h9 λi j=>.bl (decide (i<=j))):=zt λ_ _ _ _ _ _ _ q=>le_int q
theorem ny:aN X (wU .Gt) (h9 λi j=>.bl (decide (j<i))):=zt λ_ _ _ _ _ _ _ q=>gt_int q
theorem Ca:aN X (wU .GtE) (h9 λi j=>.bl (decide (j<=i))):=zt λ_ _ _ _ _ _ _ q=>ge_int q
theorem YF:aN X (wU .Is) (λx y H Q=>y=.bj/\Q (.bl (decide (x=.bj))) H):=by
 intro pins s σ H x y v u Q I rx ry h;obtain⟨rfl,q⟩:=h;cases ry;refine is_none_gen (KI I q ?_)
 cases x<;>first
  | (cases rx;rfl)
  | (obtain⟨t,rfl⟩:=rx;rfl)
theorem aN.or{f:we->we->Sem we}{r r':R2}(h:aN X f r)(h':aN X f r'):aN X f (λx y H Q=>r x y H Q\/r' x y H Q):=by
 intro pins s σ H x y v u Q I rx ry q;rcases q with q | q
 ·exact h pins s σ H x y v u Q I rx ry q
 ·exact h' pins s σ H x y v u Q I rx ry q
theorem a_(b:Expr){op:CmpOp}(h:op≠.In:=by decide)(h2:op≠.NotIn:=by decide):behindInMarks op b=false:=by
 have e1:(op == CmpOp.In)=false:=by cases op<;>first | rfl | exact absurd rfl h
 have e2:(op == CmpOp.NotIn)=false:=by cases op<;>first | rfl | exact absurd rfl h2
 cases b<;>simp[behindInMarks,e1,e2]
theorem fq{op:CmpOp}{r:R2}(ho:aN X (wU op) r)(ha:PE X a ta)(hb:PE X b tb)(hm:behindInMarks op b=false):PE X (.Compare a [op] [b] pos) (lA r ta tb):=by
 intro pins s σ H Q I h;exact wpAny_Compare1 (Cw ha hb I h λv u s2 x y H2 I2 rx ry q=>ho pins s2 σ H2 x y v u Q I2 rx ry q) hm
def Dc(t:TE):TT:=λσ H Q=>t σ H λx H'=>∃k,x=.bl k/\Q k H'
theorem bS{op:CmpOp}{r:R2}(ho:aN X (wU op) r)(ha:PE X a ta)(hb:PE X b tb)(hm:behindInMarks op b=false):PT X (.Compare a [op] [b] pos) (Dc (lA r ta tb)):=by
 intro pins s σ H Q I h
 refine wpAny_isTrue_Compare1 (aI (ha pins s σ H _ I h) λv s1 ⟨x,H1,I1,r1,q1⟩=>aI (hb pins s1 σ H1 _ I1 q1) λu s2 ⟨y,H2,I2,r2,q2⟩ =>
  aI (ho pins s2 σ H2 x y v u _ I2 r1 r2 q2) λc s3 ⟨z,H3,I3,r3,k,e,q3⟩=>?_) hm
 subst e;cases r3;exact Wq ⟨H3,I3,q3⟩
def JH(r r':R2)(ta tb tc:TE):TE:=λσ H Q=>ta σ H λx H1=>tb σ H1 λy H2=>r x y H2 λz H3=>∃k,z=.bl k /\
 (if k=true then tc σ H3 λw' H4=>r' y w' H4 Q else Q (.bl false) H3)
theorem zvG{op op':CmpOp}{r r':R2}(ho:aN X (wU op) r)(ho':aN X (wU op') r')(ha:PE X a ta)(hb:PE X b tb)(hc:PE X c tc)
  (hm:lastMarks [op,op'] [b,c]=false:=by with_unfolding_all rfl):PT X (.Compare a [op,op'] [b,c] pos) (Dc (JH r r' ta tb tc)):=by
 intro pins s σ H Q I h
 refine isTrue_chain (aI (ha pins s σ H _ I h) λv s1 ⟨x,H1,I1,r1,q1⟩=>test_link (aI (hb pins s1 σ H1 _ I1 q1) λu s2 ⟨y,H2,I2,r2,q2⟩ =>
  aI (ho pins s2 σ H2 x y v u _ I2 r1 r2 q2) λd s3 ⟨z,H3,I3,r3,k,e,q3⟩=>?_)) hm
 subst e;cases r3;refine Wq ?_;cases k with
 | false =>
  obtain⟨k',e',q'⟩:=q3;cases e';exact ite_ff ⟨H3,I3,q'⟩
 | true =>
  refine ite_tt (test_last (aI (hc pins s3 σ H3 _ I3 q3) λw' s4 ⟨z',H4,I4,r4,q4⟩=>aI (ho' pins s4 σ H4 y z' u w' _ I4 r2 r4 q4) λd' s5 ⟨z2,H5,I5,r5,k2,e2,q5⟩=>?_));subst e2;cases r5;exact Wq ⟨H5,I5,q5⟩
def C5(K:wb)(x:V)(H:Hp)(k:Bool):Prop :=
 match x with
 | .bj=>k=false
 | .bl b=>k=b
 | .int i=>k=(i != 0)
 | .str y=>y.length<=wZ/\k=((y.length:Int) != 0)
 | .byt y=>y.size<=wZ/\k=((y.size:Int) != 0)
 | .ref p=>(∃xs,aK K H p xs/\k = !xs.isEmpty)\/(∃xs,aR K H p xs/\k = !xs.isEmpty) \/ ∃kvs,H p=some (.dK kvs)/\k = !kvs.isEmpty
 | _=>False
theorem Zc{κ : Type}{kvs:List (κ × V)}{vs:List (κ × we)}(r:KV kvs vs):(!vs.isEmpty) = !kvs.isEmpty:=by
 cases r<;>rfl
theorem Ol{xs:List V}{its:List we}(r:aM xs its):(!its.toArray.isEmpty) = !xs.isEmpty:=by
 cases r<;>simp
theorem mq:(wZ:Nat)<2^63:=by rw[qF];decide
theorem zAT:SQ X (λx H Q=>∃k,C5 X.K x H k/\Q k H):=by
 intro pins s σ H x v Q I rx h;obtain⟨k,e,q⟩:=h;have hl:=mq;have hs:wZ=16777216:=qF;cases x with
 | bj =>
  cases rx;have e':k=false:=e;subst e';exact truthy_none ⟨H,I,q⟩
 | bl b =>
  cases rx;have e':k=b:=e;subst e';exact Wq ⟨H,I,q⟩
 | int i =>
  obtain⟨t,rfl⟩:=rx;have e':k=(i != 0):=e;subst e';exact PySem.P.truthy_int ⟨H,I,q⟩
 | str y =>
  obtain⟨t,rfl⟩:=rx;obtain⟨hy,e'⟩:y.length<=wZ/\k=((y.length:Int) != 0):=e;subst e';exact PySem.P.truthy_str (by omega) ⟨H,I.tok _,q⟩
 | byt y =>
  obtain⟨t,rfl⟩:=rx;obtain⟨hy,e'⟩:y.size<=wZ/\k=((y.size:Int) != 0):=e;subst e';exact PySem.W.truthy_bytes (by omega) ⟨H,I.tok _,q⟩
 | ref p =>
  cases rx;have e':(∃xs,aK X.K H p xs/\k = !xs.isEmpty)\/(∃xs,aR X.K H p xs/\k = !xs.isEmpty) \/ ∃kvs,H p=some (.dK kvs)/\k = !kvs.isEmpty:=e;rcases e' with⟨xs,hx,e'⟩ | ⟨xs,hx,e'⟩ | ⟨kvs,hx,e'⟩
  ·subst e'
   obtain⟨its,r,pl,hz⟩:=I.list hx;have hlen:=r.length;exact wpAny_truthy_list pl.isList (by simp only[wN];omega) ⟨H,I.tok _,by rw[Ol r];exact q⟩
  ·subst e'
   obtain⟨its,r,pl,hz⟩:=I.tuple hx;have hlen:=r.length;exact truthy_tuple pl (by simp only[wN];omega) ⟨H,I.tok _,by rw[Ol r];exact q⟩
  ·subst e'
   obtain⟨hz,hS,vs,r,m⟩:kvs.length<=wZ/\(p == sysModules)=false /\ ∃vs,KV kvs vs/\s.heap.DictOf (AR X.prog X.w) p vs:=I.aG p _ hx;have hlen:kvs.length=vs.length:=u8 r;exact wpAny_truthy_dict hS m (by omega) ⟨H,I.tok _,by rw[Zc r];exact q⟩
 | _=>exact(show False from e).elim
theorem ZR(ha:PE X a ta)(he:∀whole,isTrue a X.env whole=(do let v <- whole;standAt a.pos;holding [v] (truthy v))) :
  PT X a (λσ H Q=>ta σ H λx H'=>∃k,C5 X.K x H' k/\Q k H'):=by
 intro pins s σ H Q I h;exact isTrue_plain (aI (ha pins s σ H _ I h) λv s1 ⟨x,H1,I1,r1,q1⟩=>zAT pins s1 σ H1 x v Q I1 r1 q1) (he _)
theorem zsJ:aN X (WD .Add) (λx y H Q=>∃i j,x=.str i/\y=.str j/\i.length+j.length<=wZ/\Q (.str (i++j)) H):=by
 intro pins s σ H x y v u Q I rx ry h;obtain⟨i,j,rfl,rfl,hz,q⟩:=h;obtain⟨t,rfl⟩:=rx;obtain⟨t',rfl⟩:=ry;exact add_str (λt' tk=>⟨.str (i++j),H,I.tok _,⟨_,rfl⟩,q⟩) hz
theorem gq{x:V}{us:List we}(r:aM [x] us):∃u,us=[u]/\aW x u:=by
 cases r with
 | cons r1 r2=>cases r2;exact⟨_,rfl,r1⟩
theorem kN{x y:V}{us:List we}(r:aM [x,y] us):∃u w',us=[u,w']/\aW x u/\aW y w':=by
 cases r with
 | cons r1 r2 =>
  cases r2 with
  | cons r3 r4=>cases r4;exact⟨_,_,rfl,r1,r3⟩
theorem zxT:aO X (.builtin "abs") (λxs H Q=>∃i,xs=[.int i]/\Q (.int (if i<0 then -i else i)) H):=by
 intro pins s σ H xs us Q I r h;obtain⟨i,rfl,q⟩:=h;obtain⟨u,rfl,t,rfl⟩:=gq r;exact call_abs_int λu tk=>⟨.int (if i<0 then -i else i),H,I.tok _,⟨_,rfl⟩,q⟩
theorem Uz(hc:X.calm=true):aO X (.builtin "min") (λxs H Q=>∃i j,xs=[.int i,.int j]/\Q (.int (if j<i then j else i)) H):=by
 intro pins s σ H xs us Q I r h;obtain⟨i,j,rfl,q⟩:=h;obtain⟨u,w',rfl,⟨t,rfl⟩,⟨t',rfl⟩⟩:=kN r;refine min_two_ints (I.ok.hd hc) λh' tk k=>⟨_,H,I.kept k,?_,q⟩
 by_cases hj:j<i
 ·rw[if_pos hj,if_pos hj];exact⟨_,rfl⟩
 ·rw[if_neg hj,if_neg hj];exact⟨_,rfl⟩
end
structure zDf(h:wF)(x dx C:wf)(mA:Str->Option we):Prop where
 obj:h.get? x=some (uv C dx)
 ns:h.Ns1 dx mA
 ne:dx≠x
section
variable{prog:wH}{w:wI}{A:wY}{E:we->wl->Prop}{s:wl}{K:wb}{x dx C f:wf}{mA:Str->Option we}{name:Str}{v:we}
end
section
variable{P:wH}{w:wI}{H H':Hp}{h h':wF}{a C dx:wf}{fs fs':List (Str × V)}
end
structure Zm(K:wb)(C:wf):Prop where
 pg:PySem.W.plainGet K C Str.empty=true
 hd:PySem.W.hasDictIn K C=true
 po:PySem.W.plainOver K C=true
 sa:Vi K (.ref C) "__setattr__"=some (some (.builtin "object.__setattr__"))
structure Con(K:wb)(C:wf)(f:Str)(v:V)(u:we):Prop where
 at_:Vi K (.ref C) f=some (some u)
 rel:aW v u
 get:Q2 K u "__get__"=some none
 cp:PySem.W.copiedNames.contains f=false
structure zDd(K:wb)(C:wf)(m:Str)(f:wf):Prop where
 at_:Vi K (.ref C) m=some (some (.ref f))
 fn:Ul K (.ref f)=true
 kp:VX K (.ref f)=true
section
variable{X:Cx}{pins:List (wf × Obj)}{σ : St}{H:Hp}{s:wl}{a C dx:wf}{fs:List (Str × V)}{f:Str}{v:V}{A:wY}{E:we->wl->Prop}
end
section
variable{X:Cx}{o e value:Expr}{f:Str}{pos pos' tpos:Pos}{ta tv:TE}
end
section
variable{X:Cx}{pins:List (wf × Obj)}{σ : St}{H:Hp}{s:wl}{A:wY}{E:we->wl->Prop}{Q:we->wl->Prop}{c:we}{b:Bool}
inductive gW(K:wb)(H:Hp):V->we->Prop where
 | bj:gW K H .bj (.type "NoneType")
 | bl (x:Bool):gW K H (.bl x) (.type "bool")
 | int (i:Int):gW K H (.int i) (.type "int")
 | str (x:Str):gW K H (.str x) (.type "str")
 | kZ (x:UInt64):gW K H (.kZ x) (.type "float")
 | lst {a:wf} {xs:List V} (e:H a=some (.lst xs)):gW K H (.ref a) (.type "list")
 | fb {a:wf} {o:Obj} {xs:List V} (e:H a=some (.fb o (.lst xs))):gW K H (.ref a) (.type "list")
 | tup {a:wf} {xs:List V} (e:H a=some (.tup xs)):gW K H (.ref a) (.type "tuple")
 | dK {a:wf} {kvs:List (Key × V)} (e:H a=some (.dK kvs)):gW K H (.ref a) (.type "dict")
 | dT {a:wf} {kvs:List (List Key × V)} (e:H a=some (.dT kvs)):gW K H (.ref a) (.type "dict")
 | ins {a C dx:wf} {fs:List (Str × V)} (e:H a=some (.ins C dx fs)) (cl:Zm K C) (ha:Vi K (.ref C) "__class__"=some (some (.builtin "object.__class__")))
     (hn:Q2 K (.builtin "object.__class__") "__get__"=some (some (.builtin "getset_descriptor.__get__"))) (htk:uz K (.builtin "object.__class__")=some true)
     (hm:Xg K C (.type "object")=some true):gW K H (.ref a) (.ref C)
end
structure dN(k:Nat)(A:wY):Prop where
 hd:A.handled=none
 dp:A.depth+3*k+5<recursionLimit
 un:A.units+16*k+200<Wz
 gd:A.guards=some []
theorem dN.mono{j k:Nat}{A:wY}(r:dN k A)(h:j<=k):dN j A:=⟨r.hd,by have:=r.dp;omega,by have:=r.un;omega,by first | exact r.gd | (simp[Um,Code.guards,Uo,guardIds];exact r.gd)⟩
theorem dN.deeper{k:Nat}{A:wY}(r:dN (k+1) A)(env:Env):dN k (A.deeper env) :=
 ⟨r.hd,by have:=r.dp;show A.depth+1+3*k+5<_;omega,by have:=r.un;show A.units+3+16*k+200<_;omega,by first | exact r.gd | (simp[Um,Code.guards,Uo,guardIds];exact r.gd)⟩
theorem dN.depth{k:Nat}{A:wY}(r:dN k A):A.depth<recursionLimit:=by have:=r.dp;omega
theorem dN.units{k:Nat}{A:wY}(r:dN k A):A.units+64<Wz:=by have:=r.un;omega
def CU:TA:=λ_ H Q=>Q [] H
def Dd(ta:TE)(tr:TA):TA:=λσ H Q=>ta σ H λx H1=>tr σ H1 λxs H2=>Q (x::xs) H2
section
variable{X:Cx}{e:Expr}{es:List Expr}{te:TE}{t:TA}{pos:Pos}
theorem af:PA X [] CU:=λ_ _ _ _ H Q I h=>Q3 ⟨[],H,I,.nil,h⟩
theorem ae(ha:PE X e te)(hr:PA X es t)(hs:w5 (e::es) X.env=(false,eval e X.env)::w5 es X.env:=by rfl):PA X (e::es) (Dd te t):=by
 intro pos pins s σ H Q I h;rw[hs]
 show wt _ _ (spliced ((false,eval e X.env)::Vh pos (w5 es X.env))) _ _ s
 refine QP (aI (ha pins s σ H _ I h) λu s1 ⟨x,H1,I1,r1,q1⟩=>?_);exact aI (hr pos pins s1 σ H1 _ I1 q1) λus s2 ⟨xs,H2,I2,r2,q2⟩=>⟨x::xs,H2,I2,.cons r1 r2,q2⟩
def Tw(t:TA):TE:=λσ H Q=>t σ H λxs H1=>xs.length<=wZ /\ ∀p,H1 p=none->Q (.ref p) (upd H1 p (.tup xs))
def zCV(t:TA):TE:=λσ H Q=>t σ H λxs H1=>xs.length<=wZ /\ ∀p,H1 p=none->Q (.ref p) (upd H1 p (.lst xs))
theorem zA2{x1}(h:PA X es t):PE X (.Tuple es x1 pos) (Tw t):=by
 intro pins s σ H Q I hq;refine wpAny_Tuple_spliced (aI (h pos pins s σ H _ I hq) λus s1 ⟨xs,H1,I1,r,z,q⟩=>⟨by rw[<- r.length];exact z,?_⟩);have hf:H1 s1.heap.objs.size=none:=I1.aG.fresh (wo _);refine⟨.ref s1.heap.objs.size,upd H1 s1.heap.objs.size (.tup xs),I1.laid (t':=s1.toks) (λb u e=>wn _ e) (wo _) ?_,rfl,q _ hf⟩;exact⟨z,us,r,⟨_,wM _ rfl,rfl,_,rfl⟩⟩
theorem Yz(h:PA X es t):PE X (.List es pos) (zCV t):=by
 intro pins s σ H Q I hq;refine wpAny_List_spliced (aI (h pos pins s σ H _ I hq) λus s1 ⟨xs,H1,I1,r,z,q⟩=>⟨by rw[<- r.length];exact z,?_⟩);have hf:H1 s1.heap.objs.size=none:=I1.aG.fresh (wo _);refine⟨.ref s1.heap.objs.size,upd H1 s1.heap.objs.size (.lst xs),I1.laid (t':=s1.toks) (λb u e=>wn _ e) (wo _) ?_,rfl,q _ hf⟩;exact⟨z,us,0,r,wM _ rfl⟩
end
abbrev Sp:=List V->Hp->VK->XK->Prop
abbrev fG:=List Env->Hp->wl->XK->we->wl->Prop
structure pV(P:wH)(w:wI)(K:wb)(mg:Str->Option we)(base:wF)(A:wY)(outer:List Env)(s:wl)(H:Hp):Prop where
 frames:A.frames=some outer
 mod:Mod K mg base
 bs:∀b o,base.get? b=some o->s.heap.get? b=some o/\H b=none
 ic:base.objs.size<=s.heap.objs.size
 eG:s.heap.FunFrames base outer
 iK:∀b∈dy outer,H b=none
 aG:cU P w H s.heap
 bare:AllBare s.gens
def CE(outer:List Env)(P:wH)(w:wI)(H:Hp)(s:wl)(Q:VK)(u:we)(s':wl):Prop :=
 ∃v H',s'.os=s.os/\AllBare s'.gens/\Un (dy outer) [] H H' s.heap s'.heap/\cU P w H' s'.heap/\aW v u/\Q v H'
def CR(CX:fG)(outer:List Env)(P:wH)(w:wI)(H:Hp)(s:wl)(Q:VK)(E:XK)(r:Result)(s':wl):Prop :=
 match r with
 | .ok (.ret u)=>CE outer P w H s Q u s'
 | .ok _=>False
 | .error e=>CX outer H s E e s'
structure aJ(P:wH)(w:wI)(K:wb)(mg:Str->Option we)(base:wF)(CX:fG)(k:Nat)(f:wf)(fd:wE)(ps:List Str)(sp:Sp):Prop where
 len:∀vs H Q E,sp vs H Q E->vs.length=ps.length
 run:∀(A:wY)(outer:List Env)(s:wl)(H:Hp)(args:Args)(us:List we)(vs:List V)(Q:VK)(E:XK),dN k A->pV P w K mg base A outer s H->BindsTo s fd args (ps.zip us)->aM vs us->sp vs H Q E ->
   codeAny (model P w) A (.call (.ref f) args) (CR CX outer P w H s Q E) s
section
variable{X:Cx}{pins:List (wf × Obj)}{σ : St}{H:Hp}{s s':wl}
theorem Inv.Ij(I:Inv X pins σ H s):pV X.prog X.w X.K X.mg X.base X.A X.stack s H :=
 ⟨I.ok.frames,I.ok.mod,I.bs,vV I.ok.ic I.sz,I.stack,I.q_,I.aG,I.bare⟩
theorem Inv.after{Q:VK}{u:we}(I:Inv X pins σ H s)(h:CE X.stack X.prog X.w H s Q u s'):EP X pins σ Q u s':=by
 obtain⟨v,H',os,bare,un,aG,r,q⟩:=h;obtain⟨hh,g,d,t,os'⟩:=s';obtain rfl:os'=s.os:=os;exact⟨v,H',I.call (h':=hh) (g':=g) (d':=d) (t':=t) (ch:=[]) un aG bare (λb z=>absurd z (by simp)),r,q⟩
end
def pP(sp:Sp)(dvs:List V)(E:XK)(t:TA):TE:=λσ H Q=>t σ H λvs H1=>sp (vs++dvs) H1 Q E
def kY(K:wb)(fd:wE)(ps:List Str)(ds:List we):Prop :=
 ∀(s:wl)(us:List we),K.In s.heap->(us++ds).length=ps.length->BindsTo s fd ⟨us,[]⟩ (ps.zip (us++ds))
theorem kY.all{K:wb}{fd:wE}{ps:List Str}(h:∀us:List we,us.length=ps.length->bindArgs fd ⟨us,[]⟩=pure (ps.zip us)):kY K fd ps []:=λs us _ hl=>by
 rw[We]at hl ⊢;exact .of_eq (h us hl)
def nA(CX:fG)(X:Cx)(E:XK):Prop:=∀(pins:List (wf × Obj))(σ : St)(H:Hp)(s:wl)(e:we)(s':wl),Inv X pins σ H s->CX X.stack H s E e s'->X.xe e s'
section
variable{X:Cx}{CX:fG}{k:Nat}{f C:wf}{fd:wE}{ps:List Str}{sp:Sp}{dvs:List V}{ds:List we}{E:XK}{x m:Str}{p pos apos:Pos}{e o:Expr}{es:List Expr}{ta:TE}{t:TA}
theorem ZV{pins:List (wf × Obj)}{σ : St}{H:Hp}{s:wl}{Q:VK}{us:List we}{vs:List V}(F:aJ X.prog X.w X.K X.mg X.base CX k f fd ps sp)(hr:dN k X.A)(hb:kY X.K fd ps ds)(hd:aM dvs ds)(hx:nA CX X E)
  (I:Inv X pins σ H s) (r:aM vs us) (h:sp (vs++dvs) H Q E):wt (model X.prog X.w) X.A (call (.ref f) us) (EP X pins σ Q) X.xe s:=by
 have r2:aM (vs++dvs) (us++ds):=r.append hd;have hl:(us++ds).length=ps.length:=by rw[<- r2.length];exact F.len _ _ _ _ h
 refine wpAny_call (codeAny_mono (F.run X.A X.stack s H ⟨us,[]⟩ (us++ds) (vs++dvs) Q E hr I.Ij (hb s us I.dk hl) r2 h) λr s' hq=>?_);cases r with
 | error e=>exact hx pins σ H s e s' I hq
 | ok fl =>
  cases fl with
  | ret u=>exact I.after hq
  | next=>exact WU hq
  | brk=>exact WU hq
  | cont=>exact WU hq
theorem JI(F:aJ X.prog X.w X.K X.mg X.base CX k f fd ps sp)(hr:dN k X.A)(hg:Gl X x)(hm:X.mg x=some (.ref f))(hk:VX X.K (.ref f)=true)(hb:kY X.K fd ps ds)(hd:aM dvs ds)(hx:nA CX X E)
  (ha:PA X (e::es) t) (hdb:(x == ("__debug__" : Str))=false:=by decide) (he:w5 (e::es) X.env=(false,eval e X.env)::w5 es X.env:=by rfl) (hpl:(Vh pos (w5 es X.env)).any (·.1)=false:=by rfl) :
  PE X (.Call (.Name x p) (e::es) [] pos) (pP sp dvs E t):=by
 intro pins s σ H Q I h;refine Qc (nU I hg hm ?_ hdb);refine Xw (h₀:=X.base) I.ok.mod.oI hk (aI (ha pos pins s σ H _ I h) λus s1 ⟨vs,H1,I1,r,q⟩=>⟨I1.dk,?_⟩) he hpl;exact ZV F hr hb hd hx I1 r q
structure Mk(K:wb)(C f:wf):Prop where
 makes:PySem.W.makesIn K C=true
 init:Vi K (.ref C) "__init__"=some (some (.ref f))
 fn:Ul K (.ref f)=true
 kp:VX K (.ref C)=true
end
section
variable{X:Cx}{CX:fG}{k:Nat}{f C:wf}{fd:wE}{ps ks:List Str}{sp:Sp}{E:XK}{x m:Str}{p pos apos kpos:Pos}{e o:Expr}{es:List Expr}{kws:List Keyword}{te ta:TE}{t tk:TA}{nm:Option Str}
structure zCT(K:wb)(fd:wE)(ps ks:List Str)(g:List we->List we->List we)(gV:List V->List V->List V):Prop where
 to:∀(s:wl)(us ws:List we),K.In s.heap->(g us ws).length=ps.length->BindsTo s fd ⟨us,ks.zip ws⟩ (ps.zip (g us ws))
 rel:∀{vs:List V}{us:List we}{zs:List V}{ws:List we},aM vs us->aM zs ws->aM (gV vs zs) (g us ws)
variable{g:List we->List we->List we}{gV:List V->List V->List V}
end
structure aT(N P:List Str)(sc:Scope):Prop where
 kind:sc.kind=.function
 co:sc.isCoroutine=false
 gen:sc.isGenerator=false
 nd:N.Nodup
 pre:N.take P.length=P
 par:∀x∈P,sc.names.lookup x=some .local\/sc.names.lookup x=some .cell
 So:∀y∈sc.names,y.2≠.free
theorem LK{kindOf:Str->Option W0}{x:Str} : ∀{binds:List (Str × we)}{m:Str->Option we},(∀v,(x,v) ∉ binds)->bindL kindOf binds m x=m x
 | [],_,_=>rfl
 | (n,v)::r,m,h=>by
  unfold bindL;rw[LK λw hw=>h w (wy _ hw)]
  split
  ·have:x≠n:=by rintro rfl;exact h v wC
   simp[this]
  ·rfl
theorem PH{kindOf:Str->Option W0}{x:Str} : ∀{binds:List (Str × we)}{m:Str->Option we},(∀v,(x,v) ∉ binds)->bindC kindOf binds m x=m x
 | [],_,_=>rfl
 | (n,v)::r,m,h=>by
  unfold bindC;rw[PH λw hw=>h w (wy _ hw)]
  split
  ·rfl
  ·have:x≠n:=by rintro rfl;exact h v wC
   simp[this]
theorem IK{kindOf:Str->Option W0}{x:Str}{v:we} : ∀{P:List Str}{vs:List we}{i:Nat}{m:Str->Option we},P.Nodup->P[i]? = some x->vs[i]? = some v->kindOf x=some .local ->
  bindL kindOf (P.zip vs) m x=some v
 | [],_,_,_,_,h,_,_=>by simp at h
 | _::_,[],_,_,_,_,h,_=>by simp at h
 | p::P,w::vs,0,m,nd,h1,h2,hk=>by
  simp at h1 h2;subst h1;subst h2
  show bindL kindOf ((p,w)::P.zip vs) m p=_
  unfold bindL;rw[LK λv hv=>(WN.mp nd).1 (xu hv).1,if_pos hk];simp
 | p::P,w::vs,i+1,m,nd,h1,h2,hk=>by
  show bindL kindOf ((p,w)::P.zip vs) m x=_
  unfold bindL;exact IK (i:=i) (WN.mp nd).2 (by simpa using h1) (by simpa using h2) hk
theorem JV{kindOf:Str->Option W0}{x:Str}{v:we} : ∀{P:List Str}{vs:List we}{i:Nat}{m:Str->Option we},P.Nodup->P[i]? = some x->vs[i]? = some v->kindOf x≠some .local ->
  bindC kindOf (P.zip vs) m x=some v
 | [],_,_,_,_,h,_,_=>by simp at h
 | _::_,[],_,_,_,_,h,_=>by simp at h
 | p::P,w::vs,0,m,nd,h1,h2,hk=>by
  simp at h1 h2;subst h1;subst h2
  show bindC kindOf ((p,w)::P.zip vs) m p=_
  unfold bindC;rw[PH λv hv=>(WN.mp nd).1 (xu hv).1,if_neg hk];simp
 | p::P,w::vs,i+1,m,nd,h1,h2,hk=>by
  show bindC kindOf ((p,w)::P.zip vs) m x=_
  unfold bindC;exact JV (i:=i) (WN.mp nd).2 (by simpa using h1) (by simpa using h2) hk
def start(N:List Str)(vs:List V):St:=vs.map some++vf (N.length-vs.length) none
def ie(CX:fG)(P:wH)(w:wI)(K:wb)(mg:Str->Option we)(base:wF)(N:List Str)(qual:Str)(scope:Scope)(f:wf)(cd:we)(A:wY)(outer:List Env)(s:wl)(H:Hp)(E:XK):Cx where
 prog:=P
 w:=w
 K:=K
 mg:=mg
 base:=base
 A:=A.deeper (envOfC qual scope s.heap.objs.size f cd)
 N:=N
 s₀:=s
 H₀:=H
 env:=envOfC qual scope s.heap.objs.size f cd
 outer:=outer
 stack:=envOfC qual scope s.heap.objs.size f cd::outer
 ex:=[]
 calm:=true
 fn:=λ_=>true
 pn:=[]
 xe:=λe s'=>wt (model P w) (A.deeper (envOfC qual scope s.heap.objs.size f cd)) (leaving (envOfC qual scope s.heap.objs.size f cd) e) (λ_ s''=>CX outer H s E e s'') (λe' s''=>CX outer H s E e' s'') s'
theorem B6{sc:Scope}{n:Nat}{x:Str}(h:sc.names.lookup x=some .cell):∃c,(cellsFrom n sc.names []).lookup x=some c:=by
 have q:=xD sc.names n [] (.inl h);exact Option.isSome_iff_exists.mp q
theorem zuy{CX:fG}{P:wH}{w:wI}{K:wb}{mg:Str->Option we}{base:wF}{N ps:List Str}{qual:Str}{scope:Scope}{f:wf}{cd:we}{A:wY}{outer:List Env}{s s1:wl}{H:Hp}{E:XK}{us:List we}{vs:List V}
  (S:aT N ps scope) (hd:A.handled=none) (e0:pV P w K mg base A outer s H) (hl:vs.length=ps.length) (r:aM vs us)
  (x:InCallC s s.heap.objs.size (bindL (envOfC qual scope s.heap.objs.size f cd).kindOf (ps.zip us) λ_=>none) (cellsFrom (s.heap.objs.size+1) scope.names []) (bindC (envOfC qual scope s.heap.objs.size f cd).kindOf (ps.zip us) λ_=>none) s1) :
  Inv (ie CX P w K mg base N qual scope f cd A outer s H E) [] (start N vs) H s1:=by
 have hpl:ps.length<=N.length:=by have:=congrArg List.length S.pre;rw[Wn]at this;omega
 obtain⟨h1,tk,rfl,hk⟩:=x.done;have noA:∀b:wf,b ∉ (ie CX P w K mg base N qual scope f cd A outer s H E).ex:=λb z=>absurd (show b∈([]:List wf)from z) (by simp)
 refine⟨⟨e0.mod,S.kind,rfl,rfl,wo _,λy z c h1 h2=>?_,λy hy=>?_,λy c _ h=>?_,λ_=>hd,Around.frames_deeper e0.frames,.inr ⟨rfl,rfl⟩,λb z=>absurd z (noA b),e0.bs,e0.ic,λb _ _=>noA b,λb z=>absurd z (noA b),e0.eG,e0.iK⟩,
  rfl,e0.bare,Un.kept hk,⟨_,x.toInCall.ns,λi y v h1 h2 h3=>?_⟩,λy c h=>⟨_,x.cell y c h⟩,e0.aG.fresh (wo _),λy c h=>?_,λp hp=>absurd (show p∈([]:List (wf × Obj))from hp) (by simp),e0.aG.kept hk,?_⟩
 ·exact name_of_addr x.apart (Vg h1) (Vg h2)
 ·have hy:scope.names.lookup y=some .cell\/scope.names.lookup y=some .free:=hy
  rcases hy with hy | hy
  ·exact B6 hy
  ·exact absurd rfl (S.So _ (Vg hy))
 ·exact Va (x.above y c (Vg h))
 ·have hi:i<vs.length:=by
   unfold start at h2
   by_cases hi:i<vs.length
   ·exact hi
   ·rw[vv (by simpa using hi)]at h2
    rw[xo]at h2
    split at h2<;>cases h2
  have ha:vs[i]? = some v:=by
   unfold start at h2;rw[vR (by simpa using hi),wx]at h2;cases e:vs[i]? with
   | none=>rw[e]at h2;cases h2
   | some a=>rw[e]at h2;cases h2;rfl
  obtain⟨u,hu,rv⟩:=r.get ha
  have hp:ps[i]? = some y:=by
   rw[<- S.pre,xg (by omega)];exact h1
  have ndP:ps.Nodup:=by rw[<- S.pre];exact S.nd.sublist (XM _ _)
  refine⟨u,rv,?_⟩;rcases S.par y (x5 hp)with k | k
  ·exact .inl ⟨k,IK ndP hp hu k⟩
  ·obtain⟨c,e⟩:=B6 (n:=s.heap.objs.size+1) k
   refine .inr ⟨.inl k,c,e,?_⟩;have q:=x.cell y c e;rw[JV ndP hp hu (by show scope.names.lookup y≠_;rw[k];decide)]at q;exact q
 ·exact e0.aG.fresh (Va (x.above y c (Vg h)))
 ·unfold start
  show _=N.length
  rw[wT,wm,Wt];omega
theorem NN{CX:fG}{P:wH}{w:wI}{K:wb}{mg:Str->Option we}{base:wF}{k:Nat}{f:wf}{name qual:Str}{params:Arguments}{body:List vd}{scope:Scope}{dV kV doc pm cdv ct oc:we}{an od:Option wf}
  {osl:Array (Option we)} {N ps:List Str} {sp:Sp} (lk:K.lookup f=some ⟨oc,od,.func (VZ name qual params body scope dV kV doc pm an cdv ct),osl⟩) (hcd:QD K cdv qual=true) (S:aT N ps scope)
  (len:∀vs H Q E,sp vs H Q E->vs.length=ps.length)
  (hbody:∀(A:wY)(outer:List Env)(s:wl)(H:Hp)(vs:List V)(Q:VK)(E:XK),dN k (A.deeper (envOfC qual scope s.heap.objs.size f cdv))->sp vs H Q E ->
   ∃t,eX (ie CX P w K mg base N qual scope f cdv A outer s H E) body t/\t {nx:=λ_ H'=>Q .bj H',rt:=Q} (start N vs) H) :
  aJ P w K mg base CX (k+1) f (VZ name qual params body scope dV kV doc pm an cdv ct) ps sp:=by
 refine⟨len,λA outer s H args us vs Q E hr e0 hb r hsp=>?_⟩;have hl:=len _ _ _ _ hsp;have KX:K.In s.heap:=e0.mod.oI.keeps λb o e=>(e0.bs b o e).1
 have lim:s.heap.NoLimit:=e0.mod.nolimit.keeps λb o e=>(e0.bs b o e).1
 have hkind:∀y∈ps.zip us,scope.names.lookup y.1=some .local\/(scope.names.lookup y.1=some .cell/\((cellsFrom (s.heap.objs.size+1) scope.names []).lookup y.1).isSome=true):=λ⟨n,v⟩ hy=>by
  rcases S.par n (xu hy).1 with q | q
  ·exact .inl q
  ·exact .inr ⟨q,xD _ _ _ (.inl q)⟩
 refine codeAny_call_function hr.depth (KX _ _ lk) rfl S.co S.gen rfl (PySem.W.codeRec_of KX hcd) (hb _ _ _ _ ?_);refine wpAny_newFunctionEnv_cells S.kind hkind λenv he s1 x=>?_
 subst he;refine⟨lim.keeps x.toInCall.keep,codeAny_func ?_⟩;obtain⟨t,ht,hq⟩:=hbody A outer s H vs Q E (hr.deeper _) hsp;have I:Inv (ie CX P w K mg base N qual scope f cdv A outer s H E) [] (start N vs) H s1:=zuy S hr.hd e0 hl r x;refine Wy (ht [] s1 (start N vs) H _ I hq) (λfl s' hs=>?_) λe s' hs=>hs
 have fin:∀{σ':St}{H':Hp}{v:V}{u:we},Inv (ie CX P w K mg base N qual scope f cdv A outer s H E) [] σ' H' s'->aW v u->Q v H'->CE outer P w H s Q u s' :=
  λ{σ' H' v u} J rv q=>⟨v,H',J.os,J.bare,J.base,J.aG,rv,q⟩
 cases fl with
 | ret u =>
  obtain⟨v,σ',H',J,rv,q⟩:=hs;exact fin J rv q
 | next =>
  obtain⟨σ',H',J,q⟩:=hs;exact fin (v:=V.bj) (u:=Value.none) J rfl q
 | brk =>
  obtain⟨_,_,_,q⟩:=hs;exact WU q
 | cont =>
  obtain⟨_,_,_,q⟩:=hs;exact WU q
section
variable{X:Cx}{x:Str}{p pos:Pos}{e:Expr}{es:List Expr}{t:TA}{id T:String}{r:List V->Hp->VK->Prop}
def Ek(r:List V->Hp->VK->Prop)(t:TA):TE:=λσ H Q=>t σ H λvs H1=>r vs H1 Q
theorem bR(hc:aO X (.builtin id) r)(hg:Gl X x)(hm:X.mg x=none)(hv:vM x=some (.builtin id))(ha:PA X (e::es) t)(hn:x≠"__name__":=by decide)(hdb:(x == ("__debug__" : Str))=false:=by decide)
  (he:w5 (e::es) X.env=(false,eval e X.env)::w5 es X.env:=by rfl) (hpl:(Vh pos (w5 es X.env)).any (·.1)=false:=by rfl):PE X (.Call (.Name x p) (e::es) [] pos) (Ek r t):=by
 intro pins s σ H Q I h;refine Qc (gf I hg hm hv ?_ hn hdb);exact PyProof.Rows.callWith_builtin1 (aI (ha pos pins s σ H _ I h) λus s1 ⟨vs,H1,I1,r1,q1⟩=>hc pins s1 σ H1 vs us Q I1 r1 q1) he hpl
theorem dQ(hc:aO X (.type T) r)(hg:Gl X x)(hm:X.mg x=none)(hv:vM x=some (.type T))(ha:PA X (e::es) t)(hn:x≠"__name__":=by decide)(hdb:(x == ("__debug__" : Str))=false:=by decide)
  (he:w5 (e::es) X.env=(false,eval e X.env)::w5 es X.env:=by rfl) (hpl:(Vh pos (w5 es X.env)).any (·.1)=false:=by rfl):PE X (.Call (.Name x p) (e::es) [] pos) (Ek r t):=by
 intro pins s σ H Q I h;refine Qc (gf I hg hm hv ?_ hn hdb);exact vx (aI (ha pos pins s σ H _ I h) λus s1 ⟨vs,H1,I1,r1,q1⟩=>hc pins s1 σ H1 vs us Q I1 r1 q1) he hpl
end
section
variable{κ : Type}[DecidableEq κ]
end
abbrev KT(H:Hp):List (List Key × V)->List (List Key × wf × we)->Prop:=Paired λp q=>p.1=q.1/\H q.2.1=some (.tup (p.1.map kV))/\aW p.2 q.2.2
section
variable{P:wH}{w:wI}{H:Hp}{h:wF}{a:wf}
end
section
variable{X:Cx}{pins:List (wf × Obj)}{σ : St}{H:Hp}{s:wl}{a:wf}{y v:V}{u r:we}{o:Option V}{A:wY}{E:we->wl->Prop}
theorem Inv.big(I:Inv X pins σ H s):sysModules<s.heap.objs.size:=by
 have h:wR<s.heap.objs.size:=(I.mod.glob.keeps I.bk).lt;exact Xx (by decide) h
end
section
variable{X:Cx}{pins:List (wf × Obj)}{σ : St}{H:Hp}{s:wl}{a:wf}{kvs:List (Key × V)}{k:Key}{u:we}{A:wY}{E:we->wl->Prop}
end
def N1(i:Expr):Prop:=∀ov iv,subscripted i false ov iv=operate [ov,iv] (getItem ov iv)
theorem zzg{prog:wH}{w:wI}{A:wY}{E:we->wl->Prop}{s:wl}{env:Env}{value slice:Expr}{pos:Pos}{T id:String}{Q:we->wl->Prop}
  (hl:typeLookup (.type T) "__getitem__"=pure (some (.builtin id))) (hs:N1 slice)
  (h:wt (model prog w) A (eval value env) (λo s₁=>wt (model prog w) A (eval slice env) (λi s₂=>s₂.TypeIs o T/\wt (model prog w) A (getItem o i) Q E s₂) E s₁) E s) :
  wt (model prog w) A (eval (.Subscript value slice pos) env) Q E s:=by
 refine Subscript_ (Wy h (λo s₁ h₁=>Wy h₁ (λi s₂ h₂=>?_) λ_ _ x=>x) λ_ _ x=>x);obtain⟨hT,h₂⟩:=h₂;unfold subscriptTail;refine wg ?_;rw[getitemInPython_of_ne hT.not_modules];refine wg (qP hT hl ?_)
 have fin:wt (model prog w) A (subscripted slice false o i) (λr s₃=>wt (model prog w) A (letTemporaryGo value o r >>= λ_=>pure r) Q E s₃) E s₂:=by
  rw[hs o i];exact wpAny_operating (Wy h₂ (λr s₃ h₃=>wg (wpAny_letTemporaryGo (wp h₃))) λ_ _ x=>x)
 first
  | exact wp (wg fin)
  | exact wg (wp (wg fin))
  | exact wg fin
section
variable{X:Cx}{o i e value:Expr}{pos pos' tpos:Pos}{td ty tv:TE}
end
section
variable{X:Cx}{pos:Pos}
end
abbrev VV:List (V × V)->List (we × we)->Prop:=Paired λp q=>aW p.1 q.1/\aW p.2 q.2
structure M1(X:Cx)(o:Expr)(m:Str)(apos:Pos)(e:Expr)(cpos:Pos):Prop where
 base:attributeBase o m X.env (eval o X.env)=eval o X.env
 bX:((Vh cpos (w5 [e] X.env)).all (λx=>!x.1)&&(backToKw cpos (keywordEach [] X.env)).all (λx=>x.1.isSome)
   && decide (([e]:List Expr).length+([]:List Keyword).length+(if([]:List Keyword).isEmpty then 0 else 1)<30))=true
 line:(apos.endLine == cpos.line)=true
 trees:Vh cpos (w5 [e] X.env)=[(false,eval e X.env)]
structure M2(X:Cx)(o:Expr)(m:Str)(apos:Pos)(e f:Expr)(cpos:Pos):Prop where
 base:attributeBase o m X.env (eval o X.env)=eval o X.env
 bX:((Vh cpos (w5 [e,f] X.env)).all (λx=>!x.1)&&(backToKw cpos (keywordEach [] X.env)).all (λx=>x.1.isSome)
   && decide (([e,f]:List Expr).length+([]:List Keyword).length+(if([]:List Keyword).isEmpty then 0 else 1)<30))=true
 line:(apos.endLine == cpos.line)=true
 trees:Vh cpos (w5 [e,f] X.env)=[(false,eval e X.env),(false,eval f X.env)]
section
variable{X:Cx}{pins:List (wf × Obj)}{σ : St}{H:Hp}{s:wl}{a:wf}{y d:V}{u r:we}{o:Option V}{A:wY}{E:we->wl->Prop}
end
section
variable{X:Cx}{o e f:Expr}{apos cpos:Pos}{td ty tx:TE}
end
section
variable{X:Cx}{pins:List (wf × Obj)}{σ : St}{H:Hp}{s:wl}{a:wf}{kvs:List (Key × V)}{A:wY}{E:we->wl->Prop}
end
section
variable{X:Cx}{pins:List (wf × Obj)}{σ : St}{H:Hp}{s:wl}{a:wf}{y:V}{u:we}{A:wY}{E:we->wl->Prop}
end
end L2
namespace HT
open PySem PyProof.Rows
section
open PySem.SeqAt
open PySem.AutoSeq1 (wpAny_loadPart')
open PySem.MeetsSeq PySem.MeetsSeq2 PySem.MeetsSeq3
end
section
variable{prog:wH}{w:wI}{A:wY}{E:we->wl->Prop}{s:wl}
theorem Sl{t b:wf}{vs ws:List we}{Q:we->wl->Prop}(ht:IsTup s.heap t vs.toArray)(hb:IsTup s.heap b ws.toArray)(hv:vs≠[])
  (h1:ws=[]->Q (.ref t) s) (h2:ws≠[]->Q (.ref s.heap.objs.size) {s with heap:=s.heap.push {cls:=.type "tuple",data:=.seq (vs++ws).toArray}})
  (hsz:vs.length+ws.length<=wZ):wt (model prog w) A (WD .Add (.ref t) (.ref b)) Q E s:=by
 obtain⟨⟨cls,dd,data,sl⟩,ho,hc,n,hd⟩:=id ht;obtain⟨⟨cls2,dd2,data2,sl2⟩,ho2,hc2,n2,hd2⟩:=id hb;simp only at hc hd hc2 hd2;subst hc hd hc2 hd2;have e:vs.toArray++ws.toArray=(vs++ws).toArray:=by simp
 by_cases hw:ws=[]
 ·exact concat_meets ⟨_,ho,rfl⟩ ⟨_,ho2,rfl⟩ noFill_tuple_add seq_tuple_add Ql Qg (qR _ _)
   (tuple_addW1 t b vs.toArray ws.toArray n n2 dd dd2 sl sl2 (by simpa using hv) (by simp[hw])) ⟨ho,ho2,h1 hw⟩
 ·refine concat_meets ⟨_,ho,rfl⟩ ⟨_,ho2,rfl⟩ noFill_tuple_add seq_tuple_add Ql Qg (qR _ _)
   (tuple_addW2 t b vs.toArray ws.toArray n n2 dd dd2 sl sl2 (by simpa using hv) (by simpa using hw) (by rw[wN,wN];exact hsz)) ⟨ho,ho2,?_⟩
  rw[e];exact h2 hw
def aX(n d:Nat):Option Int->Nat
 | none=>d
 | some v=>if v<0 then(v+(n:Int)).toNat else min v.toNat n
theorem Si(n d:Nat):aX n d none=d:=rfl
theorem Sm(n d k:Nat):aX n d (some (k:Int))=min k n:=by
 show(if(k:Int)<0 then((k:Int)+(n:Int)).toNat else min (k:Int).toNat n)=min k n
 rw[if_neg (by omega),wP]
theorem zBe(n d:Nat)(hd:d<=n)(o:Option Int):aX n d o<=n:=by
 cases o with
 | none=>exact hd
 | some v =>
  show(if v<0 then(v+(n:Int)).toNat else min v.toNat n)<=n
  by_cases hv:v<0
  ·rw[if_pos hv];omega
  ·rw[if_neg hv];exact ub _ _
theorem LZ(v:Int)(n d:Nat):(if v<0 then max (v+(n:Int)) 0 else min v (n:Int))=((aX n d (some v):Nat):Int):=by
 show(if v<0 then max (v+(n:Int)) 0 else min v (n:Int))=(((if v<0 then(v+(n:Int)).toNat else min v.toNat n):Nat):Int)
 by_cases hv:v<0
 ·simp only[if_pos hv];omega
 ·simp only[if_neg hv];omega
theorem zsO(lo hi:Option Int)(n:Nat):qJ lo hi 1 (n:Int)=(((aX n 0 lo:Nat):Int),((aX n n hi:Nat):Int)):=by
 have h1:¬ ((1:Int)<0):=by omega
 unfold qJ;simp only[h1,if_false];refine Qo ?_ ?_
 ·cases lo with
  | none=>rfl
  | some v=>exact LZ v n 0
 ·cases hi with
  | none=>rfl
  | some v=>exact LZ v n n
theorem ZX(i j:Nat):VS (i:Int) (j:Int) 1=j-i:=by
 unfold VS;have h1:(1:Int) > 0:=by omega
 simp only[h1,if_true,Int.ediv_one]
 split<;>omega
theorem MA{v:we}{o:Option Int}{Q:Option Int->wl->Prop}(p:IsPart v o)(h:Q o s):wt (model prog w) A (uV v) Q E s:=by
 cases p with
 | none=>exact slicePart_none h
 | int i t=>exact slicePart_int h
theorem zkx{sl:wf}{vl vu:we}{lo hi:Option Int}{n:Nat}{Q:Int × Int × Nat->wl->Prop}(hs:s.heap.IsSliceOf sl vl vu .none)(pl:IsPart vl lo)(pu:IsPart vu hi)
  (h:Q (((aX n 0 lo:Nat):Int),1,aX n n hi-aX n 0 lo) s):wt (model prog w) A (QV (.ref sl) (pure (n:Int))) Q E s:=by
 obtain⟨os,hos,hcs,hds⟩:=id hs;unfold QV Uh;refine wg (wg (vA hos hds (x:=vl) rfl (wg (vA hos hds (x:=vu) rfl (wg (vA hos hds (x:=.none) rfl (wp ?_)))))));refine wg (slicePart_none ?_)
 show wt _ _ (if((1:Int) == 0)=true then _ else _) _ _ s
 rw[if_neg (by decide)];refine wg (MA pl (wg (MA pu (wg (wp ?_)))))
 show wt _ _ (match qJ lo hi 1 (n:Int)with | (lo,hi)=>pure (lo,(1:Int),VS lo hi 1)) _ _ s
 rw[zsO lo hi n]
 show wt _ _ (pure (((aX n 0 lo:Nat):Int),(1:Int),VS ((aX n 0 lo:Nat):Int) ((aX n n hi:Nat):Int) 1)) _ _ s
 rw[ZX];exact wp h
theorem zxn(xs:Array we)(i k:Nat):((wq k).filterMap λ(m:Nat)=>xs[((i:Int)+(m:Int)*1).toNat]?).toArray=((xs.toList.drop i).take k).toArray:=by
 have e:(λ(m:Nat)=>xs[((i:Int)+(m:Int)*1).toNat]?)=λm=>xs[i+m]?:=by
  funext m
  have:((i:Int)+(m:Int)*1).toNat=i+m:=by omega
  rw[this]
 rw[e];have:=pick_run xs i k;rw[List.filterMap_map]at this;have e2:((λx=>xs[x]?) ∘ λx=>i+x)=λm=>xs[i+m]?:=rfl
 rw[e2]at this;rw[this]
theorem R0{t sl:wf}{items:Array we}{vl vu:we}{lo hi:Option Int}{Q:we->wl->Prop}(ht:IsTup s.heap t items)(hs:s.heap.IsSliceOf sl vl vu .none)(pl:IsPart vl lo)(pu:IsPart vu hi)
  (hw:¬ (aX items.size 0 lo=0/\aX items.size items.size hi=items.size))
  (h:Q (.ref s.heap.objs.size) {s with heap:=s.heap.push {cls:=.type "tuple",data:=.seq ((items.toList.drop (aX items.size 0 lo)).take (aX items.size items.size hi-aX items.size 0 lo)).toArray}})
  (hsz:items.size<=wZ):wt (model prog w) A (getItem (.ref t) (.ref sl)) Q E s:=by
 have htake:sizeOk (.seq ((items.toList.drop (aX items.size 0 lo)).take (aX items.size items.size hi-aX items.size 0 lo)).toArray):=by
  show((items.toList.drop (aX items.size 0 lo)).take (aX items.size items.size hi-aX items.size 0 lo)).toArray.size<=wZ
  rw[wN,Wn,vU,wJ];omega
 have hj:aX items.size items.size hi<=items.size:=zBe _ _ (wo _) hi;obtain⟨os,hos,hcs,hds⟩:=id hs;have hTs:s.TypeIs (.ref sl) "slice":=⟨os,hos,hcs⟩;unfold getItem
 try with_reducible refine Wg ?_
 first | refine wg (wp ?_) | skip
 refine wg (wpAny_sequenceKey ht.typeIs (by decide) ?_)
 refine wg (wpAny_callSpecial?_slot (name:=vP "__getitem__") ht.typeIs qb
  (vZ qb ht.typeIs entry_tuple_getitem ?_ (args_tuple_getitem _ _)))
 show wt _ _ (QW (.ref t) >>= _) _ _ s
 refine wg (tupleItemsOf_ ht ?_);refine wg (wpAny_typeOf hTs ?_);rw[if_pos (by decide)];refine wg (zkx hs pl pu ?_)
 have hno:¬ ((((aX items.size 0 lo:Nat):Int) == 0&&(1:Int) == 1&&(aX items.size items.size hi-aX items.size 0 lo) == items.size)=true):=by
  intro q;rw[wV,wV]at q;have q1:((aX items.size 0 lo:Nat):Int)=0:=eq_of_beq q.1.1;have q2:aX items.size items.size hi-aX items.size 0 lo=items.size:=eq_of_beq q.2;exact hw ⟨by omega,by omega⟩
 show wt _ _ (if(((aX items.size 0 lo:Nat):Int) == 0&&(1:Int) == 1&&(aX items.size items.size hi-aX items.size 0 lo) == items.size)=true then _ else _) _ _ s
 rw[if_neg hno,zxn]
 first
  | exact wg (m:=V0 _) (WC (wp ⟨_,rfl,wp h⟩) htake)
  | exact wg (m:=V0 _) (WC (wg (wp (wp ⟨_,rfl,wp h⟩))) htake)
  | exact wg (wg (m:=V0 _) (WC (wp (wp ⟨_,rfl,wp h⟩)) htake))
  | exact wg (wg (m:=V0 _) (WC (wp ⟨_,rfl,wp h⟩) htake))
end
end HT
namespace L2
open PySem PySem.Spec PyProof.Rows
abbrev TO:=St->Hp->(Option Int->Hp->Prop)->Prop
def PO(X:Cx)(e:Option Expr)(t:TO):Prop :=
 ∀(pins:List (wf × Obj))(s:wl)(σ : St)(H:Hp)(Q:Option Int->Hp->Prop),Inv X pins σ H s->t σ H Q ->
  wt (model X.prog X.w) X.A (evalPart e X.env) (λu s'=>∃o H',Inv X pins σ H' s'/\IsPart u o/\Q o H') X.xe s
def IX:TO:=λ_ H Q=>Q none H
def Kh(t:TE):TO:=λσ H Q=>t σ H λx H1=>∃i,x=.int i/\Q (some i) H1
theorem yG{ns:List Int} : ∀{us:List we},aM (ns.map V.int) us->IntsAre us ns:=by
 induction ns with
 | nil=>intro us r;rw[xh]at r;cases r;exact .nil
 | cons n ns ih =>
  intro us r;rw[w9]at r;cases r with
  | cons r1 r2 =>
   obtain⟨t,e⟩:=r1;subst e;exact .cons n t (ih r2)
section
variable{X:Cx}{e:Expr}{te:TE}{lo hi:Option Expr}{tl th:TO}{pos p2:Pos}
theorem nM:PO X none IX:=by
 intro pins s σ H Q I h;rw[evalPart_none];exact wp ⟨none,H,I,.none,h⟩
theorem pb(h:PE X e te):PO X (some e) (Kh te):=by
 intro pins s σ H Q I hw;rw[evalPart_some];refine aI (h pins s σ H _ I hw) λu s1 ⟨x,H1,I1,r1,q1⟩=>?_
 obtain⟨i,rfl,q⟩:=q1;obtain⟨t,rfl⟩:=r1;exact⟨some i,H1,I1,.int i t,q⟩
def jU(X:Cx)(r:V->Option Int->Option Int->Hp->VK->Prop):Prop :=
 ∀(pins:List (wf × Obj))(s:wl)(σ : St)(H:Hp)(x:V)(v vl vu:we)(lo hi:Option Int)(sl:wf)(Q:VK),Inv X pins σ H s->aW x v->s.heap.IsSliceOf sl vl vu .none->IsPart vl lo->IsPart vu hi->r x lo hi H Q ->
  ∃T id,typeLookup (.type T) "__getitem__"=pure (some (.builtin id))/\s.TypeIs v T/\wt (model X.prog X.w) X.A (getItem v (.ref sl)) (EP X pins σ Q) X.xe s
theorem jU.or{r r':V->Option Int->Option Int->Hp->VK->Prop}(h:jU X r)(h':jU X r'):jU X (λx lo hi H Q=>r x lo hi H Q\/r' x lo hi H Q):=by
 intro pins s σ H x v vl vu lo hi sl Q I rx hs pl pu q;rcases q with q | q
 ·exact h pins s σ H x v vl vu lo hi sl Q I rx hs pl pu q
 ·exact h' pins s σ H x v vl vu lo hi sl Q I rx hs pl pu q
def NG(r:V->Option Int->Option Int->Hp->VK->Prop)(te:TE)(tl th:TO):TE:=λσ H Q=>te σ H λx H1=>tl σ H1 λl H2=>th σ H2 λu H3=>r x l u H3 Q
theorem pE{r:V->Option Int->Option Int->Hp->VK->Prop}(hr:jU X r)(he:PE X e te)(hl:PO X lo tl)(hu:PO X hi th):PE X (.Subscript e (.Slice lo hi none p2) pos) (NG r te tl th):=by
 intro pins s σ H Q I h;refine Subscript_ (aI (he pins s σ H _ I h) λv s1 ⟨x,H1,I1,r1,q1⟩=>?_);refine wpAny_Slice (aI (hl pins s1 σ H1 _ I1 q1) λvl s2 ⟨l,H2,I2,pl,q2⟩=>aI (hu pins s2 σ H2 _ I2 q2) λvu s3 ⟨u,H3,I3,pu,q3⟩=>?_);rw[evalPart_none];refine wp ?_;have I4:Inv X pins σ H3 {s3 with heap:=s3.heap.push {cls:=.type "slice",data:=.fields #[vl,vu,.none]}}:=I3.kept (t':=s3.toks) λb ob q=>wn _ q
 obtain⟨T,id,hT,ht,hg⟩:=hr pins {s3 with heap:=s3.heap.push {cls:=.type "slice",data:=.fields #[vl,vu,.none]}} σ H3 x v vl vu l u s3.heap.objs.size Q I4 r1 (Uu ..) pl pu q3
 show wt (model X.prog X.w) X.A (subscriptTail e (.Slice lo hi none p2) v (.ref s3.heap.objs.size)) (EP X pins σ Q) X.xe {s3 with heap:=s3.heap.push {cls:=.type "slice",data:=.fields #[vl,vu,.none]}}
 exact tail_any (ops:=[.ref s3.heap.objs.size,v]) ht hT hg (by with_unfolding_all rfl)
def jk(xs:List V)(lo hi:Option Int):List V:=(xs.drop (HT.aX xs.length 0 lo)).take (HT.aX xs.length xs.length hi-HT.aX xs.length 0 lo)
theorem Rk(xs:List V)(lo hi:Option Int):(jk xs lo hi).length<=xs.length:=by
 unfold jk;rw[Wn,vU];omega
def Kk(K:wb):V->Option Int->Option Int->Hp->VK->Prop:=λx lo hi H Q=>∃a xs,x=.ref a/\aR K H a xs /\
 ¬ (HT.aX xs.length 0 lo=0/\HT.aX xs.length xs.length hi=xs.length) /\ ∀p,H p=none->Q (.ref p) (upd H p (.tup (jk xs lo hi)))
theorem zAt:jU X (Kk X.K):=by
 intro pins s σ H x v vl vu lo hi sl Q I rx hs pl pu h;obtain⟨a,xs,rfl,hx,hw,q⟩:=h;cases rx;obtain⟨its,r,ht,hz⟩:=I.tuple hx;have hlen:its.toArray.size=xs.length:=by rw[wN];exact r.length.symm
 refine⟨"tuple",_,qb.lookup,ht.typeIs,?_⟩;refine HT.R0 ht hs pl pu (by rw[hlen];exact hw) ?_ (by rw[hlen];exact hz);rw[hlen];refine⟨.ref s.heap.objs.size,_,I.laid (t':=s.toks) (o:=.tup (jk xs lo hi)) (λb ob q=>wn _ q) (wo _) ?_,rfl,q _ (I.aG.fresh (wo _))⟩;exact⟨vV (Rk xs lo hi) hz,_,(r.drop (HT.aX xs.length 0 lo)).take (HT.aX xs.length xs.length hi-HT.aX xs.length 0 lo),Qq _ _⟩
def P9(K:wb):R2:=λx y H Q=>∃a b xs ys,x=.ref a/\y=.ref b/\aR K H a xs/\aR K H b ys/\xs≠[]/\xs.length+ys.length<=wZ /\
 (ys=[]->Q (.ref a) H)/\(ys≠[]->∀p,H p=none->Q (.ref p) (upd H p (.tup (xs++ys))))
theorem aM.AD{xs:List V}{us:List we}(r:aM xs us):us=[] ↔ xs=[]:=by
 cases r with
 | nil=>simp
 | cons _ _=>simp
theorem ZS:aN X (WD .Add) (P9 X.K):=by
 intro pins s σ H x y v u Q I rx ry h;obtain⟨a,b,xs,ys,rfl,rfl,ha,hb,hx,hz,q1,q2⟩:=h;cases rx;cases ry;obtain⟨its,r1,p1,_⟩:=I.tuple ha;obtain⟨its2,r2,p2,_⟩:=I.tuple hb;refine HT.Sl p1 p2 (λz=>hx (r1.AD.mp z)) (λz=>⟨.ref a,H,I,rfl,q1 (r2.AD.mp z)⟩) (λz=>?_) (by rw[<- r1.length,<- r2.length];exact hz);refine⟨.ref s.heap.objs.size,_,I.laid (t':=s.toks) (o:=.tup (xs++ys)) (λb ob q=>wn _ q) (wo _) ?_,rfl,q2 (λw=>z (r2.AD.mpr w)) _ (I.aG.fresh (wo _))⟩;exact⟨by rw[wT];exact hz,_,r1.append r2,Qq _ _⟩
end
def gG(n:Nat)(i:Int):Option Nat:=if 0<=i then(if i<n then some i.toNat else none)else if -(n:Int)<=i then some (i+n).toNat else none
def gE{α : Type}(xs:List α)(i:Int):Option α:=(gG xs.length i).bind λj=>xs[j]?
theorem LH{n:Nat}{i:Int}{j:Nat}(h:gG n i=some j):seqIndex? i n=some j/\j<n /\ -(n:Int)<=i/\i<n:=by
 unfold gG at h
 by_cases h0:0<=i
 ·rw[if_pos h0]at h
  by_cases h1:i<n
  ·rw[if_pos h1]at h
   have e:i.toNat=j:=wQ h;exact⟨by rw[seqIndex_of h0 h1,e],by omega,by omega,h1⟩
  ·rw[if_neg h1]at h;cases h
 ·rw[if_neg h0]at h
  by_cases h1 : -(n:Int)<=i
  ·rw[if_pos h1]at h
   have e:(i+n).toNat=j:=wQ h;exact⟨by rw[seqIndex_neg (by omega) h1,e],by omega,h1,by omega⟩
  ·rw[if_neg h1]at h;cases h
theorem De{α : Type}{xs:List α}{i:Int}{v : α}(h:gE xs i=some v):∃j,seqIndex? i xs.length=some j/\xs[j]? = some v/\j<xs.length /\ -(xs.length:Int)<=i/\i<xs.length:=by
 unfold gE at h;cases e:gG xs.length i with
 | none=>rw[e]at h;cases h
 | some j =>
  rw[e]at h;obtain⟨h1,h2,h3,h4⟩:=LH e;exact⟨j,h1,h,h2,h3,h4⟩
theorem j5{α : Type}{xs:List α}{j:Nat}{v : α}(h:xs[j]? = some v):gE xs (j:Int)=some v:=by
 have hj:j<xs.length:=(WE.mp h).1
 have e:gG xs.length (j:Int)=some j:=by
  unfold gG;rw[if_pos (by omega),if_pos (by omega)];simp
 unfold gE;rw[e];exact h
def zx4(b:Expr):Prop:=∀o i,subscripted b false o i=operate [o,i] (getItem o i)
def fZ(X:Cx)(r:R2):Prop :=
 ∀(value slice:Expr)(pins:List (wf × Obj))(s:wl)(σ : St)(H:Hp)(x y:V)(v u:we)(Q:VK),Inv X pins σ H s->aW x v->aW y u->r x y H Q ->
  subscripted slice false v u=operate [v,u] (getItem v u)->wt (model X.prog X.w) X.A (subscriptTail value slice v u) (EP X pins σ Q) X.xe s
def MW(X:Cx)(id:String)(r:V->List V->Hp->VK->Prop):Prop :=
 ∀(pins:List (wf × Obj))(s:wl)(σ : St)(H:Hp)(x:V)(xs:List V)(v:we)(us:List we)(Q:VK),Inv X pins σ H s->aW x v->aM xs us->r x xs H Q ->
  wt (model X.prog X.w) X.A (call (.builtin id) (v::us)) (EP X pins σ Q) X.xe s
section
variable{X:Cx}{a b:Expr}{ta tb:TE}{pos:Pos}
theorem fZ.or{r r':R2}(h:fZ X r)(h':fZ X r'):fZ X (λx y H Q=>r x y H Q\/r' x y H Q):=by
 intro value slice pins s σ H x y v u Q I rx ry q hs;rcases q with q | q
 ·exact h value slice pins s σ H x y v u Q I rx ry q hs
 ·exact h' value slice pins s σ H x y v u Q I rx ry q hs
theorem dH{r:R2}(hr:fZ X r)(ha:PE X a ta)(hb:PE X b tb)(hs:zx4 b):PE X (.Subscript a b pos) (lA r ta tb):=by
 intro pins s σ H Q I h;exact Subscript_ (Cw ha hb I h λv u s2 x y H2 I2 rx ry q=>hr a b pins s2 σ H2 x y v u Q I2 rx ry q (hs _ _))
def OP(K:wb):R2:=λx y H Q=>∃p xs i v,x=.ref p/\y=.int i/\aK K H p xs/\gE xs i=some v/\Q v H
def Oa(K:wb):R2:=λx y H Q=>∃p xs i v,x=.ref p/\y=.int i/\aR K H p xs/\gE xs i=some v/\Q v H
def RF:R2:=λx y H Q=>∃z i c,x=.str z/\y=.int i/\z.length<=wZ/\gE z.cps.toList i=some c/\Q (.str ⟨#[c]⟩) H
theorem zyd:fZ X (OP X.K):=by
 intro value slice pins s σ H x y v u Q I rx ry h hs;obtain⟨p,xs,i,z,rfl,rfl,hq,he,q⟩:=h;cases rx;obtain⟨t,rfl⟩:=ry;obtain⟨its,r,pl,hz⟩:=I.list hq;obtain⟨j,h1,h2,h3,h4,h5⟩:=De he;obtain⟨w,ew,rw'⟩:=r.get h2;have hl:=r.length;have hn:=mq;have fin:EP X pins σ Q w s:=⟨z,H,I,rw',q⟩
 by_cases h0:0<=i
 ·have hj:i.toNat=j:=by
   rw[seqIndex_of h0 h5]at h1;exact wQ h1
  exact item_listR pl.isList h0 (by omega) (by rw[hj];simpa using ew) fin hs
 ·have hj:(i+(its.toArray.size:Int)).toNat=j:=by
   rw[seqIndex_neg (by omega) h4]at h1;rw[wN,<- hl];exact wQ h1
  exact subscriptTail_builtinR (x:=w) pl.isList.typeIs slot_list_getitem.lookup
   (wpAny_getItem_list_neg (Q:=λr s'=>r=w/\EP X pins σ Q r s') pl.isList (by omega) (by rw[wN]<;>omega) (by omega) (by rw[hj];simpa using ew) ⟨rfl,fin⟩) hs
theorem zBp:fZ X (Oa X.K):=by
 intro value slice pins s σ H x y v u Q I rx ry h hs;obtain⟨p,xs,i,z,rfl,rfl,hq,he,q⟩:=h;cases rx;obtain⟨t,rfl⟩:=ry;obtain⟨its,r,pl,hz⟩:=I.tuple hq;obtain⟨j,h1,h2,h3,h4,h5⟩:=De he;obtain⟨w,ew,rw'⟩:=r.get h2;have hl:=r.length;have hn:=mq;have fin:EP X pins σ Q w s:=⟨z,H,I,rw',q⟩
 exact subscriptTail_builtinR (x:=w) pl.typeIs slot_tuple_getitem.lookup
  (getItem_tuple (j:=j) (Q:=λr s'=>r=w/\EP X pins σ Q r s') pl (by omega) (by omega) (by rw[wN,<- hl];exact h1) (by simpa using ew) ⟨rfl,fin⟩) hs
theorem zAx:fZ X RF:=by
 intro value slice pins s σ H x y v u Q I rx ry h hs;obtain⟨z,i,c,rfl,rfl,hz,he,q⟩:=h;obtain⟨t,rfl⟩:=rx;obtain⟨t',rfl⟩:=ry;obtain⟨j,h1,h2,h3,h4,h5⟩:=De he;have hl:z.cps.toList.length=z.length:=by simp[Str.length]
 rw[hl]at h1 h4 h5;have hn:=mq
 exact tail_any (typeIs_str s z t) slot_str_getitem.lookup (getItem_str (c:=c) (by
  have e1:decide (i < -(2^63:Int))=false:=decide_eq_false (by omega);have e2:decide (i ≥ 2^63)=false:=decide_eq_false (by omega);rw[e1,e2,Bool.or_false]) (by rw[h1];simpa using h2) ⟨.str ⟨#[c]⟩,H,I.tok _,⟨_,rfl⟩,q⟩) hs
def cQ(K:wb):R2:=λx y H Q=>OP K x y H Q\/Oa K x y H Q\/RF x y H Q
theorem cY:fZ X (cQ X.K):=zyd.or (zBp.or zAx)
theorem YS(its:List we)(n j:Nat)(u:we):Q8 (·.setIfInBounds j u) {cls:=.type "list",data:=.seq its.toArray n} = {cls:=.type "list",data:=.seq (its.set j u).toArray n}:=by
 simp[Q8]
theorem Inv.lst{pins:List (wf × Obj)}{σ : St}{H:Hp}{s:wl}{p:wf}{xs:List V}(I:Inv X pins σ H s)(h:H p=some (.lst xs)) :
  ∃(its:List we)(n:Nat),aM xs its/\s.heap.get? p=some {cls:=.type "list",data:=.seq its.toArray n}/\xs.length<=wZ:=by
 obtain⟨z,its,n,r,e⟩:=I.aG p _ h;exact⟨its,n,r,e,z⟩
theorem Inv.Sn{pins:List (wf × Obj)}{σ : St}{H:Hp}{s:wl}{p:wf}{xs ys:List V}{its its':List we}{n n':Nat}{f:Obj->Obj}(I:Inv X pins σ H s)(h:H p=some (.lst xs))
  (ho:s.heap.get? p=some {cls:=.type "list",data:=.seq its.toArray n}) (hf:f {cls:=.type "list",data:=.seq its.toArray n} = {cls:=.type "list",data:=.seq its'.toArray n'}) (r:aM ys its') (hz:ys.length<=wZ) (t:Nat) :
  Inv X pins σ (upd H p (.lst ys)) {s with heap:=s.heap.update p f,toks:=t}:=by
 have e:(s.heap.update p f).get? p=some {cls:=.type "list",data:=.seq its'.toArray n'}:=by
  rw[Vv f ho (by rw[hf]<;>rfl),hf]
 refine I.write (x:=p) (e:=p) (by rw[h];trivial) (.inl rfl) (λb u hb q=>(Qm _ _ (WA hb)).trans q) ⟨_,e⟩ ?_;exact⟨hz,its',n',r,e⟩
def PQ:V->V->V->Hp->(Hp->Prop)->Prop:=λo i v H Q=>∃p xs k j,o=.ref p/\i=.int k/\H p=some (.lst xs)/\gG xs.length k=some j/\Q (upd H p (.lst (xs.set j v)))
theorem oq:RW X PQ:=by
 intro pins s σ H o i v ov iv u Q I ro ri rv h;obtain⟨p,xs,k,j,rfl,rfl,hp,hj,q⟩:=h;cases ro;obtain⟨t,rfl⟩:=ri;obtain⟨its,n,r,ho,hz⟩:=I.lst hp;obtain⟨h1,h2,h3,h4⟩:=LH hj;have hl:=r.length;have hn:=mq
 have I':Inv X pins σ (upd H p (.lst (xs.set j v))) {s with heap:=s.heap.update p (Q8 (·.setIfInBounds j u))} :=
  I.Sn hp ho (YS its n j u) (r.set rv j) (by rw[Vw];exact hz) s.toks
 by_cases h0:0<=k
 ·have hk:k.toNat=j:=by
   rw[seqIndex_of h0 h4]at h1;exact wQ h1
  exact PySem.W.ki_setAt ho h0 (by omega) (by rw[wN,<- hl];exact h4) (by rw[hk];exact⟨_,I',q⟩)
 ·have hk:(k+(its.toArray.size:Int)).toNat=j:=by
   rw[seqIndex_neg (by omega) h3]at h1;rw[wN,<- hl];exact wQ h1
  exact PySem.W.ki_setBack ho (by omega) (by rw[wN,<- hl];exact h3) (by omega) (by rw[hk];exact⟨_,I',q⟩)
theorem zoG(lo hi:Option Int)(n:Nat):(qG lo hi none n).1=((HT.aX n 0 lo:Nat):Int)/\(qG lo hi none n).2.1=((HT.aX n n hi:Nat):Int)/\(qG lo hi none n).2.2=1:=by
 refine⟨?_,?_,rfl⟩
 ·cases lo with
  | none=>simp[qG,HT.aX]
  | some i =>
   simp only[qG,HT.aX,uc,show(1:Int) > 0 by decide,if_true]
   by_cases h:i<0
   ·simp only[h,if_true]<;>omega
   ·simp only[h,if_false]<;>omega
 ·cases hi with
  | none=>simp[qG,HT.aX]
  | some i =>
   simp only[qG,HT.aX,uc,show(1:Int) > 0 by decide,if_true]
   by_cases h:i<0
   ·simp only[h,if_true]<;>omega
   ·simp only[h,if_false]<;>omega
theorem zno(its:List we)(lo hi:Option Int):slicePick its.toArray lo hi none=((its.drop (HT.aX its.length 0 lo)).take (HT.aX its.length its.length hi-HT.aX its.length 0 lo)).toArray:=by
 obtain⟨h1,h2,h3⟩:=zoG lo hi its.toArray.size;unfold slicePick;rw[h1,h2,h3];simp only[sliceRange_one,pick_run,wN]<;>rfl
def Mt(K:wb):V->Option Int->Option Int->Hp->VK->Prop:=λx lo hi H Q=>∃a xs,x=.ref a/\aK K H a xs /\ ∀p,H p=none->Q (.ref p) (upd H p (.lst (jk xs lo hi)))
theorem zxZ:jU X (Mt X.K):=by
 intro pins s σ H x v vl vu lo hi sl Q I rx hs pl pu h;obtain⟨a,xs,rfl,hx,q⟩:=h;cases rx;obtain⟨its,r,ht,hz⟩:=I.list hx;have hlen:=r.length;refine⟨"list",_,slot_list_getitem.lookup,ht.isList.typeIs,?_⟩;refine wpAny_getItem_list_slice ht.isList hs pl pu .none (by simp) ?_ (by rw[wN]<;>omega);rw[zno,<- hlen];refine⟨.ref s.heap.objs.size,_,I.laid (t':=s.toks) (o:=.lst (jk xs lo hi)) (λb ob q=>wn _ q) (wo _) ?_,rfl,q _ (I.aG.fresh (wo _))⟩;exact⟨vV (Rk xs lo hi) hz,_,0,(r.drop (HT.aX xs.length 0 lo)).take (HT.aX xs.length xs.length hi-HT.aX xs.length 0 lo),wM _ rfl⟩
def jt:V->Bool
 | .bj=>true
 | .bl _=>true
 | .int _=>true
 | .str _=>true
 | _=>false
def kb:V->V->Bool
 | .bj,.bj=>true
 | .bl a,.bl b=>a == b
 | .bl a,.int b=>(if a then 1 else 0) == b
 | .int a,.bl b=>a == (if b then 1 else 0)
 | .int a,.int b=>a == b
 | .str a,.str b=>a == b
 | _,_=>false
theorem zAu{A:wY}{s:wl}{y x:V}{u v:we}(ry:aW y u)(rx:aW x v)(fy:jt y=true)(fx:jt x=true):SeqAt.EqAt A s u v (kb y x):=by
 cases y with
 | bj =>
  cases ry;cases x with
  | bj=>cases rx;exact SeqAt.EqAt.same _
  | bl b=>cases rx;exact SeqAt.EqAt.none_bool b
  | int b=>obtain⟨t,rfl⟩:=rx;exact SeqAt.EqAt.none_int b t
  | str b=>obtain⟨t,rfl⟩:=rx;exact SeqAt.EqAt.none_str b t
  | _=>exact absurd (show false=true from fx) vC
 | bl a =>
  cases ry;cases x with
  | bj=>cases rx;exact SeqAt.EqAt.bool_none a
  | bl b=>cases rx;exact SeqAt.EqAt.bool_bool a b
  | int b=>obtain⟨t,rfl⟩:=rx;exact SeqAt.EqAt.bool_int a b t
  | str b=>obtain⟨t,rfl⟩:=rx;exact SeqAt.EqAt.bool_str a b t
  | _=>exact absurd (show false=true from fx) vC
 | int a =>
  obtain⟨t',rfl⟩:=ry;cases x with
  | bj=>cases rx;exact SeqAt.EqAt.int_none a t'
  | bl b=>cases rx;exact SeqAt.EqAt.int_bool a t' b
  | int b=>obtain⟨t,rfl⟩:=rx;exact SeqAt.EqAt.int_int a t' b t
  | str b=>obtain⟨t,rfl⟩:=rx;exact Xr a t' b t
  | _=>exact absurd (show false=true from fx) vC
 | str a =>
  obtain⟨t',rfl⟩:=ry;cases x with
  | bj=>cases rx;exact SeqAt.EqAt.str_none a t'
  | bl b=>cases rx;exact SeqAt.EqAt.str_bool a t' b
  | int b=>obtain⟨t,rfl⟩:=rx;exact Xs a t' b t
  | str b=>obtain⟨t,rfl⟩:=rx;exact SeqAt.EqAt.str_str a t' b t
  | _=>exact absurd (show false=true from fx) vC
 | _=>exact absurd (show false=true from fy) vC
def fv(x:V)(u:we):Bool:=match u with
 | .none=>kb .bj x
 | .bool b=>kb (.bl b) x
 | .int i _=>kb (.int i) x
 | .str z _=>kb (.str z) x
 | _=>false
theorem P0{x y:V}{u:we}(r:aW y u)(f:jt y=true):fv x u=kb y x:=by
 cases y with
 | bj=>cases r;rfl
 | bl b=>cases r;rfl
 | int i=>obtain⟨t,rfl⟩:=r;rfl
 | str z=>obtain⟨t,rfl⟩:=r;rfl
 | _=>exact absurd (show false=true from f) vC
theorem oo{x:V} : ∀{xs:List V}{us:List we},aM xs us->xs.all jt=true->us.any (fv x)=xs.any λy=>kb y x
 | _,_,.nil,_=>rfl
 | y::xs,u::us,.cons r t,f=>by
  rw[Xh,wV]at f;rw[QX,QX,P0 r f.1,oo t f.2]
theorem oO{A:wY}{s:wl}{x:V}{v:we}(rx:aW x v)(fx:jt x=true):∀{xs:List V}{us:List we},aM xs us->xs.all jt=true->∀u∈us,SeqAt.EqAt A s u v (fv x u)
 | _,_,.nil,_=>λu hu=>by cases hu
 | y::xs,u::us,.cons r t,f=>λu' hu=>by
  rw[Xh,wV]at f;rcases wK.mp hu with rfl | hu
  ·rw[P0 r f.1];exact zAu r rx f.1 fx
  ·exact oO rx fx t f.2 u' hu
def yb(x:V)(xs:List V):Bool:=xs.any λy=>kb y x
def j9(K:wb)(neg:Bool):R2:=λx y H Q=>∃p xs,y=.ref p/\(aK K H p xs\/aR K H p xs)/\jt x=true/\xs.all jt=true/\Q (.bl (if neg then !yb x xs else yb x xs)) H
theorem zvm:aN X (wU .In) (j9 X.K false):=by
 intro pins s σ H x y v u Q I rx ry h;obtain⟨p,xs,rfl,hq,fx,fs,q⟩:=h;cases ry;rcases hq with hq | hq
 ·obtain⟨its,r,pl,hz⟩:=I.list hq
  refine SeqAt.in_listAt (fv x) pl.isList (λw hw=>oO rx fx r fs w (by simpa using hw)) ⟨.bl _,H,I,rfl,?_⟩;rw[show its.toArray.any (fv x)=its.any (fv x) by simp,oo r fs];exact q
 ·obtain⟨its,r,pl,hz⟩:=I.tuple hq
  refine SeqAt.in_tupleAt (fv x) pl (λw hw=>oO rx fx r fs w (by simpa using hw)) ⟨.bl _,H,I,rfl,?_⟩;rw[show its.toArray.any (fv x)=its.any (fv x) by simp,oo r fs];exact q
theorem YC:aN X (wU .NotIn) (j9 X.K true):=by
 intro pins s σ H x y v u Q I rx ry h;obtain⟨p,xs,rfl,hq,fx,fs,q⟩:=h;cases ry;rcases hq with hq | hq
 ·obtain⟨its,r,pl,hz⟩:=I.list hq
  refine SeqAt.notIn_listAt (fv x) pl.isList (λw hw=>oO rx fx r fs w (by simpa using hw)) ⟨.bl _,H,I,rfl,?_⟩;rw[show its.toArray.any (fv x)=its.any (fv x) by simp,oo r fs];exact q
 ·obtain⟨its,r,pl,hz⟩:=I.tuple hq
  refine SeqAt.notIn_tupleAt (fv x) pl (λw hw=>oO rx fx r fs w (by simpa using hw)) ⟨.bl _,H,I,rfl,?_⟩;rw[show its.toArray.any (fv x)=its.any (fv x) by simp,oo r fs];exact q
theorem zoN:aO X (.builtin "len") (λxs H Q=>∃p ys,xs=[.ref p]/\(aK X.K H p ys\/aR X.K H p ys)/\Q (.int ys.length) H):=by
 intro pins s σ H xs us Q I r h;obtain⟨p,ys,rfl,hq,q⟩:=h;obtain⟨u,rfl,rx⟩:=gq r;cases rx;have hn:=mq;rcases hq with hq | hq
 ·obtain⟨its,r',pl,hz⟩:=I.list hq
  have hlen:=r'.length;exact Calls.call_len_list pl.isList (by simp only[wN]<;>omega) ⟨.int ys.length,H,I.tok _,⟨s.toks+1,by rw[wN,hlen]⟩,q⟩
 ·obtain⟨its,r',pl,hz⟩:=I.tuple hq
  have hlen:=r'.length;exact len_tuple pl (by simp only[wN]<;>omega) ⟨.int ys.length,H,I.tok _,⟨s.toks+1,by rw[wN,hlen]⟩,q⟩
theorem zoU:aO X (.type "list") (λxs H Q=>∃p ys,xs=[.ref p]/\(aK X.K H p ys\/aR X.K H p ys) /\ ∀l,H l=none->Q (.ref l) (upd H l (.lst ys))):=by
 intro pins s σ H xs us Q I r h;obtain⟨p,ys,rfl,hq,q⟩:=h;obtain⟨u,rfl,rx⟩:=gq r;cases rx
 have fin:∀(its:List we),aM ys its->ys.length<=wZ->∀(h':wF)(c':Nat),(∀b o',s.heap.get? b=some o'->h'.get? b=some o') ->
     h'.get? s.heap.objs.size=some {cls:=.type "list",dict:=none,data:=.seq its.toArray c',slots:=#[]}->EP X pins σ Q (.ref s.heap.objs.size) {s with heap:=h'}:=λits r' hz h' c' kp e =>
   ⟨.ref s.heap.objs.size,_,I.laid (t':=s.toks) kp (wo _) (show di X.prog X.w _ h' _ (.lst ys)from⟨hz,its,c',r',e⟩),rfl,q _ (I.aG.fresh (wo _))⟩
 rcases hq with hq | hq
 . obtain⟨its,r',pl,hz⟩:=I.list hq
   have hlen:=r'.length;obtain⟨o,ho,hc,n,hd⟩:=pl.isList;exact call_list_seq p (.inl rfl) ho hc hd (λh' c' kp e=>fin its r' hz h' c' kp e) (by simp only[wN]<;>omega)
 . obtain⟨its,r',pl,hz⟩:=I.tuple hq
   have hlen:=r'.length;obtain⟨o,ho,hc,n,hd⟩:=pl;exact call_list_seq p (.inr rfl) ho hc hd (λh' c' kp e=>fin its r' hz h' c' kp e) (by simp only[wN]<;>omega)
theorem TU:aO X (.type "tuple") (λxs H Q=>∃p ys,xs=[.ref p]/\((aK X.K H p ys /\ ∀l,H l=none->Q (.ref l) (upd H l (.tup ys)))\/(aR X.K H p ys/\Q (.ref p) H))):=by
 intro pins s σ H xs us Q I r h;obtain⟨p,ys,rfl,h⟩:=h;obtain⟨u,rfl,rx⟩:=gq r;cases rx;rcases h with⟨hq,q⟩ | ⟨hq,q⟩
 ·obtain⟨its,r',pl,hz⟩:=I.list hq
  have hlen:=r'.length;refine call_tuple_list pl.isList (λh' kp=>?_) (by simp only[wN]<;>omega);have I1:Inv X pins σ H {s with heap:=h'}:=I.kept (t':=s.toks) kp
  have I2:Inv X pins σ (upd H h'.objs.size (.tup ys)) {s with heap:=h'.push {cls:=.type "tuple",data:=.seq its.toArray}} :=
   I1.laid (t':=s.toks) (λb o e=>wn _ e) (wo _) (show di X.prog X.w _ _ _ (.tup ys)from⟨hz,its,r',Qq _ _⟩)
  exact⟨.ref h'.objs.size,_,I2,rfl,q _ (I1.aG.fresh (wo _))⟩
 ·obtain⟨its,r',pl,hz⟩:=I.tuple hq
  exact call_tuple_same pl ⟨.ref p,H,I,rfl,q⟩
def Aa(K:wb)(T:String)(x:V)(H:Hp):Prop:=match x with
 | .str _=>T="str"
 | .int _=>T="int"
 | .ref p=>(T="list" /\ ∃xs,aK K H p xs)\/(T="tuple" /\ ∃o,K.lookup p=some o/\o.cls=.type "tuple"/\o.dict=none) \/
     (T="dict"/\((∃kvs,H p=some (.dK kvs)) \/ ∃kvs,H p=some (.dT kvs)))\/(T="set" /\ ∃S n,H p=some (.set S n))
 | _=>False
theorem UD{pins:List (wf × Obj)}{σ : St}{H:Hp}{s:wl}{T:String}{x:V}{v:we}(I:Inv X pins σ H s)(r:aW x v)(ty:Aa X.K T x H) :
  s.TypeIs v T /\ ∀a,v=.ref a->∃ob,s.heap.get? a=some ob/\ob.dict=none:=by
 cases x with
 | str z =>
  obtain⟨t,rfl⟩:=r;cases (show T="str" from ty);exact⟨typeIs_str s z t,λ_ e=>nomatch e⟩
 | int i =>
  obtain⟨t,rfl⟩:=r;cases (show T="int" from ty);exact⟨typeIs_int s i t,λ_ e=>nomatch e⟩
 | ref p =>
  cases r;rcases ty with⟨rfl,xs,hq⟩ | ⟨rfl,o,hk,hc,hd⟩ | ⟨rfl,hk⟩ | ⟨rfl,S,n,hk⟩
  ·obtain⟨its,_,pl,_⟩:=I.list hq
   refine⟨pl.isList.typeIs,λa e=>?_⟩;cases e;obtain⟨o,n,e,c,hd,_⟩:=pl;exact⟨o,e,hd⟩
  ·refine⟨⟨o,I.dk p o hk,hc⟩,λa e=>?_⟩
   cases e;exact⟨o,I.dk _ o hk,hd⟩
  ·have z:∃o,s.heap.get? p=some o/\o.ExactDict:=by
    rcases hk with⟨kvs,hk⟩ | ⟨kvs,hk⟩
    ·obtain⟨_,_,_,_,o,_,_,e,ex,_⟩:=I.aG p _ hk
     exact⟨o,e,ex⟩
    ·obtain⟨_,_,_,_,o,_,_,e,ex,_⟩:=I.aG p _ hk
     exact⟨o,e,ex⟩
   obtain⟨o,e,ex⟩:=z;refine⟨⟨o,e,ex.1⟩,λa e2=>?_⟩;cases e2;exact⟨o,e,ex.2.1⟩
  ·obtain⟨o,_,_,_,e,ex,_⟩:=I.aG p _ hk
   refine⟨⟨o,e,ex.1⟩,λa e2=>?_⟩;cases e2;exact⟨o,e,ex.2.1⟩
 | _=>exact WU ty
def RP(K:wb)(T:String)(r:V->List V->Hp->VK->Prop)(to:TE)(t:TA):TE:=λσ H Q=>to σ H λx H1=>Aa K T x H1/\t σ H1 λxs H2=>r x xs H2 Q
variable{o e:Expr}{es:List Expr}{to:TE}{t:TA}{name:Str}{apos cpos:Pos}{T id:String}{r:V->List V->Hp->VK->Prop}
theorem md(pa:PlainAttrs T)(slot:Slot T name id)(hty:typeOf (.builtin id)=pure (.type "method_descriptor"))(hm:MW X id r)(ho:PE X o to)(ha:PA X (e::es) t)
  (hbase:attributeBase o name X.env (eval o X.env)=eval o X.env:=by rfl)
  (hfew:((Vh cpos (w5 (e::es) X.env)).all (λx=>!x.1)&&(backToKw cpos (keywordEach [] X.env)).all (λx=>x.1.isSome)
   && decide ((e::es).length+([]:List Keyword).length+(if([]:List Keyword).isEmpty then 0 else 1)<30))=true:=by rfl)
  (hline:(apos.endLine == cpos.line)=true:=by rfl) (hs:w5 (e::es) X.env=(false,eval e X.env)::w5 es X.env:=by rfl) (hplain:(Vh cpos (w5 es X.env)).any (·.1)=false:=by rfl) :
  PE X (.Call (.Attribute o name apos) (e::es) [] cpos) (RP X.K T r to t):=by
 intro pins s σ H Q I h;refine wpAny_Call_method_late hbase hfew hline rfl (aI (ho pins s σ H _ I h) λv s1 ⟨x,H1,I1,r1,ty,q1⟩=>?_);obtain⟨h1,h2⟩:=UD I1 r1 ty;refine⟨T,id,pa,slot,hty,h1,h2,?_⟩;have hA:=ha cpos pins s1 σ H1 _ I1 q1;rw[hs]at hA ⊢;refine Calls.callWith_builtin (by show(false || (Vh cpos (w5 es X.env)).any (·.1))=false;rw[hplain]<;>rfl) (x6 ?_);exact aI hA λus s2 ⟨vs,H2,I2,r2,q2⟩=>hm pins s2 σ H2 x vs v us Q I2 r1 r2 q2
/- xs.append(e),list.index on a module's tuple .. are MW facts of 06m -/
end
def MtM(X:Cx)(id:String)(r:V->List V->Hp->VK->Prop):Prop :=
 ∀(pins:List (wf × Obj))(s:wl)(σ : St)(H:Hp)(x:V)(xs:List V)(v:we)(us:List we)(Q:VK),Inv X pins σ H s->aW x v->aM xs us->r x xs H Q ->
  wt (model X.prog X.w) X.A (call (.builtin id) (v::us)) (EP X pins σ Q) X.xe s
theorem aM.one:∀{x:V}{us:List we},aM [x] us->∃u,us=[u]/\aW x u
 | _,_,.cons r .nil=>⟨_,rfl,r⟩
theorem aM.rep{xs:List V}{us:List we}(h:aM xs us):∀k:Nat,aM (vf k xs).flatten (vf k us).flatten
 | 0=>.nil
 | k+1=>by
  rw[V9,V9,VF,VF];exact aM.append h (aM.rep h k)
theorem Lo(its:List we):∀(k:Nat)(acc:List we),
  uA (λx1 x2=>x1++x2) acc.toArray (vf k its.toArray)=(acc++(vf k its).flatten).toArray
 | 0,acc=>by simp
 | k+1,acc=>by
  have e:acc.toArray++its.toArray=(acc++its).toArray:=by simp
  have e2:(acc++its)++(vf k its).flatten=acc++(vf (k+1) its).flatten:=by
   rw[V9,VF,VG]
  rw[<- e2,<- Lo its k (acc++its),<- e,V9,uB]
section
variable{X:Cx}{pins:List (wf × Obj)}{σ : St}{H:Hp}{s:wl}{l b:wf}{xs ys zs:List V}
theorem Inv.SG{its its':List we}{n:Nat}{f:Array we->Array we}{t':Nat}(I:Inv X pins σ H s)(hH:H l=some (.lst xs))
  (e:s.heap.get? l=some {cls:=.type "list",data:=.seq its.toArray n}) (hf:f its.toArray=its'.toArray) (hv:aM ys its') (hz:ys.length<=wZ) :
  Inv X pins σ (upd H l (.lst ys)) {s with heap:=s.heap.update l (Q8 f),toks:=t'}:=by
 have q:=PySem.IsL.update e f;rw[hf]at q;refine I.write (x:=l) (e:=l) (by rw[hH];exact trivial) (.inl rfl) (λb' u hb hu=>(Qm s.heap (Q8 f) (WA hb)).trans hu) ⟨_,q⟩ ?_;exact⟨hz,its',_,hv,q⟩
theorem Inv.AJ{its:List we}{t':Nat}(I:Inv X pins σ H s)(hv:aM ys its)(hz:ys.length<=wZ) :
  Inv X pins σ (upd H s.heap.objs.size (.lst ys)) {s with heap:=s.heap.push {cls:=.type "list",data:=.seq its.toArray},toks:=t'} :=
 I.laid (λ_ _ q=>wn _ q) (wo _) ⟨hz,its,0,hv,wM _ rfl⟩
theorem Inv.fresh(I:Inv X pins σ H s):H s.heap.objs.size=none:=I.aG.fresh (wo _)
theorem Inv.rq(I:Inv X pins σ H s)(hH:H l=some (.lst xs)):xs.length<=wZ /\ ∃(its:List we)(n:Nat),aM xs its/\xs.length=its.length/\s.heap.get? l=some {cls:=.type "list",data:=.seq its.toArray n}:=by
 obtain⟨z,its,n,r,e⟩:=I.aG l _ hH;exact⟨z,its,n,r,r.length,e⟩
theorem Zx{n:Nat}(h:n<=wZ):qS n=false:=by
 unfold qS;exact decide_eq_false (by omega)
end
section
variable{X:Cx}
def MV:V->List V->Hp->VK->Prop:=λx vs H Q=>∃l xs y,x=.ref l/\vs=[y]/\H l=some (.lst xs)/\xs.length<wZ/\Q .bj (upd H l (.lst (xs++[y])))
theorem kE:MtM X "list.append" MV:=by
 intro pins s σ H x vs v us Q I rx rv h;obtain⟨l,xs,y,rfl,rfl,hH,hz,q⟩:=h;cases rx;obtain⟨u,rfl,ru⟩:=rv.one;obtain⟨z,its,n,r,hl,e⟩:=I.rq hH;refine call_meets F.slot_list_append ⟨_,e,rfl⟩ F.entry_list_append (F.args_list_append_2 _ _) (PySem.list_append l its.toArray n u (by rw[wN];omega)) ⟨e,?_⟩;refine⟨.bj,_,I.SG (its':=its++[u]) hH e (by simp) (r.append (.cons ru .nil)) ?_,rfl,q⟩;rw[wT,Wh];omega
def C_:R2:=λx y H Q=>∃l b xs zs,x=.ref l/\y=.ref b/\H l=some (.lst xs)/\H b=some (.lst zs)/\xs.length+zs.length<=wZ /\ ∀p,H p=none->Q (.ref p) (upd H p (.lst (xs++zs)))
theorem ZE:aN X (WD .Add) C_:=by
 intro pins s σ H x y v u Q I rx ry h;obtain⟨l,b,xs,zs,rfl,rfl,hH,hB,hz,q⟩:=h;cases rx;cases ry;obtain⟨z,its,n,r,hl,e⟩:=I.rq hH;obtain⟨z2,its2,n2,r2,hl2,e2⟩:=I.rq hB;refine PySem.P.add_list e e2 ?_ (by rw[wN,wN];omega);have ea:its.toArray++its2.toArray=(its++its2).toArray:=by simp
 rw[ea];exact⟨.ref _,_,I.AJ (t':=s.toks) (r.append r2) (by rw[wT];omega),rfl,q _ I.fresh⟩
def nX:R2:=λx y H Q=>∃l k xs,x=.ref l/\y=.int k/\H l=some (.lst xs) /\ -(2^63)<=k/\k<2^63/\xs.length*k.toNat<=wZ /\
 ∀p,H p=none->Q (.ref p) (upd H p (.lst (vf k.toNat xs).flatten))
theorem zyp{α : Type}(xs:List α)(k:Nat):(vf k xs).flatten.length=k*xs.length:=by
 induction k with
 | zero=>simp
 | succ k ih=>rw[V9,VF,wT,ih,qT,Nat.add_comm]
theorem Lb:aN X (WD .Mult) nX:=by
 intro pins s σ H x y v u Q I rx ry h;obtain⟨l,k,xs,rfl,rfl,hH,h1,h2,hz,q⟩:=h;cases rx;obtain⟨t,rfl⟩:=ry;obtain⟨z,its,n,r,hl,e⟩:=I.rq hH;have hlen:its.toArray.size*k.toNat<=wZ:=by rw[wN,<- hl];exact hz
 have hcap:¬ its.toArray.size*k.toNat > (2^63-1) / 8:=by
  have:(wZ:Nat)<=(2^63-1) / 8:=by decide
  omega
 have hfit:¬ (!Builtin.List.listFitsIndex k)=true:=by
  rw[fitsIndex_both h1 h2];exact vC
 have hlong:¬ qS (its.toArray.size*k.toNat)=true:=by
  rw[Zx hlen];exact vC
 have hnew:uA (λx1 x2=>x1++x2) #[] (vf (if its.toArray.isEmpty=true then 0 else k.toNat) its.toArray)=(vf k.toNat its).flatten.toArray:=by
  have f0:∀m:Nat,uA (λx1 x2=>x1++x2) #[] (vf m its.toArray)=(vf m its).flatten.toArray:=λm=>by
   have:=Lo its m [];rw[Qs]at this;exact this
  rw[f0];cases its with
  | nil=>simp
  | cons a r'=>rw[if_neg (by simp)]
 refine wpAny_binaryOp_repeat_ref (T:="list") (U:="int") (by decide) ⟨_,e,rfl⟩ (λs'=>typeIs_int s' k t) noFill_list_mul F.fills_int_mul uC repeat_list F.slot_int_index.lookup
  (call_meets uC (typeIs_int s k t) F.entry_int_rmul (F.args_int_rmul_2 _ _) (int___rmul___int_list k t l its.toArray n)
   ⟨e,rfl,⟨_,e,rfl⟩,call_meets F.slot_list_mul ⟨_,e,rfl⟩ F.entry_list_mul (F.args_list_mul_2 _ _) (AutoListH.list___mul___list_int_3 l its.toArray n k t hfit hcap hlong) ⟨e,?_⟩⟩)
 rw[hnew];exact⟨.ref _,_,I.AJ (t':=s.toks) (r.rep k.toNat) (by rw[zyp,qt];exact hz),rfl,q _ I.fresh⟩
end
section
variable{prog:wH}{w:wI}{A:wY}{E:we->wl->Prop}{s:wl}
end
section
variable{X:Cx}
end
end L2
namespace Att
open PySem PySem.W PySem.Calls PyProof.Rows
theorem zli{P:Params}{h:wF} : ∀(ns:List Int)(vs:List we),WellAll P h vs (ns.map WData.int)->IntsAre vs ns:=by
 intro ns
 induction ns with
 | nil =>
  intro vs w;rw[xh]at w;cases w;exact .nil
 | cons n ns ih =>
  intro vs w;rw[w9]at w;cases w with
  | cons a b =>
   cases a;exact .cons _ _ (ih _ b)
theorem UT{l:OpenLaw}{n:Nat}(hn:l.most=some n){P:Params}{h:wF}{args:List WData}{vals:List we}
  (hpre:l.row.toRowW.claim.pre args=true) (hwl:WellAll P h vals args) :
  ∃a vs ns,vals=[Value.ref a]/\args=[WData.list (ns.map WData.int)]/\h.get? a=some {cls:=.type "list",data:=.seq vs.toArray}/\IntsAre vs ns/\ns.length<=n:=by
 have hsh:WShape.hasAll [] args [.list .int]=true:=(pre_splitW hpre).1;have hc:l.pre.holds [] {args:=args}=true:=(pre_splitW hpre).2;obtain⟨d,r,rfl,h1,h2⟩:=hasAllW_cons hsh;obtain rfl:=hasAllW_nil h2;obtain⟨xs,rfl,h3⟩:=hasW_list h1;obtain⟨ns,rfl⟩:=items_int h3
 have hlen:ns.length<=n:=by
  unfold OpenLaw.pre at hc
  have h4:(WTm.not (.lt (.lit (.int (n:Int))) (.len (.arg 0)))).holds [] {args:=[.list (ns.map .int)]}=true:=by
   have h4:=(holds_andW hc).1;rw[hn]at h4;exact h4
  have h5:=condW_of h4 (w_not (w_lt w_lit (w_len_list (w_arg rfl))));rw[wm]at h5;refine Nat.le_of_not_lt λq=>?_
  have q':(n:Int)<((ns.length:Nat):Int):=by omega
  first
   | (rw[decide_eq_true q']at h5;exact absurd h5 (by decide))
   | (simp at h5;omega)
 cases hwl with
 | cons w1 w2 =>
  cases w2;cases w1 with
  | list ho hall=>exact⟨_,_,ns,rfl,rfl,ho,zli ns _ hall,hlen⟩
theorem ZC(l:OpenLaw)(args:List WData):l.row.toRowW.claim.post args (.bool true) args=true :=
 postW_of (r:=l.row.toRowW) (X:=(true == true))
  (show WShape.has [] (.bool true) .bool=true by first | rfl | decide | simp[WShape.has,WShape.arms,WShape.armsAll])
  (show(WTm.eq .res (.lit (.bool true))).value [] {args:=args,res:=some (.bool true),after:=args}=some (.bool (true == true))from w_eq_bool (w_res rfl) w_lit) rfl
theorem R8{l:OpenLaw}{n:Nat}{q:wH}{loose:List Str}{XP:(Str->Option we)->wF->Prop}{YP:wI->wF->Prop}{d:DefRec}
  (hn:l.most=some n) (hdf:d.params.defaults=[])
  (call:∀(w:wI)(s₀ s₁ : wl)(mg mb:Str->Option we)(fa:wf)(o:Obj)(pm cd doc:we)(a:wf)(vs:List we)(ns:List Int),
   Ground q loose [] XP w s₀ mg mb s₁.heap->YP w s₁.heap ->
   s₁.heap.get? fa=some o->o.data=.func (docDef d.name d.params d.body d.scope pm cd doc)->s₁.heap.CodeRec cd d.name->mg d.name=some (.ref fa) ->
   s₁.heap.get? a=some {cls:=.type "list",data:=.seq vs.toArray}->IntsAre vs ns->ns.length<=n->s₁.gens = #[] ->
   codeAny (model l.prog w) callerA (.call (.ref fa) ⟨[.ref a],[]⟩) (λr s'=>r=.ok (.ret (.bool true))/\OldK s₁.heap s'.heap/\s'.os=s₁.os/\AllBare s'.gens) s₁) :
  WalkO q loose XP YP l.row.toRowW d [] (λf vs=>uD f vs):=by
 intro w s₀ s₁ mg mb G Y fa o pm cd doc dV kV ho hd hcd hD hmg hg args vals as hpre hlay hrd hwl hlo;obtain rfl:dV=.none:=Dflts.none hD hdf;obtain rfl:kV=.none:=Dflts.noKw hD;obtain⟨a,vs,ns,rfl,rfl,hobj,hints,hlen⟩:=UT hn hpre hwl;refine enter_call (codeAny_mono (call w s₀ s₁ mg mb fa o pm cd doc a vs ns G Y ho (fd_plain hd) hcd hmg hobj hints hlen hg) λr s' hq=>?_);obtain⟨rfl,h2,h3,h4⟩:=hq;exact⟨.inl ⟨.bool true,.bool true,[],rfl,λ_=>rfl,.bool true,ZC l _,λ_=>⟨QY.nil,λ_ hm=>(nomatch hm)⟩⟩,h2,h3,h4⟩
section
variable{prog:wH}{w:wI}{A:wY}{E:we->wl->Prop}{s:wl}{K:Frag}
def zCW(h:wF)(L d:wf):List (wf × Obj):=(wq h.objs.size).filterMap λa=>if a=L\/a=d then none else(h.get? a).map λo=>(a,o)
end
end Att
namespace L2
open PySem PySem.Spec PyProof.Rows
theorem M3:∀{vs:List we}{ns:List Int},IntsAre vs ns->aM (ns.map V.int) vs
 | _,_,.nil=>.nil
 | _,_,.cons n t h=>.cons ⟨t,rfl⟩ (M3 h)
def z7(H:Hp):Prop:=∀b,H b=none \/ ∃o xs,H b=some (.fb o (.lst xs))
theorem zw3{P:wH}{w:wI}{K:wb}{mg mb:Str->Option we}{CX:fG}{k:Nat}{fa a:wf}{fd:wE}{x:Str}{sp:Sp}{s₁ : wl}{vs:List we}{ns:List Int}
   (KX:K.In s₁.heap) (hns:s₁.heap.Ns wR mg) (hb:s₁.heap.Ns builtinsNs mb) (hbb:∀x:Str,x≠"__name__" -> mb x=vM x) (hlim:s₁.heap.NoLimit) (hg:s₁.gens = #[])
   (ha:s₁.heap.get? a=some {cls:=.type "list",data:=.seq vs.toArray}) (hi:IntsAre vs ns) (hl:ns.length<=wZ) (hr:dN k callerA)
   (F:∀base:wF,K.In base->base.Ns wR mg->aJ P w K mg base CX k fa fd [x] sp) (hbind:∀(s:wl)(u:we),BindsTo s fd ⟨[u],[]⟩ [(x,u)])
   (hsp:∀H:Hp,z7 H->aK K H a (ns.map V.int)->sp [.ref a] H (λv _=>v=.bl true) λ_ _ _=>False)
   (hCX:∀H e s',CX [] H s₁ (λ_ _ _=>False) e s'->False) :
   codeAny (model P w) callerA (.call (.ref fa) ⟨[.ref a],[]⟩) (λr s'=>r=.ok (.ret (.bool true))/\OldK s₁.heap s'.heap/\s'.os=s₁.os/\AllBare s'.gens) s₁:=by
 have rv:=M3 hi;have lenV:=hi.length
 -- from an abstract heap in which nothing but the script may be tracked
 have core:∀H:Hp,z7 H->aK K H a (ns.map V.int)->cU P w H s₁.heap->(∀b,H b≠none->b=a)->(H a≠none->K.lookup a=none) ->
     codeAny (model P w) callerA (.call (.ref fa) ⟨[.ref a],[]⟩) (λr s'=>r=.ok (.ret (.bool true))/\OldK s₁.heap s'.heap/\s'.os=s₁.os/\AllBare s'.gens) s₁:=by
   intro H hO hS aG hA hK;have base_of:∀{b:wf}{o:Obj},s₁.heap.get? b=some o->H b=none->(jE s₁.heap H).get? b=some o:=λe n=>U8 e n
   have noA:∀{b:wf}{o:Obj}{es:Array DictEntry}{ep:Nat},s₁.heap.get? b=some o->o.data=.dict es ep->H b=none:=λ{b o es ep} e d=>by
     cases q:H b with
     | none=>rfl
     | some u =>
       have e':b=a:=hA b (by rw[q];simp);subst e';rw[ha]at e;cases e;have d':Data.seq vs.toArray _=Data.dict es ep:=d;cases d'
   have nsK:∀{b:wf}{m:Str->Option we},s₁.heap.Ns b m->(jE s₁.heap H).Ns b m:=λ{b m} ⟨o,es,ep,e,d,r⟩=>⟨o,es,ep,base_of e (noA e d),d,r⟩
   have hKb:K.In (jE s₁.heap H):=λb o e=>base_of (KX b o e) (by
     cases q:H b with
     | none=>rfl
     | some u =>
       have e':b=a:=hA b (by rw[q];simp);subst e';rw[hK (by rw[q];simp)]at e;cases e)
   have hM:Mod K mg (jE s₁.heap H):=⟨hKb,nsK hns,⟨mb,nsK hb,hbb⟩,let ⟨mc,h1,h2⟩:=hlim;⟨mc,nsK h1,h2⟩⟩;have e0:pV P w K mg (jE s₁.heap H) callerA [] s₁ H:=⟨rfl,hM,λb o e=>Z7 e,Nat.le_of_eq (zvf _ _),trivial,λb hb=>absurd (show b∈([]:List wf)from hb) (by simp),aG,.of_eq hg⟩;refine codeAny_mono ((F _ hKb (nsK hns)).run callerA [] s₁ H ⟨[.ref a],[]⟩ [.ref a] [.ref a] _ _ hr e0 (hbind s₁ (.ref a)) (.cons rfl .nil) (hsp H hO hS)) λr s' h=>?_
   cases r with
   | error e=>exact(hCX H e s' h).elim
   | ok fl =>
     cases fl with
     | next=>exact WU h
     | brk=>exact WU h
     | cont=>exact WU h
     | ret u =>
       obtain⟨v,H',os,bare,un,hok',r',q⟩:=h;have q':v=.bl true:=q;subst q';obtain rfl:u=Value.bool true:=r';refine⟨rfl,OldK.of_keep λb o e=>?_,os,bare⟩;cases q:H b with
       | none=>exact un.keep b o e q (by intro z;exact absurd (show b∈([]:List wf)from z) (by simp)) (by simp)
       | some u =>
         rcases hO b with z | ⟨ob,xs,z⟩
         . rw[q]at z;cases z
         . have z2:=un.gA b ob _ z
           obtain⟨e1,_⟩:=aG b _ z;obtain⟨e2,_⟩:=hok' b _ z2;rw[e]at e1;cases e1;exact e2
 cases hk:K.lookup a with
 | some o =>
   -- the script is one of the module's own objects
   have e:=KX a o hk;rw[ha]at e;cases e;refine core (λ_=>none) (λ_=>.inl rfl) (.inr ⟨_,vs.toArray,_,hk,rfl,rfl,rfl,by rw[wN,lenV];exact hl,by simpa using rv⟩) (λb u z=>by have z':(none:Option HO)=some u:=z;cases z') (λb z=>absurd rfl z) λz=>absurd rfl z
 | none =>
   refine core (λb=>if b=a then some (.fb {cls:=.type "list",data:=.seq vs.toArray} (.lst (ns.map V.int)))else none) (λb=>?_) (.inl (.inr ⟨{cls:=.type "list",data:=.seq vs.toArray},if_pos rfl⟩)) (λb u z=>?_) (λb z=>?_) λ_=>hk
   . by_cases hb:b=a
     . exact .inr ⟨_,_,if_pos hb⟩
     . exact .inl (if_neg hb)
   . by_cases hb:b=a
     . have z':=(if_pos hb).symm.trans z
       cases z';subst hb;exact⟨ha,by rw[wm];exact hl,vs,_,rv,ha⟩
     . have z':=(if_neg hb).symm.trans z
       cases z'
   . by_cases hb:b=a
     . exact hb
     . exact absurd (if_neg hb) z
abbrev KOf{K:wb}{h:wF}(_:K.In h):wb:=K
theorem Sj{l:xv}{n k:Nat}{q:wH}{loose:List Str}{XP:(Str->Option we)->wF->Prop}{YP:wI->wF->Prop}{d:DefRec}{K:Params->wb}{CX:wI->fG}{sp:wI->Sp}{x:Str}
  (hn:l.most=some n) (hn2:n<=wZ) (hdf:d.params.defaults=[]) (hr:dN k callerA)
  (hY:∀(w:wI)(h:wF),YP w h->(K w.params).In h)
  (F:∀(w:wI)(mg:Str->Option we)(fa:wf)(h:wF),(K w.params).In h->h.Ns wR mg->mg d.name=some (.ref fa) ->
   ∃fd:wE,(∀(s:wl)(u:we),BindsTo s fd ⟨[u],[]⟩ [(x,u)]) /\
    ∀base:wF,(K w.params).In base->base.Ns wR mg->aJ l.prog w (K w.params) mg base (CX w) k fa fd [x] (sp w))
  (hsp:∀(w:wI)(H:Hp)(a:wf)(ns:List Int),ns.length<=n->z7 H->aK (K w.params) H a (ns.map V.int)->sp w [.ref a] H (λv _=>v=.bl true) λ_ _ _=>False)
  (hCX:∀(w:wI)(H:Hp)(s:wl)(e:we)(s':wl),CX w [] H s (λ_ _ _=>False) e s'->False) :
  u9 q loose XP YP l.row.toRowW d [] (λf vs=>uD f vs):=by
 refine Att.R8 hn hdf λw s₀ s₁ mg mb fa o pm cd doc a vs ns G Y ho hd hcd hmg hobj hints hlen hg=>?_
 have KX:=hY w _ Y;obtain⟨fd,hb,hF⟩:=F w mg fa _ KX G.T.g hmg;exact zw3 KX G.T.g G.T.b G.T.builtins G.T.nolimit hg hobj hints (vV hlen hn2) hr hF hb (λH hO hS=>hsp w H a ns hlen hO hS) λH e s'=>hCX w H s₁ e s'
def nu(s:vd):Arguments:=match s with
 | .FunctionDef _ a _ _ _ _ _ _ _ _=>a
 | _=>{posonlyargs:=[],args:=[],vararg:=none,kwonlyargs:=[],kw_defaults:=[],kwarg:=none,defaults:=[]}
def ke(s:vd):List vd:=match s with
 | .FunctionDef _ _ b _ _ _ _ _ _ _=>b
 | _=>[]
def aC(s:vd):Scope:=match s with
 | .FunctionDef _ _ _ _ _ _ sc _ _ _=>sc
 | _=>{kind:=.function,names:=[],isGenerator:=false,isCoroutine:=false}
abbrev aS:fG:=λ_ _ _ _ _ _=>False
abbrev E0:XK:=λ_ _ _=>False
theorem SN{X:Cx} : nA aS X E0:=λ_ _ _ _ _ _ _ h=>h.elim
structure km(K:wb)(x qual:Str)(st:vd)(f:wf)(fd:wE):Prop where
 ex:∃(oc:we)(od:Option wf)(kV doc pm:we)(an:Option wf)(cdv ct:we)(osl:Array (Option we)),
   fd=VZ x qual (nu st) (ke st) (aC st) .none kV doc pm an cdv ct/\K.lookup f=some ⟨oc,od,.func fd,osl⟩/\QD K cdv qual=true
 kp:VX K (.ref f)=true
section
variable{P:wH}{w:wI}{K:wb}{mg:Str->Option we}{base:wF}
theorem km.ok{x qual:Str}{st:vd}{f:wf}{fd:wE}{N ps:List Str}{k:Nat}{sp:Sp}(F:km K x qual st f fd)(S:aT N ps (aC st))(len:∀vs H Q E,sp vs H Q E->vs.length=ps.length)
  (hbody:∀(cdv:we)(A:wY)(outer:List Env)(s:wl)(H:Hp)(vs:List V)(Q:VK)(E:XK),dN k (A.deeper (envOfC qual (aC st) s.heap.objs.size f cdv))->sp vs H Q E ->
   ∃t,eX (ie aS P w K mg base N qual (aC st) f cdv A outer s H E).yf (ke st) t/\t {nx:=λ_ H'=>Q .bj H',rt:=Q} (start N vs) H):aJ P w K mg base aS (k+1) f fd ps sp:=by
 obtain⟨oc,od,kV,doc,pm,an,cdv,ct,osl,rfl,lk,hcd⟩:=F.ex;refine NN lk hcd S len λA outer s H vs Q E hr hsp=>?_
 obtain⟨t,h,q⟩:=hbody cdv A outer s H vs Q E hr hsp;exact⟨t,h.yf,q⟩
theorem km.binds{x qual:Str}{st:vd}{f:wf}{fd:wE}{ps:List Str}(F:km K x qual st f fd)
  (h:∀(kV doc pm:we)(an:Option wf)(cdv ct:we)(us:List we),us.length=ps.length->bindArgs (VZ x qual (nu st) (ke st) (aC st) .none kV doc pm an cdv ct) ⟨us,[]⟩=pure (ps.zip us)):kY K fd ps []:=by
 obtain⟨oc,od,kV,doc,pm,an,cdv,ct,osl,rfl,lk,hcd⟩:=F.ex;exact .all (h kV doc pm an cdv ct)
theorem KO{x qual:Str}{st:vd}{f:wf}{oc:we}{od an:Option wf}{osl:Array (Option we)}{kV doc pm cdv ct:we}(l:K.lookup f=some ⟨oc,od,.func (VZ x qual (nu st) (ke st) (aC st) .none kV doc pm an cdv ct),osl⟩)
  (c:QD K cdv qual=true) (k:VX K (.ref f)=true):km K x qual st f (VZ x qual (nu st) (ke st) (aC st) .none kV doc pm an cdv ct):=⟨⟨oc,od,kV,doc,pm,an,cdv,ct,osl,rfl,l,c⟩,k⟩
end
theorem iO{n:Nat}(h:n<=1000):n<wZ:=W2 h (by decide)
section
variable{X:Cx}
theorem pv(i:Nat){x:Str}{pos:Pos}(hN:X.N[i]? = some x:=by rfl)(hv:zC X.env.scope x:=by first | exact Or.inl rfl | exact Or.inr (Or.inl rfl) | exact Or.inr (Or.inr rfl))(hd:(x == ("__debug__" : Str))=false:=by decide)
  (hcd:(x == ("__classdict__" : Str))=false:=by decide):PE X (.Name x pos) (sU i):=Tp hN hv hd hcd
end
theorem mX{A B:Prop}(h:B):if false=true then A else B:=by
 rw[if_neg vC];exact h
theorem mB{A B:Prop}(h:A):if true=true then A else B:=by
 rw[if_pos rfl];exact h
def ah(H H':Hp):Prop:=∀b o,H b=some o->H' b=some o
theorem ah.refl(H:Hp):ah H H:=λ_ _ h=>h
theorem ah.trans{H H1 H2:Hp}(a:ah H H1)(b:ah H1 H2):ah H H2:=λc o h=>b c o (a c o h)
theorem ah.seq{K:wb}{H H':Hp}{a:wf}{xs:List V}(e:ah H H')(h:aK K H a xs):aK K H' a xs:=by
 rcases h with(h | ⟨o,h⟩) | h
 ·exact .inl (.inl (e _ _ h))
 ·exact .inl (.inr ⟨o,e _ _ h⟩)
 ·exact .inr h
end L2
namespace GM
def dv(t b:Int):Int:=if b<0 then -((vB t b:Nat):Int)else((vB t b:Nat):Int)
theorem En{t b:Int}(hb:b≠0):0<vB t b:=qu t hb
theorem OU{t b:Int}(hb:b≠0):dv t b≠0:=by
 have:=En (t:=t) hb;unfold dv
 split<;>omega
theorem ff{a d:Int}(h:d ∣ a)(hd:d≠0):a.fdiv d=a / d:=by
 obtain⟨k,rfl⟩:=h;rw[Int.mul_fdiv_cancel_left _ hd,V1 _ hd]
theorem Mh{t b:Int}(hb:b≠0):t.fdiv (dv t b)=(wz t b).num:=by
 have hg:=En (t:=t) hb;have h1:((vB t b:Nat):Int) ∣ t:=qA ..;rw[Rat.num_divInt,Xy b t];unfold dv
 by_cases h:b<0
 ·rw[if_pos h,QZ h,ff (X3.mpr h1) (by omega),Int.ediv_neg]
  obtain⟨k,hk⟩:=h1;have:(-1:Int)*t=((vB t b:Nat):Int)*(-k):=by rw[uE,X4,<- hk]
  rw[this,V1 _ (by omega)];have e:t / ((vB t b:Nat):Int)=k:=QQ (by omega) hk;rw[e]
 ·rw[if_neg h,xE (by omega),xF,ff h1 (by omega)]
theorem zBN{t b:Int}(hb:b≠0):b.fdiv (dv t b)=((wz t b).den:Int):=by
 have hg:=En (t:=t) hb;have h1:((vB t b:Nat):Int) ∣ b:=Qi ..;rw[uW,if_neg hb,Xy b t];unfold dv
 by_cases h:b<0
 ·rw[if_pos h,ff (X3.mpr h1) (by omega),Int.ediv_neg,V2]
  obtain⟨k,hk⟩:=h1;have:(b.natAbs:Int)=((vB t b:Nat):Int)*(-k):=by rw[X4,<- hk];omega
  rw[this,V1 _ (by omega)];have e:b / ((vB t b:Nat):Int)=k:=QQ (by omega) hk;rw[e]
 ·rw[if_neg h,ff h1 (by omega),V2]
  have:(b.natAbs:Int)=b:=by omega
  rw[this]
def gg(p q:Int):Bool:=decide (1<=q)&&decide (vB p q=1)
theorem PJ(r:Rat):gg r.num r.den=true:=by
 have h:=r.reduced;have hd:=r.den_pos;simp only[gg,wV,decide_eq_true_eq];refine⟨by omega,?_⟩;have:Nat.gcd r.num.natAbs r.den=1:=h
 simpa [vB] using this
theorem zo7{p q:Int}(h:gg p q=true):∃r:Rat,p=r.num/\q=(r.den:Int):=by
 simp only[gg,wV,decide_eq_true_eq]at h;obtain⟨h1,h2⟩:=h;refine⟨⟨p,q.toNat,by omega,?_⟩,rfl,by show q=((q.toNat:Nat):Int);omega⟩;have e:q.toNat=q.natAbs:=by omega
 rw[e];exact h2
theorem Nk{a b:Int}(hb:0<b)(ha:0<=a):vB b (a % b)=vB a b:=by
 rw[Xy a b];have e:a=a % b+b*(a / b):=(Int.emod_add_mul_ediv a b).symm
 conv=>rhs;rw[e]
 rw[Int.gcd_add_mul_left_right]
structure Bd(n:Nat)(x:Int):Prop where
 lt:x.natAbs<2^n
theorem Bd.mono{m n:Nat}{x:Int}(h:Bd m x)(e:m<=n):Bd n x:=⟨wS h.lt (Xa (by decide) e)⟩
theorem Bd.mul{m n:Nat}{x y:Int}(h:Bd m x)(k:Bd n y):Bd (m+n) (x*y):=by
 refine⟨?_⟩;rw[xQ,QM];exact Nat.mul_lt_mul'' h.lt k.lt
theorem Bd.add{m n:Nat}{x y:Int}(h:Bd m x)(k:Bd n y):Bd (max m n+1) (x+y):=by
 have h1:=(h.mono (uF m n)).lt;have h2:=(k.mono (ud m n)).lt;refine⟨?_⟩;rw[WP];omega
theorem Bd.sub{m n:Nat}{x y:Int}(h:Bd m x)(k:Bd n y):Bd (max m n+1) (x-y):=by
 have h1:=(h.mono (uF m n)).lt;have h2:=(k.mono (ud m n)).lt;refine⟨?_⟩;rw[WP];omega
theorem Bd.neg{n:Nat}{x:Int}(h:Bd n x):Bd n (-x):=⟨by rw[Int.natAbs_neg];exact h.lt⟩
theorem Bd.le{n:Nat}{x y:Int}(h:Bd n x)(e:y.natAbs<=x.natAbs):Bd n y:=⟨W2 e h.lt⟩
theorem Bd.log{n:Nat}{x:Int}(h:Bd n x)(hn:0<n):x.natAbs.log2<n:=by
 by_cases e:x.natAbs=0
 ·rw[e];exact hn
 ·exact(Nat.log2_lt e).mpr h.lt
theorem zAq(t b:Int)(hb:b≠0):(wz t b).num.natAbs<=t.natAbs:=by
 rw[<- Mh hb]
 have h1:dv t b ∣ t:=by
  have:((vB t b:Nat):Int) ∣ t:=qA ..;unfold dv;split
  ·exact X3.mpr this
  ·exact this
 rw[ff h1 (OU hb)];exact Q9 t _
theorem EJ(t b:Int)(hb:b≠0):(wz t b).den<=b.natAbs:=by
 rw[uW,if_neg hb];exact Nat.div_le_self _ _
structure ag(n:Nat)(x:Rat):Prop where
 t:Bd n x.num
 b:Bd n (x.den:Int)
theorem ag.mono{m n:Nat}{x:Rat}(h:ag m x)(e:m<=n):ag n x:=⟨h.t.mono e,h.b.mono e⟩
theorem ag.divInt{n:Nat}{t b:Int}(hb:b≠0)(h1:Bd n t)(h2:Bd n b):ag n (wz t b) :=
 ⟨h1.le (zAq t b hb),h2.le (by have:=EJ t b hb;simpa using this)⟩
theorem Bd.jQ{m:Int}(h1 : -100000000000000000000000000000000000000<=m)(h2:m<=100000000000000000000000000000000000000):Bd 128 m:=⟨by
 have e:(2:Nat)^128=340282366920938463463374607431768211456:=by decide
 rw[e];omega⟩
theorem gu(x:Rat):(x.den:Int)≠0:=by have:=x.den_pos;omega
theorem den_pos(x:Rat):(0:Int)<(x.den:Int):=by have:=x.den_pos;omega
theorem DO(x y:Rat):(x.den:Int)*(y.den:Int)≠0:=xw (gu x) (gu y)
theorem zBI(x y:Rat):wz (x.num*(y.den:Int)+y.num*(x.den:Int)) ((x.den:Int)*(y.den:Int))=x+y:=by
 rw[<- Vx,xi,Rat.add_def']
theorem Nm(x y:Rat):wz (x.num*(y.den:Int)-y.num*(x.den:Int)) ((x.den:Int)*(y.den:Int))=x-y:=by
 rw[<- Vx,xi,Rat.sub_def']
theorem PU(x y:Rat):wz (x.num*y.num) ((x.den:Int)*(y.den:Int))=x*y:=by
 rw[<- Vx,xi,Rat.mul_def']
theorem JS(x y:Rat):wz (x.num*(y.den:Int)) ((x.den:Int)*y.num)=x / y:=by
 rw[xG,Rat.inv_def,<- xR,Vr]
theorem U4(x y:Rat):decide (x.num*(y.den:Int)<y.num*(x.den:Int))=decide (x<y):=by
 rw[vI,decide_eq_true_eq,decide_eq_true_eq,Rat.lt_iff]
theorem rG{y:Rat}(h:y≠0):y.num≠0:=λe=>h (Rat.num_eq_zero.mp e)
theorem ag.add{m n:Nat}{x y:Rat}(h:ag m x)(k:ag n y):ag (m+n+1) (x+y):=by
 rw[<- zBI];refine ag.divInt (DO x y) ?_ ((h.b.mul k.b).mono (by omega));exact((h.t.mul k.b).add (k.t.mul h.b)).mono (by omega)
theorem ag.sub{m n:Nat}{x y:Rat}(h:ag m x)(k:ag n y):ag (m+n+1) (x-y):=by
 rw[<- Nm];refine ag.divInt (DO x y) ?_ ((h.b.mul k.b).mono (by omega));exact((h.t.mul k.b).sub (k.t.mul h.b)).mono (by omega)
theorem ag.mul{m n:Nat}{x y:Rat}(h:ag m x)(k:ag n y):ag (m+n) (x*y):=by
 rw[<- PU];exact ag.divInt (DO x y) (h.t.mul k.t) (h.b.mul k.b)
theorem ag.zero:ag 1 0:=⟨⟨by decide⟩,⟨by decide⟩⟩
theorem ag.one:ag 1 1:=⟨⟨by decide⟩,⟨by decide⟩⟩
def aB(a b:Rat):Nat->Rat
 | 0=>0
 | n+1=>a*aB a b n+b
def push(a b:Rat):Nat->Rat->Rat
 | 0,x=>x
 | n+1,x=>a*push a b n x+b
theorem gB(a b:Rat)(n:Nat)(x:Rat):push a b n x=a^n*x+aB a b n:=by
 induction n with
 | zero=>simp[push,aB,Rat.add_zero,qw]
 | succ n ih=>rw[push,ih,aB,WQ];grind
theorem zxJ(a b:Rat)(m n:Nat)(x:Rat):push a b (m+n) x=push a b n (push a b m x):=by
 induction n with
 | zero=>rfl
 | succ n ih=>rw[<- VB,push,push,ih]
theorem ag.pow{k:Nat}{a:Rat}(h:ag k a)(n:Nat):ag (k*n+1) (a^n):=by
 induction n with
 | zero=>rw[qw];exact ag.one.mono (by omega)
 | succ n ih=>rw[WQ];exact(ih.mul h).mono (by rw[qU];omega)
theorem ag.aB{k:Nat}{a b:Rat}(h:ag k a)(hb:ag k b)(n:Nat):ag ((2*k+1)*n+1) (aB a b n):=by
 induction n with
 | zero=>exact ag.zero.mono (by omega)
 | succ n ih=>exact((h.mul ih).add hb).mono (by rw[qU];omega)
theorem cD(t:Int){u:Int}(hu:u≠0):(wz t u)*(u:Rat)=(t:Rat):=by
 rw[Rat.divInt_eq_div];exact W3 λz=>hu (Vf.mp z)
theorem jK(x:Rat):x*((x.den:Int):Rat)=(x.num:Rat):=by
 have:=cD x.num (gu x)
 rwa[Vr]at this
theorem fJ{t u:Int}{x:Rat}(hu:u≠0)(h:x*(u:Rat)=(t:Rat)):wz t u=x:=by
 have h1:=cD t hu;have h2:(wz t u-x)*(u:Rat)=0:=by grind
 have h3:(u:Rat)≠0:=by
  intro z;exact hu (Vf.mp z)
 have:=uG.mp h2
 grind
theorem zuA(a b:Rat)(t u:Int)(hu:u≠0):wz (a.num*b.den*t+b.num*a.den*u) (u*a.den*b.den)=a*wz t u+b:=by
 refine fJ (xw (xw hu (gu a)) (gu b)) ?_;have h1:=cD t hu;have h2:=jK a;have h3:=jK b;simp only[vO,qK]
 grind
theorem Pu(a b:Rat)(n:Nat)(x y:Rat):push a b n y-push a b n x=a^n*(y-x):=by
 rw[gB,gB];grind
theorem oE{a:Rat}(h:0<a)(n:Nat):0<a^n:=Rat.pow_pos h
theorem Y8{a:Rat}(h:1<a)(n:Nat):1<a^(n+1):=by
 induction n with
 | zero=>simpa using h
 | succ n ih =>
  rw[WQ];have:=qj (show 0<a^(n+1)-1 by grind) (show 0<a-1 by grind)
  grind
theorem zsm{a:Rat}(h0:0<a)(h:a<1)(n:Nat):a^(n+1)<1:=by
 induction n with
 | zero=>simpa using h
 | succ n ih =>
  rw[WQ];have:=qj (show 0<1-a^(n+1) by grind) h0
  grind
theorem one_pow'(n:Nat):(1:Rat)^n=1:=by
 induction n with
 | zero=>rfl
 | succ n ih=>rw[WQ,ih,xH]
theorem kI{u:Int}(h:0<u):(0:Rat)<(u:Rat):=uH.mpr h
theorem zqS{t u:Int}(hu:0<u)(ht:0<t):0<wz t u:=by
 have e:=cD t (show u≠0 by omega);have:=kI ht;rw[<- e]at this;exact(Rat.mul_pos_iff_of_pos_right (kI hu)).mp this
theorem MI{t u c:Int}(hu:0<u)(h:t<=c*u):wz t u<=(c:Rat):=by
 have e:=cD t (show u≠0 by omega);refine Rat.le_of_mul_le_mul_right (c:=(u:Rat)) ?_ (kI hu);rw[e,<- vO];exact Vo.mpr h
theorem zr0{t u c:Int}(hu:0<u)(h:t<c*u):wz t u<(c:Rat):=by
 have e:=cD t (show u≠0 by omega);refine Rat.lt_of_mul_lt_mul_right (c:=(u:Rat)) ?_ (vW (kI hu));rw[e,<- vO];exact xI.mpr h
theorem J3{t u:Int}(hu:0<u):((wz t u).den:Int)<=u:=by
 have:=EJ t u (by omega);omega
theorem zup{x:Rat}{c:Int}(h:x<=(c:Rat)):x.num<=c*x.den:=by
 have:=(Xb x c).mp h
 simpa using this
theorem Ze{x:Rat}(h:0<=x):0<=x.num:=Qd.mpr h
theorem ag.small{x:Rat}{c d:Nat}(h0:0<=x)(hc:x<=((c:Int):Rat))(hd:x.den<=d)(z:c*d<1024)(hd2:d<1024):ag 10 x:=by
 have h1:=zup hc;have h2:=Ze h0;have h3:(c:Int)*(x.den:Int)<=(c:Int)*(d:Int):=Int.mul_le_mul_of_nonneg_left (by omega) (by omega);have h4:(c:Int)*(d:Int)<1024:=by rw[<- Vx];omega
 refine⟨⟨?_⟩,⟨?_⟩⟩
 ·show _<1024
  omega
 ·show _<1024
  omega
theorem M4{x:Rat}{z u:Int}(e:x=wz z u)(h1:1<=u)(h2:u<=8)(h3:1<=z)(h4:z<=4*u):0<x/\x<=4/\x.den<=8:=by
 subst e;refine⟨zqS (by omega) (by omega),MI (c:=4) (by omega) h4,?_⟩;have:=J3 (t:=z) (show 0<u by omega);omega
theorem CF{y:Rat}{r u:Int}(e:y=wz r u)(h1:1<=u)(h2:u<=12)(h3:0<=r)(h4:r<=u):0<=y/\y<=1/\y.den<=12:=by
 subst e;refine⟨XN h3 (by omega),MI (c:=1) (by omega) (by omega),?_⟩;have:=J3 (t:=r) (show 0<u by omega);omega
theorem ag.four:ag 3 4:=⟨⟨by decide +kernel⟩,⟨by decide +kernel⟩⟩
theorem lQ{f:Rat->Rat}{xs:List Rat}{i:Nat}(h:i<xs.length):(xs.map f).getD i 0=f (xs.getD i 0):=by
 rw[wa,wa,wx,wc h]
 rfl
theorem Z5{a b:Rat}(ha:0<a)(n:Nat)(x y:Rat):push a b n x<push a b n y ↔ x<y:=by
 have e:=Pu a b n x y;have p:=oE ha n
 constructor
 ·intro h
  have:0<a^n*(y-x):=by rw[<- e];grind
  have h2:=(Rat.mul_pos_iff_of_pos_left p).mp this
  grind
 ·intro h
  have:0<a^n*(y-x):=qj p (by grind)
  grind
def cZ(a b:Rat)(n:Nat)(xs:List Rat)(i:Nat):List Rat:=(xs.map λx=>push a b n (x+(1-xs.getD i 0))).set i 0
def aH(a b:Rat)(ns:List Int)(xs:List Rat):Nat->List Rat
 | 0=>xs
 | k+1=>cZ a b (ns.getD k 0).toNat (aH a b ns xs k) k
theorem gI(a b:Rat)(n:Nat)(xs:List Rat)(i:Nat):(cZ a b n xs i).length=xs.length:=by simp[cZ]
theorem cJ(a b:Rat)(ns:List Int)(xs:List Rat):∀k,(aH a b ns xs k).length=xs.length
 | 0=>rfl
 | k+1=>by rw[aH,gI,cJ a b ns xs k]
theorem fF(a b:Rat)(n:Nat)(xs:List Rat)(i j:Nat)(hj:j<xs.length):(cZ a b n xs i).getD j 0=if j=i then 0 else push a b n (xs.getD j 0+(1-xs.getD i 0)):=by
 unfold cZ;rw[wa,VH]
 by_cases h:i=j
 ·subst h
  simp[hj]
 ·rw[if_neg h,if_neg (WA h),wx,wc hj]
  simp[wa,hj]
def Cm(m:Nat)(xs:List Rat):Prop:=∃B:Int,0<B/\Bd m B /\ ∀x∈xs,∃t:Int,x=wz t B/\Bd m t
theorem Cm.mono{m n:Nat}{xs:List Rat}(h:Cm m xs)(e:m<=n):Cm n xs:=by
 obtain⟨B,h0,h1,h2⟩:=h;exact⟨B,h0,h1.mono e,λx hx=>let ⟨t,e1,e2⟩:=h2 x hx;⟨t,e1,e2.mono e⟩⟩
theorem Cm.eW{m:Nat}{xs:List Rat}{x:Rat}(h:Cm m xs)(hx:x∈xs):ag m x:=by
 obtain⟨B,h0,h1,h2⟩:=h;obtain⟨t,rfl,ht⟩:=h2 x hx;exact ag.divInt (by omega) ht h1
theorem Cm.pos{m:Nat}{xs:List Rat}(h:Cm m xs):1<=m:=by
 obtain⟨B,h0,h1,_⟩:=h;cases m with
 | zero=>have:=h1.lt;simp at this;omega
 | succ m=>omega
theorem Cm.get{m:Nat}{xs:List Rat}(h:Cm m xs)(i:Nat):ag m (xs.getD i 0):=by
 rcases wB i xs.length with z | z
 ·rw[wa,wc z]
  exact h.eW (vJ z)
 ·rw[wa,wL z]
  exact ag.zero.mono h.pos
theorem pH{a b:Rat}(ba:ag 10 a)(bb:ag 10 b){m:Nat}{t u:Int}(hu:0<u)(bt:Bd m t)(bu:Bd m u):∀n:Nat,0<u*((a.den:Int)*(b.den:Int))^n/\Bd (m+21*n) (u*((a.den:Int)*(b.den:Int))^n) /\
  ∃T:Int,push a b n (wz t u)=wz T (u*((a.den:Int)*(b.den:Int))^n)/\Bd (m+21*n) T
 | 0=>⟨by simpa using hu,by simpa using bu,t,by simp[push],by simpa using bt⟩
 | n+1=>by
  obtain⟨h1,h2,T,e,hT⟩:=pH ba bb hu bt bu n;have eb:u*((a.den:Int)*(b.den:Int))^(n+1)=u*((a.den:Int)*(b.den:Int))^n*(a.den:Int)*(b.den:Int):=by rw[V3,<- qc,qc (u*_)]
  rw[eb];refine⟨vN (vN h1 (den_pos a)) (den_pos b),((h2.mul ba.b).mul bb.b).mono (by omega),a.num*(b.den:Int)*T+b.num*(a.den:Int)*(u*((a.den:Int)*(b.den:Int))^n),?_,(((ba.t.mul bb.b).mul hT).add ((bb.t.mul ba.b).mul h2)).mono (by omega)⟩;rw[push,e];exact(zuA a b T _ (by omega)).symm
theorem Cm.lH{m:Nat}{xs:List Rat}{a b:Rat}(h:Cm m xs)(ba:ag 10 a)(bb:ag 10 b)(n i:Nat):Cm (m+2+21*n) (cZ a b n xs i):=by
 obtain⟨B,h0,h1,h2⟩:=h
 have hz:∃z:Int,xs.getD i 0=wz z B/\Bd m z:=by
  rcases wB i xs.length with q | q
  ·rw[wa,wc q]
   exact h2 _ (vJ q)
  ·rw[wa,wL q]
   exact⟨0,by simp,⟨by simp;exact Wf m⟩⟩
 obtain⟨z,ez,hz⟩:=hz;have key:=λ(t:Int)(ht:Bd m t)=>pH ba bb h0 (show Bd (m+2) (t+B-z)from((ht.add h1).sub hz).mono (by omega)) (h1.mono (by omega)) n
 obtain⟨p1,p2,_⟩:=key 0 ⟨by simp;exact Wf m⟩;refine⟨_,p1,p2,λx hx=>?_⟩
 have hx':x=0 \/ ∃y∈xs,x=push a b n (y+(1-xs.getD i 0)):=by
  unfold cZ at hx;rcases xb hx with q | q
  ·obtain⟨y,hy,rfl⟩:=wW.mp q
   exact .inr ⟨y,hy,rfl⟩
  ·exact .inl q
 rcases hx' with rfl | ⟨y,hy,rfl⟩
 ·exact⟨0,by simp,⟨by simp;exact Wf _⟩⟩
 ·obtain⟨t,rfl,ht⟩:=h2 y hy
  obtain⟨_,_,T,e,hT⟩:=key t ht
  have e2:wz t B+(1-xs.getD i 0)=wz (t+B-z) B:=by
   rw[ez]
   symm
   refine fJ (by omega) ?_;have q1:=cD t (show B≠0 by omega);have q2:=cD z (show B≠0 by omega);have q3:((t+B-z:Int):Rat)=(t:Rat)+(B:Rat)-(z:Rat):=by push_cast;rfl
   rw[q3,<- q1,<- q2]
   grind
  rw[e2];exact⟨T,e,hT⟩
theorem Cm.snoc{m:Nat}{xs:List Rat}(h:Cm m xs):Cm m (xs++[0]):=by
 obtain⟨B,h0,h1,h2⟩:=h;refine⟨B,h0,h1,λx hx=>?_⟩;rcases Wk.mp hx with q | q
 ·exact h2 x q
 ·rw[vc.mp q]
  exact⟨0,by simp,⟨by simp;exact Wf m⟩⟩
def upTo(ns:List Int)(k:Nat):Nat:=((ns.take k).map xx).sum
theorem oN{ns:List Int}{k:Nat}(h:k<ns.length):upTo ns (k+1)=upTo ns k+(ns.getD k 0).toNat:=by
 unfold upTo;rw[Qj,wc h,wa,wc h,vE,List.sum_append]
 show _+([ns[k].toNat]:List Nat).sum=_
 rw[List.sum_singleton]
 rfl
theorem Cm.rows{m:Nat}{xs:List Rat}{a b:Rat}{ns:List Int}(h:Cm m xs)(ba:ag 10 a)(bb:ag 10 b):∀k,k<=ns.length->Cm (m+2*k+21*upTo ns k) (aH a b ns xs k)
 | 0,_=>h.mono (by omega)
 | k+1,hk=>by
  have:=(Cm.rows h ba bb (ns:=ns) k (by omega)).lH ba bb (ns.getD k 0).toNat k;rw[aH];refine this.mono ?_;rw[oN (by omega)];omega
theorem Pp(a:Rat)(m:Nat):∀n:Nat,a^(m+n)=a^m*a^n
 | 0=>by rw[Xz,qw,Rat.mul_one]
 | n+1=>by rw[<- VB,WQ,Pp a m n,WQ,Ua]
theorem zuD(a b:Rat)(n:Nat)(xs ys:List Rat)(i j:Nat)(hx:xs.length=ys.length)(hj:j<xs.length) :
  (cZ a b n xs i).getD j 0-(cZ a b n ys i).getD j 0=a^n*((xs.getD j 0-ys.getD j 0)-(xs.getD i 0-ys.getD i 0)):=by
 rw[fF a b n xs i j hj,fF a b n ys i j (by omega)]
 by_cases h:j=i
 ·subst h
  rw[if_pos rfl,if_pos rfl]
  grind
 ·rw[if_neg h,if_neg h,Pu]
  grind
theorem Cs(a b:Rat)(ns:List Int)(xs ys:List Rat)(hx:xs.length=ys.length)(hn:ns.length=xs.length)(l:Nat)(hl:l+1=xs.length)(h0:xs.getD l 0=ys.getD l 0) :
  ∀k,k<=ns.length->∀j,j<xs.length->(aH a b ns xs k).getD j 0-(aH a b ns ys k).getD j 0=a^upTo ns k*((xs.getD j 0-ys.getD j 0)-(if k=0 then 0 else xs.getD (k-1) 0-ys.getD (k-1) 0))
 | 0,_,j,hj=>by simp[aH,upTo];grind
 | k+1,hk,j,hj=>by
  rw[aH,aH,zuD _ _ _ _ _ _ _ (by rw[cJ,cJ,hx]) (by rw[cJ];exact hj),Cs a b ns xs ys hx hn l hl h0 k (by omega) j hj,Cs a b ns xs ys hx hn l hl h0 k (by omega) k (by omega),oN (by omega),Pp];simp only[qV];rw[if_neg (show ¬ k+1=0 by omega)]
  grind
def kF(a b:Rat)(n:Nat)(xs:List Rat):List Rat:=(xs.tail.map λy=>push a b n (y+(1-xs.headD 0)))++[0]
def turned(a b:Rat)(ns:List Int)(xs:List Rat):Nat->List Rat
 | 0=>xs
 | k+1=>kF a b (ns.getD k 0).toNat (turned a b ns xs k)
theorem l8(a b:Rat)(ns:List Int)(xs:List Rat):∀k,k<=xs.length->turned a b ns xs k=(aH a b ns xs k).drop k++(aH a b ns xs k).take k
 | 0,_=>by simp[turned,aH]
 | k+1,hk=>by
  have hl:(aH a b ns xs k).length=xs.length:=cJ a b ns xs k;have hk':k<(aH a b ns xs k).length:=by omega
  rw[turned,l8 a b ns xs k (by omega),aH];generalize aH a b ns xs k=r at *;generalize (ns.getD k 0).toNat=n;have e1:r.drop k=r[k]::r.drop (k+1):=qL hk';have e2:r.getD k 0=r[k]:=by rw[wa,wc hk'];rfl
  unfold kF cZ;rw[e1,e2,ue,uX,List.headD_cons,List.drop_set_of_lt (by omega),vE,Xi,VG]
  congr 1
  have hm:k<(r.map λx=>push a b n (x+(1-r[k]))).length:=by rw[wm];exact hk'
  rw[Ub];generalize (r.map λx=>push a b n (x+(1-r[k])))=s at hm ⊢;rw[List.take_set,Qj,wc hm]
  show _=(s.take k++[s[k]]).set k 0
  have hlk:(s.take k).length=k:=by rw[Wn];omega
  rw[List.set_append_right _ _ (by omega),hlk,Vs]
  rfl
theorem zsj(a b:Rat)(ns:List Int)(xs:List Rat)(h:ns.length=xs.length):turned a b ns xs ns.length=aH a b ns xs ns.length:=by
 rw[l8 a b ns xs _ (by omega)];have hl:(aH a b ns xs ns.length).length=xs.length:=cJ a b ns xs _;rw[xJ (by omega),WR (by omega),Qs]
def mE(xs:List Rat):Nat->Int
 | 0=>1
 | k+1=>mE xs k*((xs.getD k 0).den:Int)
theorem KZ(xs:List Rat):∀k,0<mE xs k
 | 0=>by show(0:Int)<1;decide
 | k+1=>vN (KZ xs k) (den_pos _)
theorem Ls(xs:List Rat):∀k j,j<k->((xs.getD j 0).den:Int) ∣ mE xs k
 | 0,j,h=>by omega
 | k+1,j,h=>by
  rcases wB j k with z | z
  ·exact qE (Ls xs k j z) (VI ..)
  ·have:j=k:=by omega
   subst this;exact uf ..
theorem Nq{xs:List Rat}{m:Nat}(h:∀i,ag m (xs.getD i 0)):∀k,Bd (m*k+1) (mE xs k)
 | 0=>⟨by show(1:Int).natAbs<_;simp⟩
 | k+1=>by
  rw[mE];refine((Nq h k).mul (h k).b).mono ?_;rw[QN];omega
theorem zs4{x:Rat}{B:Int}(hB:0<B)(h:(x.den:Int) ∣ B):wz (x.num*B.fdiv x.den) B=x:=by
 obtain⟨c,rfl⟩:=h;rw[ff (VI ..) (gu x),V1 _ (gu x)];refine fJ (by omega) ?_;have:=jK x;rw[vO,vO,<- this]
 grind
theorem zyg{B d:Int}{m:Nat}(hd:0<d)(hB:0<B)(h:Bd m B):Bd m (B.fdiv d):=by
 refine h.le ?_;rw[VC _ (by omega)];have h1:0<=B / d:=Int.ediv_nonneg (by omega) (by omega);have h2:B / d<=B:=ug _ (by omega);omega
theorem BM(a b:Rat)(ns:List Int)(xs:List Rat){k:Nat}(hk:k<xs.length):(turned a b ns xs k).headD 0=(aH a b ns xs k).getD k 0:=by
 have hl:=cJ a b ns xs k;rw[l8 a b ns xs k (by omega),qL (by omega),wa,wc (by omega)]
 rfl
theorem El(a b:Rat)(ns:List Int)(xs:List Rat)(hx:0<xs.length):∀k,(turned a b ns xs k).length=xs.length
 | 0=>rfl
 | k+1=>by
  have:=El a b ns xs hx k;rw[turned,kF,wT,wm,uh,this];simp;omega
theorem Li(x y:Rat):((x*y).num=x.num / (x.num.natAbs.gcd y.den:Nat)*(y.num / (y.num.natAbs.gcd x.den:Nat)))/\((x*y).den=x.den / (y.num.natAbs.gcd x.den)*(y.den / (x.num.natAbs.gcd y.den))):=by
 show(Rat.mul x y).num=_/\(Rat.mul x y).den=_
 unfold Rat.mul;simp only[Int.divExact_eq_ediv,Nat.divExact_eq_div]
 constructor<;>trivial
theorem Kw(x y:Rat):((x+y).num=(x.num*((y.den / x.den.gcd y.den:Nat):Int)+y.num*((x.den / x.den.gcd y.den:Nat):Int)) / (((x.num*((y.den / x.den.gcd y.den:Nat):Int)+y.num*((x.den / x.den.gcd y.den:Nat):Int)).natAbs.gcd (x.den.gcd y.den):Nat):Int))/\((x+y).den=x.den / (x.den.gcd y.den)*(y.den / ((x.num*((y.den / x.den.gcd y.den:Nat):Int)+y.num*((x.den / x.den.gcd y.den:Nat):Int)).natAbs.gcd (x.den.gcd y.den)))):=by
 show(Rat.add x y).num=_/\(Rat.add x y).den=_
 unfold Rat.add
 by_cases hg:x.den.gcd y.den=1
 ·simp[hg]
 ·simp only[hg,dite_false,Rat.maybeNormalize_eq]
  refine⟨by simp,?_⟩;simp;have:(x.num*((y.den / x.den.gcd y.den:Nat):Int)+y.num*((x.den / x.den.gcd y.den:Nat):Int)).natAbs.gcd (x.den.gcd y.den) ∣ y.den:=Nat.dvd_trans (XO _ _) (XO _ _);simp at this;rw[Nat.mul_div_assoc _ this]
def eH(x y:Rat):Int:=((vB (x.den:Int) (y.den:Int):Nat):Int)
def kc(x y:Rat):Int:=x.num*(y.den:Int).fdiv (eH x y)+y.num*(x.den:Int).fdiv (eH x y)
def jf(x y:Rat):Int:=((vB (kc x y) (eH x y):Nat):Int)
theorem yP(x y:Rat):0<eH x y:=by
 have:0<vB (x.den:Int) (y.den:Int):=Int.gcd_pos_of_ne_zero_left _ (by have:=x.den_pos;omega);unfold eH;omega
theorem DR(x y:Rat):0<jf x y:=by
 have:0<vB (kc x y) (eH x y):=qu _ (by have:=yP x y;omega);unfold jf;omega
theorem CD(x y:Rat):eH x y=((x.den.gcd y.den:Nat):Int):=by simp[eH,vB]
theorem pG(x y:Rat):eH x y ∣ (x.den:Int):=qA ..
theorem x_(x y:Rat):eH x y ∣ (y.den:Int):=Qi ..
theorem US(x y:Rat):jf x y ∣ kc x y:=qA ..
theorem Dm(x y:Rat):jf x y ∣ eH x y:=Qi ..
theorem JJ(x y:Rat):kc x y=x.num*((y.den / x.den.gcd y.den:Nat):Int)+y.num*((x.den / x.den.gcd y.den:Nat):Int):=by
 have h:=yP x y;rw[kc,ff (x_ x y) (by omega),ff (pG x y) (by omega),CD,V2,V2]
theorem Jn(x y:Rat):jf x y=(((x.num*((y.den / x.den.gcd y.den:Nat):Int)+y.num*((x.den / x.den.gcd y.den:Nat):Int)).natAbs.gcd (x.den.gcd y.den):Nat):Int):=by
 rw[jf,JJ,CD];simp[vB]
theorem zyF(x y:Rat):(kc x y).fdiv (jf x y)=(x+y).num:=by
 have h:=DR x y;rw[ff (US x y) (by omega),(Kw x y).1,Jn,JJ]
theorem zx9(x y:Rat):(x.den:Int).fdiv (eH x y)*(y.den:Int).fdiv (jf x y)=((x+y).den:Int):=by
 have h:=DR x y;have h2:=yP x y;rw[ff (qE (Dm x y) (x_ x y)) (by omega),ff (pG x y) (by omega),(Kw x y).2,Jn,CD];simp only[Vx,V2]
def fV(x y:Rat):Int:=((vB x.num (y.den:Int):Nat):Int)
theorem mP(x y:Rat):0<fV x y:=by
 have:0<vB x.num (y.den:Int):=qu _ (by have:=y.den_pos;omega);unfold fV;omega
theorem sH(x y:Rat):fV x y ∣ x.num:=qA ..
theorem mO(x y:Rat):fV x y ∣ (y.den:Int):=Qi ..
theorem rK(x y:Rat):fV x y=((x.num.natAbs.gcd y.den:Nat):Int):=by simp[fV,vB]
theorem zyo(x y:Rat):x.num.fdiv (fV x y)*y.num.fdiv (fV y x)=(x*y).num:=by
 have h:=mP x y;have h2:=mP y x;rw[ff (sH x y) (by omega),ff (sH y x) (by omega),(Li x y).1,rK,rK]
theorem zyk(x y:Rat):(x.den:Int).fdiv (fV y x)*(y.den:Int).fdiv (fV x y)=((x*y).den:Int):=by
 have h:=mP x y;have h2:=mP y x;rw[ff (mO x y) (by omega),ff (mO y x) (by omega),(Li x y).2,rK,rK];simp only[Vx,V2]
theorem kP{n:Nat}{a d:Int}(h:Bd n a)(hd:d ∣ a)(hp:0<d):Bd n (a.fdiv d):=by
 rw[ff hd (by omega)];exact h.le (Q9 a d)
theorem oV{n:Nat}{a d:Int}(h:Bd n a)(hd:d ∣ a)(ha:0<a):Bd n d :=
 h.le (Uc (by omega) (Int.natAbs_dvd_natAbs.mpr hd))
theorem zR(t b:Int):vB (if t<0 then -t else t) b=vB t b:=by split<;>simp
theorem zyS{n:Nat}{y:Rat}(h:ag n y):ag n (-y):=⟨by simpa using h.t.neg,by simpa using h.b⟩
theorem zsZ(x y:Rat):x + -y=x-y:=(Rat.sub_eq_add_neg x y).symm
theorem s_{y:Rat}(h:0<y.num):(y⁻¹).num=(y.den:Int)/\((y⁻¹).den:Int)=y.num:=by
 have:¬ y.num<0:=by omega
 constructor
 ·rw[Rat.num_inv,xE h,xF]
 ·rw[Rat.den_inv];split<;>omega
theorem sP{y:Rat}(h:y.num<0):(y⁻¹).num = -(y.den:Int)/\((y⁻¹).den:Int) = -y.num:=by
 constructor
 ·rw[Rat.num_inv,QZ h,uE]
 ·rw[Rat.den_inv];split<;>omega
theorem Ml{n:Nat}{y:Rat}(h:ag n y)(hy:y≠0):ag n y⁻¹:=by
 have:=rG hy
 by_cases p:0<y.num
 ·exact⟨by rw[(s_ p).1];exact h.b,by rw[(s_ p).2];exact h.t⟩
 ·have p:y.num<0:=by omega
  exact⟨by rw[(sP p).1];exact h.b.neg,by rw[(sP p).2];exact h.t.neg⟩
theorem Ri(x y:Rat):0<(x.den:Int)*(y.den:Int):=vN (den_pos x) (den_pos y)
theorem getD_mem{α : Type}{xs:List α}{d : α}{i:Nat}(h:i<xs.length):xs.getD i d∈xs:=by
 rw[wa,wc h];exact vJ h
def jA(x:Rat):Bool:=(!decide (x<0))&&(decide (x<1)&&decide ((x.den:Int)<=60))
structure eD(x:Rat):Prop where
 nn:0<=x
 lt:x<1
 den:x.den<=60
theorem eD.is{x:Rat}(h:eD x):jA x=true:=by
 have h1:=h.nn;have h2:=h.lt;have h3:=h.den;have h4:¬ x<0:=VT.mpr h1;have h5:(x.den:Int)<=60:=by omega
 simp[jA,h4,h2,h5]
theorem eD.eW{x:Rat}(h:eD x):ag 6 x:=by
 have h1:=h.nn;have h2:=h.lt;have h3:=h.den;have n0:0<=x.num:=Qd.mpr h1
 have n1:x.num<x.den:=by
   have:=Rat.lt_iff x 1 |>.mp h2
   simpa using this
 exact ⟨⟨by have : (2 : Nat) ^ 6 = 64 := by decide
            omega⟩, ⟨by have : (2 : Nat) ^ 6 = 64 := by decide
                        omega⟩⟩
def mx(m:Rat)(l:List Rat):Rat:=l.foldl (λm x=>if m<x then x else m) m
theorem O6:∀(l:List Rat)(m:Rat),m<=mx m l /\ ∀y∈l,y<=mx m l
 | [],m=>⟨WS,λy h=>by cases h⟩
 | x::l,m=>by
  have h:=O6 l (if m<x then x else m);have e:mx m (x::l)=mx (if m<x then x else m) l:=rfl;rw[e]
  have h1:m<=(if m<x then x else m)/\x<=(if m<x then x else m):=by
   split
   ·rename_i z;exact⟨vW z,WS⟩
   ·rename_i z;exact⟨WS,VT.mp z⟩
  refine⟨xj h1.1 h.1,λy hy=>?_⟩;rcases wK.mp hy with rfl | hy
  ·exact xj h1.2 h.1
  ·exact h.2 y hy
theorem AV:∀(l:List Rat)(m:Rat),mx m l=m\/mx m l∈l
 | [],m=>.inl rfl
 | x::l,m=>by
  have e:mx m (x::l)=mx (if m<x then x else m) l:=rfl;rw[e];rcases AV l (if m<x then x else m)with h | h
  ·rw[h]
   split
   ·exact .inr (wC ..)
   ·exact .inl rfl
  ·exact .inr (wy _ h)
theorem sf(m x:Rat)(l:List Rat):mx m (l++[x])=if mx m l<x then x else mx m l:=by
 unfold mx;rw[XQ];rfl
def bV(xs:List Rat):Rat:=mx (xs.getD 0 0) xs
theorem JG{xs:List Rat} : ∀y∈xs,y<=bV xs:=(O6 xs _).2
theorem gO{xs:List Rat}(h:1<=xs.length):bV xs∈xs:=by
 rcases AV xs (xs.getD 0 0)with e | e
 ·unfold bV
  rw[e,wa,wc (by omega)];exact vJ _
 ·exact e
theorem lI{xs:List Rat}{i:Nat}(h:i<xs.length):xs.take (i+1)=xs.take i++[xs.getD i 0]:=by
 rw[Qj,wa,wc h];rfl
theorem Ob{n:Nat}{xs:List Rat}(b:∀i,ag n (xs.getD i 0))(h1:1<=xs.length)(i:Nat):ag n (mx (xs.getD 0 0) (xs.take i)):=by
 rcases AV (xs.take i) (xs.getD 0 0)with e | e
 ·rw[e];exact b 0
 ·have e:=ui _ _ e
  obtain⟨j,hj,ej⟩:=wX e;rw[<- ej];have:=b j;rw[wa,wc hj]at this;exact this
theorem J0{r u:Int}(h0:0<=r)(h1:r<u)(h2:u<=60):eD (wz r u):=by
 refine⟨XN h0 (by omega),zr0 (c:=1) (by omega) (by omega),?_⟩;have:=EJ r u (by omega);omega
def aF(ps:List Rat)(left:List Nat):List Nat:=left.filter λw=>!decide (ps.getD w 0<1)
def bK(left wave:List Nat):List Nat:=left.filter λw=>!decide (w∈wave)
def cC(f g:Rat)(ps:List Rat)(l:List Nat):List Rat:=l.foldl (λps w=>ps.set w (f*ps.getD w 0+g)) ps
def cq(a b:Rat):Nat->List Rat->List Nat->List (List Nat) × (List Nat × List Rat)
 | 0,ps,left=>([],left,ps)
 | n+1,ps,left=>match aF ps left with
  | []=>([],left,ps)
  | w::ws=>((w::ws)::(cq a b n (cC (a^(w::ws).length) (aB a b (w::ws).length) ps (bK left (w::ws))) (bK left (w::ws))).1,(cq a b n (cC (a^(w::ws).length) (aB a b (w::ws).length) ps (bK left (w::ws))) (bK left (w::ws))).2)
def iF(left:List Nat)(ps:List Rat):List Rat:=(wq ps.length).map λi=>if i∈left then ps.getD i 0 else 0
def bA(xs:List Rat):List Rat:=xs.map (· + (1-bV xs))
def dS(a b:Rat)(xs:List Rat):List (List Nat) × (List Nat × List Rat):=cq a b xs.length (bA xs) (wq xs.length)
def cf(a b:Rat)(xs:List Rat):List (List Nat):=(dS a b xs).1
def cX(a b:Rat)(xs:List Rat):List Rat:=iF (dS a b xs).2.1 (dS a b xs).2.2
theorem mM{a b:Rat}{n:Nat}{ps:List Rat}{left:List Nat}(h:aF ps left=[]):cq a b n ps left=([],left,ps):=by
 cases n with
 | zero=>rfl
 | succ n=>rw[cq,h]
theorem jg{a b:Rat}{n:Nat}{ps:List Rat}{left:List Nat}(h:aF ps left≠[]):cq a b (n+1) ps left=(aF ps left::(cq a b n (cC (a^(aF ps left).length) (aB a b (aF ps left).length) ps (bK left (aF ps left))) (bK left (aF ps left))).1,(cq a b n (cC (a^(aF ps left).length) (aB a b (aF ps left).length) ps (bK left (aF ps left))) (bK left (aF ps left))).2):=by
 rw[cq];cases e:aF ps left with
 | nil=>exact absurd e h
 | cons w ws=>rfl
theorem zq7(f g:Rat)(ps:List Rat)(l:List Nat)(w:Nat):cC f g ps (l++[w])=(cC f g ps l).set w (f*(cC f g ps l).getD w 0+g):=by
 unfold cC;rw[XQ];rfl
theorem g6(f g:Rat):∀(l:List Nat)(ps:List Rat),(cC f g ps l).length=ps.length
 | [],ps=>rfl
 | w::l,ps=>by
  show(cC f g (ps.set w _) l).length=_
  rw[g6 f g l,Vw]
theorem N8{ps:List Rat}{w j:Nat}{y:Rat}(h:w≠j):(ps.set w y).getD j 0=ps.getD j 0:=by
 rw[wa,VH,if_neg h,wa]
theorem RV{ps:List Rat}{w:Nat}{y:Rat}(h:w<ps.length):(ps.set w y).getD w 0=y:=by
 rw[wa,VH,if_pos rfl,if_pos h];rfl
theorem iV(f g:Rat):∀(l:List Nat)(ps:List Rat),l.Nodup->(∀w∈l,w<ps.length)->∀j,(cC f g ps l).getD j 0=if j∈l then f*ps.getD j 0+g else ps.getD j 0
 | [],ps,_,_,j=>by simp[cC]
 | w::l,ps,nd,hl,j=>by
  have nd':=WN.mp nd
  show(cC f g (ps.set w _) l).getD j 0=_
  rw[iV f g l _ nd'.2 (λv hv=>by rw[Vw];exact hl v (wy _ hv)) j]
  by_cases hj:j=w
  ·subst hj
   rw[if_neg nd'.1,if_pos (wC ..),RV (hl j (wC ..))]
  ·rw[N8 (WA hj)]
   by_cases hm:j∈l
   ·rw[if_pos hm,if_pos (wy _ hm)]
   ·rw[if_neg hm,if_neg (λz=>by rcases wK.mp z with z | z;(exact hj z);exact hm z)]
theorem Zq(ps:List Rat)(left:List Nat):bK left (aF ps left)=left.filter λw=>decide (ps.getD w 0<1):=by
 unfold bK;refine vK λw hw=>?_
 have e:(w∈aF ps left)=(¬ ps.getD w 0<1):=by
  unfold aF;rw[ve];simp[hw]
 simp only[e];simp
theorem DF(ps:List Rat)(left:List Nat):(aF ps left).length+(bK left (aF ps left)).length=left.length:=by
 rw[Zq];unfold aF
 induction left with
 | nil=>rfl
 | cons w l ih=>by_cases h:ps.getD w 0<1<;>simp only[WY,h,decide_true,decide_false,Wr,QE,if_true,if_false,w6,vo]<;>omega
theorem mT{left wave:List Nat}(h:left.Nodup):(bK left wave).Nodup:=h.filter _
theorem mK{left wave:List Nat}{n:Nat}(h:∀w∈left,w<n):∀w∈bK left wave,w<n:=λw hw=>h w (ve.mp hw).1
theorem Od(left:List Nat)(ps:List Rat):(iF left ps).length=ps.length:=by simp[iF]
theorem lZ{left:List Nat}{ps:List Rat}{j:Nat}(h:j<ps.length):(iF left ps).getD j 0=if j∈left then ps.getD j 0 else 0:=by
 unfold iF;rw[wa,wx,vQ h]
 rfl
theorem fh(xs:List Rat):(bA xs).length=xs.length:=by simp[bA]
theorem oj{a b:Rat} : ∀(n:Nat)(ps:List Rat)(left:List Nat),(cq a b n ps left).2.2.length=ps.length
 | 0,ps,left=>rfl
 | n+1,ps,left=>by
  by_cases h:aF ps left=[]
  ·rw[mM h]
  ·rw[jg h]
   show(cq a b n _ _).2.2.length=_
   rw[oj n,g6]
theorem iL(a b:Rat)(xs:List Rat):(cX a b xs).length=xs.length:=by
 unfold cX dS;rw[Od,oj,fh]
theorem Cm.Ie{m:Nat}{ps:List Rat}{B:Int}(h0:0<B)(h1:Bd m B)(h:∀j,j<ps.length->∃t:Int,ps.getD j 0=wz t B/\Bd m t):∀x∈ps,∃t:Int,x=wz t B/\Bd m t:=λx hx=>by
 obtain⟨j,hj,e⟩:=wX hx;have:=h j hj;rw[wa,wc hj]at this;rw[<- e];exact this
theorem sC{a b:Rat}(ba:ag 10 a)(bb:ag 10 b){m:Nat}{t:Int}(h:Bd m t):∀n:Nat,Bd (m+21*n) (t*((a.den:Int)*(b.den:Int))^n)
 | 0=>by simpa using h
 | n+1=>by
  rw[V3,<- qc];exact((sC ba bb h n).mul (ba.b.mul bb.b)).mono (by omega)
theorem pX{t B d:Int}(h0:0<B)(hd:0<d):wz t B=wz (t*d) (B*d):=by
 symm
 refine fJ (by have:=vN h0 hd;omega) ?_;have q1:=cD t (show B≠0 by omega);rw[vO,vO,<- Ua,q1]
theorem Cm.wave{m:Nat}{h:Rat}{ps:List Rat}{a b:Rat}(c:Cm m (h::ps))(ba:ag 10 a)(bb:ag 10 b)(n:Nat){l:List Nat}(nd:l.Nodup)(hl:∀w∈l,w<ps.length):Cm (m+21*n) (h::cC (a^n) (aB a b n) ps l):=by
 obtain⟨B,h0,h1,h2⟩:=c;have hz:Bd m (0:Int):=⟨by simp;exact Wf m⟩;obtain⟨p1,p2,_⟩:=pH ba bb h0 hz h1 n;have hd:0<((a.den:Int)*(b.den:Int))^n:=X5 (vN (den_pos a) (den_pos b));refine⟨_,p1,p2,λx hx=>?_⟩;rcases wK.mp hx with rfl | hx
 ·obtain⟨t,rfl,ht⟩:=h2 x (wC ..)
  exact⟨_,pX h0 hd,sC ba bb ht n⟩
 ·refine Cm.Ie p1 p2 (λj hj=>?_) x hx
  rw[g6]at hj;obtain⟨t,e,ht⟩:=h2 (ps.getD j 0) (wy _ (getD_mem hj));rw[iV _ _ _ _ nd hl]
  split
  ·obtain⟨_,_,T,e2,hT⟩:=pH ba bb h0 ht h1 n
   exact⟨T,by rw[<- gB,e,e2],hT⟩
  ·exact⟨_,by rw[e];exact pX h0 hd,sC ba bb ht n⟩
theorem Cm.rise{m:Nat}{h M:Rat}{xs:List Rat}(c:Cm m (h::xs))(hM:M∈xs):Cm (m+2) ((h+(1-M))::xs.map (· + (1-M))):=by
 obtain⟨B,h0,h1,h2⟩:=c;obtain⟨z,ez,hz⟩:=h2 M (wy _ hM)
 have key:∀t:Int,Bd m t->wz t B+(1-M)=wz (t+B-z) B/\Bd (m+2) (t+B-z):=λt ht=>by
  refine⟨?_,((ht.add h1).sub hz).mono (by omega)⟩;rw[ez]
  symm
  refine fJ (by omega) ?_;have q1:=cD t (show B≠0 by omega);have q2:=cD z (show B≠0 by omega);have q3:((t+B-z:Int):Rat)=(t:Rat)+(B:Rat)-(z:Rat):=by push_cast;rfl
  rw[q3,<- q1,<- q2]
  grind
 refine⟨B,h0,h1.mono (by omega),λx hx=>?_⟩;rcases wK.mp hx with rfl | hx
 ·obtain⟨t,e,ht⟩:=h2 h (wC ..)
  rw[e];exact⟨_,(key t ht).1,(key t ht).2⟩
 ·obtain⟨y,hy,rfl⟩:=wW.mp hx
  obtain⟨t,e,ht⟩:=h2 y (wy _ hy)
  show ∃t:Int,y+(1-M)=_/\_
  rw[e];exact⟨_,(key t ht).1,(key t ht).2⟩
theorem Cm.jO{m:Nat}{xs:List Rat}{ys:List Rat}(c:Cm m xs)(h:∀y∈ys,y∈xs\/y=0):Cm m ys:=by
 obtain⟨B,h0,h1,h2⟩:=c;refine⟨B,h0,h1,λy hy=>?_⟩;rcases h y hy with z | rfl
 ·exact h2 y z
 ·exact⟨0,by simp,⟨by simp;exact Wf m⟩⟩
theorem Z8{left:List Nat}{ps:List Rat} : ∀y∈iF left ps,y∈ps\/y=0:=λy hy=>by
 unfold iF at hy;obtain⟨i,hi,e⟩:=wW.mp hy;rw[<- e]
 split
 ·exact .inl (getD_mem (wG.mp hi))
 ·exact .inr rfl
theorem Cm.Sq{k:Nat}{xs:List Rat}(h:∀i,ag k (xs.getD i 0)):Cm (k*xs.length+1+k) xs:=by
 have h0:=KZ xs xs.length;have h1:=Nq h xs.length;refine⟨mE xs xs.length,h0,h1.mono (by omega),Cm.Ie h0 (h1.mono (by omega)) λj hj=>?_⟩;exact⟨_,(zs4 h0 (Ls xs _ j hj)).symm,((h j).t.mul (zyg (den_pos _) h0 h1)).mono (by omega)⟩
def aj(a b:Rat)(xs:List Rat):Nat->List Rat
 | 0=>xs
 | k+1=>cX a b (aj a b xs k)
def aP(a b:Rat)(xs:List Rat):Nat->Rat
 | 0=>0
 | k+1=>aP a b xs k+(1-bV (aj a b xs k))
theorem bN(a b:Rat)(xs:List Rat):∀k,(aj a b xs k).length=xs.length
 | 0=>rfl
 | k+1=>by rw[aj,iL,bN a b xs k]
theorem yl{f:Rat->Rat}{xs:List Rat}{w:Nat}(h:w<xs.length):(xs.map f).getD w 0=f (xs.getD w 0):=by
 rw[wa,wx,wc h,wa,wc h];rfl
def o_(d:Int)(m:Nat)(xs:List Rat):Prop:=∃B:Int,0<B/\d ∣ B/\Bd m B /\ ∀x∈xs,∃t:Int,x=wz t B/\Bd m t
theorem o_.of{d:Int}{m:Nat}{xs:List Rat}(h:Cm m xs)(hd:0<d)(b:Bd 4 d):o_ d (m+4) xs:=by
 obtain⟨B,h0,h1,h2⟩:=h;refine⟨B*d,vN h0 hd,uf ..,(h1.mul b),λx hx=>?_⟩;obtain⟨t,e,ht⟩:=h2 x hx;exact⟨t*d,by rw[e];exact pX h0 hd,ht.mul b⟩
theorem J6{a b:Rat}(ta:Bd 6 a.num)(da:Bd 4 (a.den:Int))(tb:Bd 4 b.num){m:Nat}{t u:Int}(hu:0<u)(hd:(b.den:Int) ∣ u)(bt:Bd m t)(bu:Bd m u):∀n:Nat,0<u*(a.den:Int)^n/\(b.den:Int) ∣ u*(a.den:Int)^n/\Bd (m+9*n) (u*(a.den:Int)^n) /\
  ∃T:Int,push a b n (wz t u)=wz T (u*(a.den:Int)^n)/\Bd (m+9*n) T
 | 0=>⟨by simpa using hu,by simpa using hd,by simpa using bu,t,by simp[push],by simpa using bt⟩
 | n+1=>by
  obtain⟨h1,hdv,h2,T,e,hT⟩:=J6 ta da tb hu hd bt bu n;have eb:u*(a.den:Int)^(n+1)=u*(a.den:Int)^n*(a.den:Int):=by rw[V3,<- qc]
  rw[eb];generalize u*(a.den:Int)^n=U at *;obtain⟨c,rfl⟩:=hdv
  have hc:0<c:=by
   have hb:=den_pos b;rcases Int.lt_or_le 0 c with z | z
   ·exact z
   ·have:=Int.mul_nonpos_of_nonneg_of_nonpos (Int.le_of_lt hb) z
    omega
  have bc:Bd (m+9*n) c:=h2.le (by
   rw[xQ];exact Nat.le_mul_of_pos_left _ (by have:=den_pos b;omega))
  refine⟨vN h1 (den_pos a),qE (VI ..) (VI ..),(h2.mul da).mono (by omega),a.num*T+b.num*(a.den:Int)*c,?_,((ta.mul hT).add ((tb.mul da).mul bc)).mono (by omega)⟩;rw[push,e]
  symm
  have hU:((b.den:Int)*c)*(a.den:Int)≠0:=by have:=vN h1 (den_pos a);omega
  refine fJ hU ?_;have q1:=cD T (show(b.den:Int)*c≠0 by omega);have q2:=jK a;have q3:=jK b;have q4:((a.num*T+b.num*(a.den:Int)*c:Int):Rat)=(a.num:Rat)*(T:Rat)+(b.num:Rat)*((a.den:Int):Rat)*(c:Rat):=by push_cast;rfl
  have q5:(((b.den:Int)*c*(a.den:Int):Int):Rat)=((b.den:Int):Rat)*(c:Rat)*((a.den:Int):Rat):=by push_cast;rfl
  have q6:(((b.den:Int)*c:Int):Rat)=((b.den:Int):Rat)*(c:Rat):=by push_cast;rfl
  rw[q6]at q1;rw[q4,q5,<- q1,<- q2,<- q3]
  grind
theorem eK(a b:Rat)(xs:List Rat)(m:Nat):∀k,aj a b (aj a b xs m) k=aj a b xs (m+k)
 | 0=>rfl
 | k+1=>by rw[aj,eK a b xs m k];rfl
theorem mS(a b:Rat)(xs:List Rat)(m:Nat):∀k,aP a b xs m+aP a b (aj a b xs m) k=aP a b xs (m+k)
 | 0=>by show aP a b xs m+0=aP a b xs m;grind
 | k+1=>by
  have:=mS a b xs m k
  show aP a b xs m+(aP a b (aj a b xs m) k+(1-bV (aj a b (aj a b xs m) k)))=aP a b xs (m+k)+(1-bV (aj a b xs (m+k)))
  rw[eK,<- this]
  grind
theorem J5{a b:Rat}(a0:0<a)(b0:0<=b){x:Rat}(h:0<x):∀n:Nat,0<push a b n x
 | 0=>h
 | n+1=>by
  have h1:=J5 a0 b0 h n;have h2:=qj a0 h1
  show 0<a*push a b n x+b
  grind
structure gK(l:List Rat):Prop where
 pw:l.Pairwise (· > ·)
 nn:∀y∈l,0<=y
theorem gK.step{a b:Rat}(a0:0<a)(b0:0<=b){n:Nat}{x:Rat}{l:List Rat}(h:gK (x::l))(x1:x<1):gK (kF a b n (x::l)):=by
 have hp:=W4.mp h.pw;have pos:∀y∈l,0<push a b n (y+(1-x)):=λy hy=>J5 a0 b0 (by have:=h.nn y (wy _ hy);grind) n
 unfold kF;refine⟨qB.mpr ⟨?_,xp _ _,?_⟩,λy hy=>?_⟩
 ·show(l.map λy=>push a b n (y+(1-x))).Pairwise (· > ·)
  rw[qm];refine hp.2.imp λ{y z} hyz=>?_
  show push a b n (z+(1-x))<push a b n (y+(1-x))
  have hyz:z<y:=hyz;exact(Z5 a0 n _ _).mpr (by grind)
 ·intro y hy z hz
  obtain⟨w,hw,rfl⟩:=wW.mp hy;rw[vc.mp hz];exact pos w hw
 ·rcases Wk.mp hy with hy | hy
  ·obtain⟨w,hw,rfl⟩:=wW.mp hy
   exact vW (pos w hw)
  ·rw[vc.mp hy];exact WS
structure gb(xs row:List Rat)(fl:Nat->Nat):Prop where
 at':∀w,w<xs.length->xs.getD w 0=row.getD (fl w) 0
 lt:∀w,w<xs.length->fl w<row.length
def aZ(n:Nat)(fl:Nat->Nat)(c:Nat):List Nat:=(wq n).filter λw=>decide (fl w=c)
theorem oX{xs row:List Rat}{fl:Nat->Nat}{c:Nat}(h:gb xs row fl)(some:∃w,w<xs.length/\fl w=c)(top:∀j,j<row.length->j≠c->row.getD j 0<row.getD c 0):bV xs=row.getD c 0:=by
 obtain⟨w,hw,rfl⟩:=some;have h1:1<=xs.length:=by omega
 refine Rat.le_antisymm ?_ ?_
 ·obtain⟨j,hj,e⟩:=wX (gO h1)
  have ea:=h.at' j hj;rw[wa,wc hj]at ea;have ea:xs[j]=row.getD (fl j) 0:=ea;rw[<- e,ea]
  by_cases z:fl j=fl w
  ·rw[z];exact WS
  ·exact vW (top _ (h.lt j hj) z)
 ·rw[<- h.at' w hw]
  exact JG _ (getD_mem hw)
theorem Di{xs row:List Rat}{fl:Nat->Nat}{c:Nat}(h:gb xs row fl)(some:∃w,w<xs.length/\fl w=c)(top:∀j,j<row.length->j≠c->row.getD j 0<row.getD c 0):aF (bA xs) (wq xs.length)=aZ xs.length fl c:=by
 unfold aF aZ;refine vK λw hw=>?_
 have hw:=wG.mp hw;have hm:=oX h some top
 have e:(bA xs).getD w 0=row.getD (fl w) 0+(1-row.getD c 0):=by
  unfold bA;rw[wa,wx,wc hw,hm];have ea:=h.at' w hw;rw[wa,wc hw]at ea;have ea:xs[w]=row.getD (fl w) 0:=ea
  show xs[w]+(1-row.getD c 0)=_
  rw[ea]
 rw[e]
 by_cases z:fl w=c
 ·rw[z,decide_eq_true rfl,decide_eq_false (by grind)];rfl
 ·have:=top _ (h.lt w hw) z
  rw[decide_eq_false z,decide_eq_true (by grind)];rfl
theorem Iw{xs row:List Rat}{fl:Nat->Nat}{c:Nat}(h:gb xs row fl)(hm:bV xs=row.getD c 0){w:Nat}(hw:w<xs.length):(bA xs).getD w 0=row.getD (fl w) 0+(1-row.getD c 0):=by
 unfold bA;rw[wa,wx,wc hw,hm];have ea:=h.at' w hw;rw[wa,wc hw]at ea;have ea:xs[w]=row.getD (fl w) 0:=ea
 show xs[w]+(1-row.getD c 0)=_
 rw[ea]
theorem Th{a b:Rat}{xs row:List Rat}{fl:Nat->Nat}{c:Nat}(h:gb xs row fl)(some:∃w,w<xs.length/\fl w=c)(top:∀j,j<row.length->j≠c->row.getD j 0<row.getD c 0)
  (low:∀j,j<row.length->j≠c->(∃w,w<xs.length/\fl w=j)->push a b (aZ xs.length fl c).length (row.getD j 0+(1-row.getD c 0))<1) :
  cf a b xs=[aZ xs.length fl c]/\gb (cX a b xs) (cZ a b (aZ xs.length fl c).length row c) fl:=by
 have hm:=oX h some top;have he:=Di h some top;obtain⟨w0,hw0,hf0⟩:=some
 have hne:aZ xs.length fl c≠[]:=λe=>by
  have:w0∈aZ xs.length fl c:=ve.mpr ⟨wG.mpr hw0,decide_eq_true hf0⟩;rw[e]at this;cases this
 have hlen:xs.length=(xs.length-1)+1:=by omega
 have hcl:c<row.length:=by rw[<- hf0];exact h.lt w0 hw0
 have nd:=WZ (n:=xs.length)
 have hmemL:∀w,w∈bK (wq xs.length) (aZ xs.length fl c) ↔ w<xs.length/\fl w≠c:=λw=>by
  unfold bK aZ;rw[ve,wG]
  constructor
  ·rintro ⟨h1,h2⟩
   refine⟨h1,λz=>?_⟩;have:w∈(wq xs.length).filter λw=>decide (fl w=c):=ve.mpr ⟨wG.mpr h1,decide_eq_true z⟩
   simp[this]at h2
  ·rintro ⟨h1,h2⟩
   exact⟨h1,by simp[h2]⟩
 have hps:∀w,w<xs.length->fl w≠c->(cC (a^(aZ xs.length fl c).length) (aB a b (aZ xs.length fl c).length) (bA xs) (bK (wq xs.length) (aZ xs.length fl c))).getD w 0=push a b (aZ xs.length fl c).length (row.getD (fl w) 0+(1-row.getD c 0)):=λw hw hf=>by
  rw[iV _ _ _ _ (mT nd) (λv hv=>by rw[fh];exact((hmemL v).mp hv).1),if_pos ((hmemL w).mpr ⟨hw,hf⟩),Iw h hm hw,gB]
 have hend:aF (cC (a^(aZ xs.length fl c).length) (aB a b (aZ xs.length fl c).length) (bA xs) (bK (wq xs.length) (aZ xs.length fl c))) (bK (wq xs.length) (aZ xs.length fl c))=[]:=by
  unfold aF;rw[xK];intro w hw;have hw':=(hmemL w).mp hw;rw[hps w hw'.1 hw'.2];have:=low (fl w) (h.lt w hw'.1) hw'.2 ⟨w,hw'.1,rfl⟩;rw[decide_eq_true this]
  decide
 have hR:dS a b xs=([aZ xs.length fl c],bK (wq xs.length) (aZ xs.length fl c),cC (a^(aZ xs.length fl c).length) (aB a b (aZ xs.length fl c).length) (bA xs) (bK (wq xs.length) (aZ xs.length fl c))):=by
  unfold dS;generalize hN:cq a b xs.length (bA xs) (wq xs.length)=r;rw[show cq a b xs.length (bA xs) (wq xs.length)=cq a b ((xs.length-1)+1) (bA xs) (wq xs.length) by rw[<- hlen],jg (by rw[he];exact hne),he,mM hend]at hN;exact hN.symm
 refine⟨by unfold cf;rw[hR],λw hw=>?_,λw hw=>by rw[gI];exact h.lt w (by rw[iL]at hw;exact hw)⟩;rw[iL]at hw;have hfw:=h.lt w hw;unfold cX;rw[hR,lZ (by rw[g6,fh];exact hw),fF _ _ _ _ _ _ hfw]
 by_cases z:fl w=c
 ·rw[if_neg (λy=>((hmemL w).mp y).2 z),if_pos z]
 ·rw[if_pos ((hmemL w).mpr ⟨hw,z⟩),if_neg z,hps w hw z]
theorem U2{a b:Rat}{xs row:List Rat}{fl:Nat->Nat}{c:Nat}(h:gb xs row fl)(some:∃w,w<xs.length/\fl w=c)(top:∀j,j<row.length->j≠c->row.getD j 0<row.getD c 0)
  {w1:Nat} (hw1:w1<xs.length) (hf1:fl w1≠c) (up:¬ push a b (aZ xs.length fl c).length (row.getD (fl w1) 0+(1-row.getD c 0))<1):1<(cf a b xs).length:=by
 have hm:=oX h some top;have he:=Di h some top;obtain⟨w0,hw0,hf0⟩:=some
 have hne:aZ xs.length fl c≠[]:=λe=>by
  have:w0∈aZ xs.length fl c:=ve.mpr ⟨wG.mpr hw0,decide_eq_true hf0⟩;rw[e]at this;cases this
 have hw01:w0≠w1:=λe=>hf1 (by rw[<- e];exact hf0)
 have hlen:xs.length=(xs.length-2)+1+1:=by omega
 have nd:=WZ (n:=xs.length)
 have hmem:w1∈bK (wq xs.length) (aZ xs.length fl c):=by
  unfold bK aZ;rw[ve,wG];exact⟨hw1,by simp[hf1]⟩
 have hend:aF (cC (a^(aZ xs.length fl c).length) (aB a b (aZ xs.length fl c).length) (bA xs) (bK (wq xs.length) (aZ xs.length fl c))) (bK (wq xs.length) (aZ xs.length fl c))≠[]:=λe=>by
  have:w1∈aF (cC (a^(aZ xs.length fl c).length) (aB a b (aZ xs.length fl c).length) (bA xs) (bK (wq xs.length) (aZ xs.length fl c))) (bK (wq xs.length) (aZ xs.length fl c)):=by
   unfold aF;refine ve.mpr ⟨hmem,?_⟩;rw[iV _ _ _ _ (mT nd) (λv hv=>by rw[fh];exact wG.mp (ve.mp hv).1),if_pos hmem,Iw h hm hw1,<- gB,decide_eq_false up]
   rfl
  rw[e]at this;cases this
 unfold cf dS;rw[show cq a b xs.length (bA xs) (wq xs.length)=cq a b ((xs.length-2)+1+1) (bA xs) (wq xs.length) by rw[<- hlen],jg (by rw[he];exact hne),he,jg hend]
 show 1<(_::_::_:List (List Nat)).length
 simp
theorem LD{a b:Rat}{ns:List Int}{row:List Rat}{i j:Nat}(hi:i<=row.length)(hj:j<row.length):(aH a b ns row i).getD j 0∈turned a b ns row i:=by
 have hl:=cJ a b ns row i;rw[l8 a b ns row i hi];have hm:(aH a b ns row i).getD j 0∈aH a b ns row i:=getD_mem (by omega);generalize (aH a b ns row i).getD j 0=y at hm;have hm2:y∈(aH a b ns row i).take i++(aH a b ns row i).drop i:=by rw[xS];exact hm
 rcases Wk.mp hm2 with z | z
 ·exact Wk.mpr (.inr z)
 ·exact Wk.mpr (.inl z)
theorem Bh{a b:Rat}{ns:List Int}{row:List Rat}{i j:Nat}(h:gK (turned a b ns row i))(hi:i<row.length)(hj:j<row.length)(hne:j≠i):(aH a b ns row i).getD j 0<(aH a b ns row i).getD i 0:=by
 have hl:=cJ a b ns row i;have hpw:=h.pw;rw[l8 a b ns row i (by omega),qL (by omega),ue]at hpw;have hp:=(W4.mp hpw).1;have e:(aH a b ns row i).getD i 0=(aH a b ns row i)[i]'(by omega):=by rw[wa,wc (by omega)];rfl
 rw[e];refine hp _ ?_;rw[Wk];have ej:(aH a b ns row i).getD j 0=(aH a b ns row i)[j]'(by omega):=by rw[wa,wc (by omega)];rfl
 rw[ej];rcases wB j i with z | z
 ·refine .inr (Xc.mpr ⟨j,by rw[Wn];omega,?_⟩)
  rw[XR]
 ·refine .inl (Xc.mpr ⟨j-(i+1),by rw[vU];omega,?_⟩)
  rw[XS]
  congr 1
  omega
def dA(a b:Rat)(ns:List Int)(row:List Rat)(i:Nat):Rat:=(aH a b ns row (i+1)).getD ((i+1) % row.length) 0
structure fu(xs row:List Rat)(fl:Nat->Nat)(ns:List Int):Prop where
 pl:gb xs row fl
 lF:gK row
 one:row.getD 0 0<1
 len:ns.length=row.length
 some:∀c,c<row.length->∃w,w<xs.length/\fl w=c
 size:∀c,c<row.length->(ns.getD c 0).toNat=(aZ xs.length fl c).length
theorem yA{a b:Rat}(a0:0<a)(b0:0<=b){xs row:List Rat}{fl:Nat->Nat}{ns:List Int}(h:fu xs row fl ns):∀i,i<=row.length->(∀t,t<i->dA a b ns row t<1)->gb (aj a b xs i) (aH a b ns row i) fl/\gK (turned a b ns row i)/\(i<row.length->(aH a b ns row i).getD i 0<1) /\ ∀t,t<i->cf a b (aj a b xs t)=[aZ xs.length fl t]
 | 0,_,_=>⟨h.pl,h.lF,λ_=>h.one,λt ht=>by omega⟩
 | i+1,hi,ht=>by
  obtain⟨P,F,o,W⟩:=yA a0 b0 h i (by omega) (λt ht'=>ht t (by omega));have hl:=cJ a b ns row i;have hpl:=bN a b xs i;have hi':i<row.length:=by omega
  have oi:=o hi';have ti:=ht i (by omega)
  have hne:turned a b ns row i≠[]:=λe=>by
   have:=El a b ns row (by omega) i;rw[e]at this;simp at this;omega
  obtain⟨x,l,ex⟩:∃x l,turned a b ns row i=x::l:=by
   cases e:turned a b ns row i with
   | nil=>exact absurd e hne
   | cons x l=>exact⟨x,l,rfl⟩
  have hx:x=(aH a b ns row i).getD i 0:=by
   have:=BM a b ns row hi';rw[ex]at this;exact this
  have F1:gK (turned a b ns row (i+1)):=by
   show gK (kF a b (ns.getD i 0).toNat (turned a b ns row i))
   rw[ex]at F ⊢;exact F.step a0 b0 (by rw[hx];exact oi)
  have hsz:(ns.getD i 0).toNat=(aZ (aj a b xs i).length fl i).length:=by rw[hpl];exact h.size i hi'
  have hrow:aH a b ns row (i+1)=cZ a b (aZ (aj a b xs i).length fl i).length (aH a b ns row i) i:=by rw[<- hsz];rfl
  -- the head of what is turned is the top: all others are below 1
  have headTop:(turned a b ns row (i+1)).headD 0=dA a b ns row i:=by
   unfold dA;rcases wB (i+1) row.length with z | z
   ·rw[BM a b ns row z,xk z]
   ·have e:i+1=row.length:=by omega
    rw[e,XA,l8 a b ns row _ (wo _)];have hl1:=cJ a b ns row row.length;rw[xJ (by omega),WR (by omega),Qs];cases e2:aH a b ns row row.length with
    | nil=>rw[e2]at hl1;simp at hl1;omega
    | cons y m=>rfl
  have below:∀y∈turned a b ns row (i+1),y<1:=λy hy=>by
   have hpw:=F1.pw;cases e2:turned a b ns row (i+1)with
   | nil=>rw[e2]at hy;cases hy
   | cons z m =>
    rw[e2]at hy hpw headTop
    have hz:z<1:=by
     have:z=dA a b ns row i:=headTop;rw[this];exact ti
    rcases wK.mp hy with rfl | hy
    ·exact hz
    ·have:=(W4.mp hpw).1 y hy
     have:y<z:=this
     grind
  have G:=Th (a:=a) (b:=b) (c:=i) P (by obtain⟨w,h1,h2⟩:=h.some i hi';exact⟨w,by omega,h2⟩) (λj hj hji=>Bh F hi' (by omega) hji) (λj hj hji _=>by
   have hm:=LD (a:=a) (b:=b) (ns:=ns) (row:=row) (i:=i+1) (j:=j) hi (by omega);have:=below _ hm;rw[hrow,fF _ _ _ _ _ _ hj,if_neg hji]at this;exact this)
  refine⟨by rw[hrow];exact G.2,F1,λhlt=>?_,λt ht'=>?_⟩
  ·have:=below _ (LD (a:=a) (b:=b) (ns:=ns) (row:=row) (i:=i+1) (j:=i+1) hi hlt)
   exact this
  ·rcases wB t i with z | z
   ·exact W t z
   ·have:t=i:=by omega
    subst this;have:=G.1;rw[hpl]at this;exact this
def eY(xs:List Rat)(v:Rat):List Nat:=(wq xs.length).filter λw=>decide (xs.getD w 0=v)
def hZ:Nat->List Rat->List Rat
 | 0,_=>[]
 | _+1,[]=>[]
 | n+1,x::l=>bV (x::l)::hZ n ((x::l).filter λy=>!decide (y=bV (x::l)))
def ai(xs:List Rat):List Rat:=hZ xs.length xs
theorem Co(n:Nat):hZ n []=[]:=by cases n<;>rfl
theorem mw{n:Nat}{l:List Rat}(h:l≠[]):hZ (n+1) l=bV l::hZ n (l.filter λy=>!decide (y=bV l)):=by
 cases l with
 | nil=>exact absurd rfl h
 | cons x l=>rfl
theorem IQ{l:List Rat}(h:l≠[]):(l.filter λy=>!decide (y=bV l)).length<l.length:=by
 have hm:bV l∈l:=gO (qa.mpr h);rcases wB (l.filter λy=>!decide (y=bV l)).length l.length with z | z
 ·exact z
 ·have:=List.length_filter_eq_length_iff.mp (uI (WH _ _) z) (bV l) hm
  simp at this
theorem BK:∀(n:Nat)(l:List Rat),∀y∈hZ n l,y∈l
 | 0,l,y,h=>by cases h
 | n+1,[],y,h=>by cases h
 | n+1,x::l,y,h=>by
  rw[mw (by simp)]at h;rcases wK.mp h with rfl | h
  ·exact gO (by simp)
  ·exact(ve.mp (BK n _ y h)).1
theorem ja:∀(n:Nat)(l:List Rat),(hZ n l).Pairwise (· > ·)
 | 0,l=>QY.nil
 | n+1,[]=>QY.nil
 | n+1,x::l=>by
  rw[mw (by simp)];refine W4.mpr ⟨λy hy=>?_,ja n _⟩;have hf:=ve.mp (BK n _ y hy);have h1:=JG y hf.1;have h2:¬ y=bV (x::l):=by simpa using hf.2
  show y<bV (x::l)
  exact qW h1 h2
theorem Nt:∀(n:Nat)(l:List Rat),l.length<=n->∀y∈l,y∈hZ n l
 | 0,l,h,y,hy=>by
  have:l=[]:=Qh.mp (by omega);rw[this]at hy;cases hy
 | n+1,[],h,y,hy=>by cases hy
 | n+1,x::l,h,y,hy=>by
  rw[mw (by simp)]
  by_cases z:y=bV (x::l)
  ·rw[z];exact wC ..
  ·have hl:=IQ (l:=x::l) (by simp)
   refine wy _ (Nt n _ (by omega) y (ve.mpr ⟨hy,by simp[z]⟩))
def aQ(xs:List Rat)(w:Nat):Nat:=(ai xs).idxOf (xs.getD w 0)
theorem nJ{xs:List Rat}{y:Rat}(h:y∈xs):y∈ai xs:=Nt _ _ (wo _) y h
theorem jG{xs:List Rat}{y:Rat}(h:y∈ai xs):y∈xs:=BK _ _ y h
theorem jL(xs:List Rat):gb xs (ai xs) (aQ xs):=by
 have key:∀w,w<xs.length->aQ xs w<(ai xs).length:=λw hw=>List.idxOf_lt_length_of_mem (nJ (getD_mem hw))
 refine⟨λw hw=>?_,key⟩;rw[wa (l:=ai xs),wc (key w hw)];exact(List.getElem_idxOf (key w hw)).symm
theorem Dr{xs:List Rat}{w c:Nat}(hw:w<xs.length)(hc:c<(ai xs).length):aQ xs w=c ↔ xs.getD w 0=(ai xs).getD c 0:=by
 have P:=jL xs;have e:=P.at' w hw;have hl:=P.lt w hw
 constructor
 ·rintro rfl;exact e
 ·intro h
  rw[e]at h;rcases VJ (aQ xs w) c with z | z | z
  ·have:=(Wa.mp (ja xs.length xs)) (aQ xs w) c hl hc z
   rw[wa,wc hl,wa,wc hc]at h;have h:(ai xs)[aQ xs w]=(ai xs)[c]:=h;have this:(ai xs)[c]<(ai xs)[aQ xs w]:=this;rw[h]at this;exact absurd this (by grind)
  ·exact z
  ·have:=(Wa.mp (ja xs.length xs)) c (aQ xs w) hc hl z
   rw[wa,wc hl,wa,wc hc]at h;have h:(ai xs)[aQ xs w]=(ai xs)[c]:=h;have this:(ai xs)[aQ xs w]<(ai xs)[c]:=this;rw[h]at this;exact absurd this (by grind)
theorem zuo{xs:List Rat}{c:Nat}(hc:c<(ai xs).length):aZ xs.length (aQ xs) c=eY xs ((ai xs).getD c 0):=by
 unfold aZ eY;refine vK λw hw=>?_
 exact decide_eq_decide.mpr (Dr (wG.mp hw) hc)
def aY(xs:List Rat):List Int:=(ai xs).map λv=>((eY xs v).length:Int)
theorem Mv{xs:List Rat}(nn:∀x∈xs,0<=x)(lt:∀x∈xs,x<1):fu xs (ai xs) (aQ xs) (aY xs) where
 pl:=jL xs
 lF:=⟨ja _ _,λy hy=>nn y (jG hy)⟩
 one:=by
  rcases wB 0 (ai xs).length with z | z
  ·exact lt _ (jG (getD_mem z))
  ·rw[wa,wL z];decide
 len:=by unfold aY;rw[wm]
 some:=λc hc=>by
  obtain⟨w,hw,e⟩:=wX (jG (getD_mem (d:=0) hc));refine⟨w,hw,(Dr hw hc).mpr ?_⟩;rw[wa,wc hw];exact e
 size:=λc hc=>by
  rw[zuo hc];unfold aY;rw[wa,wx,wc hc,wa,wc hc]
  rfl
theorem Kn:∀{l m:List Rat},l.Pairwise (· > ·)->m.Pairwise (· > ·)->(∀y,y∈l ↔ y∈m)->l=m
 | [],[],_,_,_=>rfl
 | [],y::m,_,_,h=>by have:=(h y).mpr (wC ..);cases this
 | x::l,[],_,_,h=>by have:=(h x).mp (wC ..);cases this
 | x::l,y::m,hl,hm,h=>by
  have pl:=W4.mp hl;have pm:=W4.mp hm
  have e:x=y:=by
   rcases wK.mp ((h x).mp (wC ..))with z | z
   ·exact z
   ·rcases wK.mp ((h y).mpr (wC ..))with z2 | z2
    ·exact z2.symm
    ·have a1:x<y:=pm.1 x z
     have a2:y<x:=pl.1 y z2
     grind
  subst e;rw[Kn pl.2 pm.2 λz=>⟨λhz=>?_,λhz=>?_⟩]
  ·rcases wK.mp ((h z).mp (wy _ hz))with e | e
   ·have:z<x:=pl.1 z hz
    rw[e]at this;exact absurd this (by grind)
   ·exact e
  ·rcases wK.mp ((h z).mpr (wy _ hz))with e | e
   ·have:z<x:=pm.1 z hz
    rw[e]at this;exact absurd this (by grind)
   ·exact e
theorem RD{ys row:List Rat}{fl:Nat->Nat}(P:gb ys row fl)(F:row.Pairwise (· > ·))(some:∀c,c<row.length->∃w,w<ys.length/\fl w=c):ai ys=row:=by
 refine Kn (ja _ _) F λy=>⟨λh=>?_,λh=>?_⟩
 ·obtain⟨w,hw,e⟩:=wX (jG h)
  have ea:=P.at' w hw;rw[wa,wc hw]at ea;have ea:ys[w]=row.getD (fl w) 0:=ea;rw[<- e,ea];exact getD_mem (P.lt w hw)
 ·obtain⟨c,hc,e⟩:=wX h
  obtain⟨w,hw,hf⟩:=some c hc;have ea:=P.at' w hw;rw[hf,wa (l:=row),wc hc]at ea;have ea:ys.getD w 0=row[c]:=ea;rw[<- e,<- ea];exact nJ (getD_mem hw)
def dZ(a b:Rat)(ns:List Int)(row:List Rat):Nat->Rat
 | 0=>0
 | k+1=>dZ a b ns row k+(1-(aH a b ns row k).getD k 0)
theorem RN{a b:Rat}(a0:0<a)(b0:0<=b){xs row:List Rat}{fl:Nat->Nat}{ns:List Int}(h:fu xs row fl ns):∀i,i<=row.length->(∀t,t<i->dA a b ns row t<1)->aP a b xs i=dZ a b ns row i
 | 0,_,_=>rfl
 | i+1,hi,ht=>by
  have ht':∀t,t<i->dA a b ns row t<1:=λt z=>ht t (by omega)
  obtain⟨P,F,_,_⟩:=yA a0 b0 h i (by omega) ht';have hpl:=bN a b xs i;have hl:=cJ a b ns row i;have hm:=oX (c:=i) P (by obtain⟨w,h1,h2⟩:=h.some i (by omega);exact⟨w,by omega,h2⟩) (λj hj hji=>Bh F (by omega) (by omega) hji);rw[aP,dZ,RN a0 b0 h i (by omega) ht',hm]
theorem YY{a b:Rat}(a0:0<a)(b0:0<=b){xs row:List Rat}{fl:Nat->Nat}{ns:List Int}(h:fu xs row fl ns){t:Nat}(ht:t<row.length)(free:∀s,s<t->dA a b ns row s<1)(up:¬ dA a b ns row t<1):1<(cf a b (aj a b xs t)).length:=by
 obtain⟨P,F,o,_⟩:=yA a0 b0 h t (by omega) free;have hpl:=bN a b xs t;have hl:=cJ a b ns row t;have hsz:(ns.getD t 0).toNat=(aZ (aj a b xs t).length fl t).length:=by rw[hpl];exact h.size t ht
 have hrow:aH a b ns row (t+1)=cZ a b (aZ (aj a b xs t).length fl t).length (aH a b ns row t) t:=by rw[<- hsz];rfl
 have hj:(t+1) % row.length<row.length:=Qe _ (by omega)
 have hne:(t+1) % row.length≠t:=λe=>by
  apply up
  unfold dA;rw[hrow,e,fF _ _ _ _ _ _ (by omega),if_pos rfl]
  decide
 obtain⟨w1,hw1,hf1⟩:=h.some _ hj;refine U2 (c:=t) P (by obtain⟨w,h1,h2⟩:=h.some t ht;exact⟨w,by omega,h2⟩) (λj hj hji=>Bh F ht (by omega) hji) (w1:=w1) (by omega) (by rw[hf1];exact hne) ?_;intro z
 apply up
 unfold dA;rw[hrow,fF _ _ _ _ _ _ (by omega),if_neg hne,<- hf1];exact z
theorem pj{a b:Rat}(a0:0<a)(b0:0<=b):∀n:Nat,0<=aB a b n
 | 0=>WS
 | n+1=>by
  have h1:=pj a0 b0 n;have h2:=QF (vW a0) h1
  show 0<=a*aB a b n+b
  grind
theorem Bv{a b:Rat}(a0:0<a)(b0:0<=b):∀(n:Nat)(ps:List Rat)(left:List Nat),left.length<=n->left.Nodup->(∀w∈left,w<ps.length)->(∀w∈left,0<=ps.getD w 0) ->
  ∀w∈(cq a b n ps left).2.1,w∈left/\0<=(cq a b n ps left).2.2.getD w 0/\(cq a b n ps left).2.2.getD w 0<1
 | 0,ps,left,hn,_,_,_=>by
  have:left=[]:=Qh.mp (by omega);subst this;intro w hw;cases (show w∈([]:List Nat)from hw)
 | n+1,ps,left,hn,nd,hlt,nn=>by
  by_cases e:aF ps left=[]
  ·rw[mM e]
   intro w hw;have hw:w∈left:=hw;refine⟨hw,nn w hw,?_⟩;have:¬ w∈aF ps left:=by rw[e];simp
   unfold aF at this;rw[ve]at this
   show ps.getD w 0<1
   by_cases z:ps.getD w 0<1
   ·exact z
   ·exact absurd ⟨hw,by simp only[z,decide_false,QE]⟩ this
  ·rw[jg e]
   have hl:=DF ps left;have hp:=qa.mpr e;have nd':(bK left (aF ps left)).Nodup:=mT nd;have lt':∀w∈bK left (aF ps left),w<(cC (a^(aF ps left).length) (aB a b (aF ps left).length) ps (bK left (aF ps left))).length:=λw hw=>by rw[g6];exact mK hlt w hw
   have ih:=Bv a0 b0 n (cC (a^(aF ps left).length) (aB a b (aF ps left).length) ps (bK left (aF ps left))) (bK left (aF ps left)) (by omega) nd' lt' (λw hw=>by
    rw[iV _ _ _ _ nd' (mK hlt),if_pos hw];have h1:=nn w (ve.mp hw).1;have h2:=QF (vW (oE a0 (aF ps left).length)) h1;have h3:=pj a0 b0 (aF ps left).length
    grind)
   intro w hw;have:=ih w hw;exact⟨(ve.mp this.1).1,this.2⟩
theorem NF{xs:List Rat}(nn:∀x∈xs,0<=x)(lt:∀x∈xs,x<1){w:Nat}(hw:w<xs.length):0<=(bA xs).getD w 0:=by
 have h1:=gO (xs:=xs) (by omega);have h2:=lt _ h1;have h3:=nn _ (getD_mem (d:=0) hw);unfold bA;rw[yl hw]
 grind
theorem KQ{a b:Rat}(a0:0<a)(b0:0<=b){xs:List Rat}(nn:∀x∈xs,0<=x)(lt:∀x∈xs,x<1):∀y∈cX a b xs,0<=y/\y<1:=λy hy=>by
 obtain⟨j,hj,e⟩:=wX hy;have hlen:=iL a b xs;have hjx:j<xs.length:=by omega
 have hpl:(dS a b xs).2.2.length=xs.length:=by
  unfold dS;rw[oj,fh]
 have e2:(cX a b xs).getD j 0=y:=by rw[wa,wc hj];exact e
 unfold cX at e2;rw[lZ (by omega)]at e2
 split at e2
 ·rename_i hm
  have:=Bv a0 b0 xs.length (bA xs) (wq xs.length) (by simp) WZ (λw hw=>by rw[fh];exact wG.mp hw) (λw hw=>NF nn lt (wG.mp hw)) j hm;rw[<- e2];exact this.2
 ·rw[<- e2];exact⟨WS,by decide⟩
theorem U5{a b:Rat}(a0:0<a)(b0:0<=b){xs:List Rat}(h1:1<=xs.length)(nn:∀x∈xs,0<=x)(lt:∀x∈xs,x<1):0∈cX a b xs:=by
 obtain⟨j,hj,e⟩:=wX (gO h1)
 have hr:(bA xs).getD j 0=1:=by
  unfold bA;rw[yl hj,wa,wc hj]
  show xs[j]+(1-bV xs)=1
  rw[e];grind
 have hend:j∈aF (bA xs) (wq xs.length):=by
  unfold aF;rw[ve];refine⟨wG.mpr hj,?_⟩;rw[hr];decide
 have hne:aF (bA xs) (wq xs.length)≠[]:=λz=>by rw[z]at hend;cases hend
 have hpl:(dS a b xs).2.2.length=xs.length:=by
  unfold dS;rw[oj,fh]
 have hnot:¬ j∈(dS a b xs).2.1:=λz=>by
  unfold dS at z;obtain⟨n,hn⟩:∃n,xs.length=n+1:=⟨xs.length-1,by omega⟩;have hl:=DF (bA xs) (wq xs.length);rw[vk]at hl;have hp:=qa.mpr hne;have z':j∈(cq a b (n+1) (bA xs) (wq xs.length)).2.1:=by rw[<- hn];exact z
  rw[jg hne]at z';have nd':(bK (wq xs.length) (aF (bA xs) (wq xs.length))).Nodup:=mT WZ;have ltr:∀w∈wq xs.length,w<(bA xs).length:=λw hw=>by rw[fh];exact wG.mp hw
  have:=Bv a0 b0 n _ _ (by omega) nd' (λw hw=>by rw[g6];exact mK ltr w hw) (λw hw=>by
   rw[iV _ _ _ _ nd' (mK ltr),if_pos hw];have h1:=NF nn lt (wG.mp (ve.mp hw).1);have h2:=QF (vW (oE a0 (aF (bA xs) (wq xs.length)).length)) h1;have h3:=pj a0 b0 (aF (bA xs) (wq xs.length)).length
   grind) j z'
  have:=(ve.mp this.1).2;simp only[hend,decide_true,Wr]at this;cases this
 have hlen:=iL a b xs
 have hg:(cX a b xs).getD j 0=0:=by
  unfold cX;rw[lZ (by omega),if_neg hnot]
 rw[<- hg];exact getD_mem (by omega)
structure cT(xs:List Rat):Prop where
 nn:∀x∈xs,0<=x
 lt:∀x∈xs,x<1
theorem cT.lH{a b:Rat}(a0:0<a)(b0:0<=b){xs:List Rat}(h:cT xs):cT (cX a b xs):=⟨λy hy=>(KQ a0 b0 h.nn h.lt y hy).1,λy hy=>(KQ a0 b0 h.nn h.lt y hy).2⟩
theorem cT.at{a b:Rat}(a0:0<a)(b0:0<=b){xs:List Rat}(h:cT xs):∀k,cT (aj a b xs k)
 | 0=>h
 | k+1=>(cT.at a0 b0 h k).lH a0 b0
theorem cT.zero{a b:Rat}(a0:0<a)(b0:0<=b){xs:List Rat}(h:cT xs)(h1:1<=xs.length){k:Nat}(hk:1<=k):0∈aj a b xs k:=by
 obtain⟨j,rfl⟩:∃j,k=j+1:=⟨k-1,by omega⟩;have:=h.at a0 b0 j;exact U5 a0 b0 (by rw[bN];exact h1) this.nn this.lt
theorem Cf{xs:List Rat}(h:cT xs)(h0:0∈xs):(ai xs).dropLast++[0]=ai xs:=by
 have hm:=nJ h0;have hne:ai xs≠[]:=λe=>by rw[e]at hm;cases hm
 have hpw:(ai xs).Pairwise (· > ·):=ja _ _
 have hl:(ai xs).getLast hne=0:=by
  have h1:=h.nn _ (jG (List.getLast_mem hne))
  have h2:(ai xs).getLast hne<=0:=by
   have e:=QG hne;rw[<- e]at hm hpw;rcases Wk.mp hm with z | z
   ·have:=(qB.mp hpw).2.2 0 z _ (vc.mpr rfl)
    exact vW this
   ·rw[<- vc.mp z];exact WS
  grind
 have:=QG hne;rw[hl]at this;exact this
theorem oS{xs:List Rat}(h1:1<=xs.length):1<=(ai xs).length:=by
 have:=nJ (getD_mem (d:=0) (show 0<xs.length by omega));exact qk this
theorem rX(xs:List Rat):(aY xs).length=(ai xs).length:=by unfold aY;rw[wm]
theorem yZ(xs:List Rat):∀n∈aY xs,0<=n:=λn hn=>by
 obtain⟨v,_,rfl⟩:=wW.mp hn;omega
structure zDc(a b:Rat)(xs:List Rat):Prop where
 iB:∀t,t<(ai xs).length->cf a b (aj a b xs t)=[eY xs ((ai xs).getD t 0)]
 vals:ai (aj a b xs (ai xs).length)=aH a b (aY xs) (ai xs) (ai xs).length
 aab:aY (aj a b xs (ai xs).length)=aY xs
 hour:aP a b xs (ai xs).length=dZ a b (aY xs) (ai xs) (ai xs).length
theorem Kq{α : Type}(g h : α -> Nat):∀l:List α,(l.map λv=>g v+h v).sum=(l.map g).sum+(l.map h).sum
 | []=>rfl
 | x::l=>by
  simp only[w9,Vd,Kq g h l];omega
theorem Ju(x:Rat):∀vs:List Rat,vs.Nodup->(vs.map λv=>if x=v then 1 else 0).sum<=1
 | [],_=>by simp
 | v::vs,nd=>by
  have⟨h1,h2⟩:=WN.mp nd;rw[w9,Vd]
  by_cases e:x=v
  ·have z:(vs.map λv=>if x=v then 1 else 0).sum=0:=by
    have:∀ws:List Rat,(∀y∈ws,x≠y)->(ws.map λv=>if x=v then 1 else 0).sum=0:=by
     intro ws
     induction ws with
     | nil=>intro _;rfl
     | cons y ws ih =>
      intro hy;rw[w9,Vd,if_neg (hy y (wC ..)),ih λz hz=>hy z (wy _ hz)]
    exact this vs λy hy z=>h1 (by rw[<- e,z];exact hy)
   rw[z,if_pos e];omega
  ·have:=Ju x vs h2
   rw[if_neg e];omega
theorem Je(f:Nat->Rat)(vs:List Rat)(nd:vs.Nodup):∀l:List Nat,(vs.map λv=>(l.filter λw=>decide (f w=v)).length).sum<=l.length
 | []=>by
  have:∀ws:List Rat,(ws.map λv=>(([]:List Nat).filter λw=>decide (f w=v)).length).sum=0:=by
   intro ws
   induction ws with
   | nil=>rfl
   | cons y ws ih=>rw[w9,Vd,ih];rfl
  rw[this];exact wo _
 | w::l=>by
  have ih:=Je f vs nd l
  have e:(vs.map λv=>((w::l).filter λw=>decide (f w=v)).length)=vs.map λv=>(if f w=v then 1 else 0)+(l.filter λw=>decide (f w=v)).length:=by
   refine Qy λv _=>?_
   rw[WY]
   by_cases z:f w=v
   ·rw[if_pos (by simp[z]),if_pos z,vo];omega
   ·rw[if_neg (by simp[z]),if_neg z];omega
  rw[e,Kq,vo];have:=Ju (f w) vs nd;omega
theorem EO(xs:List Rat):(ai xs).Nodup:=(ja xs.length xs).imp λ{x y} h=>by
 have h:y<x:=h;intro e;rw[e]at h;exact absurd h (by grind)
theorem Pf(xs:List Rat):((aY xs).map xx).sum<=xs.length:=by
 have:=Je (λw=>xs.getD w 0) (ai xs) (EO xs) (wq xs.length);rw[vk]at this
 have e:(aY xs).map xx=(ai xs).map λv=>((wq xs.length).filter λw=>decide (xs.getD w 0=v)).length:=by
  unfold aY;rw[V4];refine Qy λv _=>?_
  show((eY xs v).length:Int).toNat=_
  rw[wP];rfl
 rw[e];exact this
theorem M0(xs:List Rat):upTo (aY xs) (aY xs).length<=xs.length:=by
 unfold upTo;rw[Wx];exact Pf xs
theorem zsa(xs:List Rat):∀n∈aY xs,0<=n/\n<=xs.length:=λn hn=>by
 obtain⟨v,_,rfl⟩:=wW.mp hn
 have:(eY xs v).length<=xs.length:=by
  have:=WH (λw=>decide (xs.getD w 0=v)) (wq xs.length);rw[vk]at this;exact this
 omega
theorem jY(xs:List Rat):(ai xs).length<=xs.length:=by
 have h:∀(n:Nat)(l:List Rat),(hZ n l).length<=n:=by
  intro n
  induction n with
  | zero=>intro l;exact wo _
  | succ n ih =>
   intro l
   by_cases e:l=[]
   ·rw[e,Co];simp
   ·rw[mw e,vo]
    have:=ih (l.filter λy=>!decide (y=bV l));omega
 exact h _ _
theorem oA{m:Nat}{xs ys:List Rat}(c:Cm m xs)(h:∀y∈ys,y∈xs):Cm m ys:=c.jO λy hy=>.inl (h y hy)
theorem zc{m:Nat}{xs:List Rat}(c:Cm m xs):Cm m (ai xs).dropLast:=oA c λy hy=>jG (by rw[xT]at hy;exact List.mem_of_mem_take hy)
def Py:List Int->List Rat->List Rat
 | n::ns,x::xs=>vf n.toNat x++Py ns xs
 | _,_=>[]
structure zC6(zs:List Rat)(ns:List Int)(row:List Rat):Prop where
 perm:zs.Perm (Py ns row)
 len:ns.length=row.length
 pos:∀n∈ns,1<=n
 lF:row.Pairwise (· > ·)
theorem zym{a b:Rat}{ns:List Int}{row:List Rat}(h:row.length=1):dA a b ns row 0=0:=by
 unfold dA
 show(cZ a b _ (aH a b ns row 0) 0).getD ((0+1) % row.length) 0=0
 have hl:=cJ a b ns row 0;rw[h,XA,fF _ _ _ _ _ _ (by omega),if_pos rfl]
def seg(n:Nat)(fl:Nat->Nat)(s t:Nat):List Nat:=(wq n).filter λw=>decide (s<=fl w)&&decide (fl w<t)
theorem gL{n:Nat}{fl:Nat->Nat}{s t w:Nat} : w∈seg n fl s t ↔ w<n/\s<=fl w/\fl w<t:=by
 unfold seg;rw[ve,wG,wV,decide_eq_true_eq,decide_eq_true_eq]
theorem MN(n:Nat)(fl:Nat->Nat)(s t:Nat):(seg n fl s t).Nodup:=WZ.filter _
theorem UL{n:Nat}{fl:Nat->Nat}{s t u:Nat}(h1:s<=t)(h2:t<=u):(seg n fl s t++seg n fl t u).Perm (seg n fl s u):=by
 have e1:(seg n fl s u).filter (λw=>decide (fl w<t))=seg n fl s t:=by
  unfold seg;rw[qX];refine vK λw _=>?_
  rw[vI];simp only[wV,decide_eq_true_eq];omega
 have e2:(seg n fl s u).filter (λw=>!decide (fl w<t))=seg n fl t u:=by
  unfold seg;rw[qX];refine vK λw _=>?_
  rw[vI];simp only[wV,Vb,decide_eq_true_eq,decide_eq_false_iff_not];omega
 have:=List.filter_append_perm (λw=>decide (fl w<t)) (seg n fl s u);rw[e1,e2]at this;exact this
theorem I_(n:Nat)(fl:Nat->Nat)(s:Nat):seg n fl s s=[]:=by
 unfold seg;rw[xK];intro w _;simp only[wV,decide_eq_true_eq];omega
inductive je(n:Nat)(fl:Nat->Nat):Nat->List (List Nat)->Nat->Prop
 | nil (t:Nat):je n fl t [] t
 | cons {t u v:Nat} {ws:List (List Nat)} : t<u->je n fl u ws v->je n fl t (seg n fl t u::ws) v
theorem je.le{n:Nat}{fl:Nat->Nat}{t v:Nat}{ws:List (List Nat)}(h:je n fl t ws v):t<=v:=by
 induction h with
 | nil t=>exact wo t
 | cons h _ ih=>omega
theorem je.perm{n:Nat}{fl:Nat->Nat}{t v:Nat}{ws:List (List Nat)}(h:je n fl t ws v):ws.flatten.Perm (seg n fl t v):=by
 induction h with
 | nil t=>rw[I_];exact List.Perm.refl _
 | cons h k ih =>
  rw[VF];exact(List.Perm.append_left _ ih).trans (UL (by omega) k.le)
theorem KS(p:Nat->Prop)[DecidablePred p](t:Nat):∀m:Nat,t<=m->(∀c d,t<=c->c<=d->d<m->p d->p c)->∃u,t<=u/\u<=m /\ ∀c,t<=c->c<m->(p c ↔ c<u)
 | 0,h,_=>⟨0,h,wo 0,λc _ hc=>absurd hc (by omega)⟩
 | m+1,h,mono=>by
  rcases wB m t with z | z
  ·exact⟨m+1,h,wo _,λc h1 h2=>absurd h2 (by omega)⟩
  ·by_cases q:p m
   ·exact⟨m+1,h,wo _,λc h1 h2=>⟨λ_=>h2,λ_=>mono c m h1 (by omega) (by omega) q⟩⟩
   ·obtain⟨u,u1,u2,hu⟩:=KS p t m z (λc d h1 h2 h3=>mono c d h1 h2 (by omega))
    refine⟨u,u1,by omega,λc h1 h2=>?_⟩;rcases wB c m with y | y
    ·exact hu c h1 y
    ·have:c=m:=by omega
     subst this;exact⟨λk=>absurd k q,λk=>absurd k (by omega)⟩
theorem rV{row:List Rat}(F:row.Pairwise (· > ·)){c d:Nat}(h:c<d)(hd:d<row.length):row.getD d 0<row.getD c 0:=by
 have:=Wa.mp F c d (by omega) hd h;rw[wa,wc hd,wa,wc (by omega)];exact this
theorem Zv{row:List Rat}(F:row.Pairwise (· > ·)){c d:Nat}(h:c<=d)(hd:d<row.length):row.getD d 0<=row.getD c 0:=by
 rcases wB c d with z | z
 ·exact vW (rV F z hd)
 ·rw[show c=d by omega];exact WS
theorem J8{a b:Rat}(a0:0<a)(b0:0<=b){row:List Rat}{fl:Nat->Nat}{N:Nat}(F:row.Pairwise (· > ·)):∀(n:Nat)(ps:List Rat)(t:Nat)(A B:Rat),t<=row.length->ps.length=N->0<A->(∀w∈seg N fl t row.length,ps.getD w 0=A*row.getD (fl w) 0+B/\0<ps.getD w 0) ->
  ∃(v:Nat)(A' B':Rat),v<=row.length/\0<A'/\je N fl t (cq a b n ps (seg N fl t row.length)).1 v/\(cq a b n ps (seg N fl t row.length)).2.1=seg N fl v row.length /\
   ∀w∈seg N fl v row.length,(cq a b n ps (seg N fl t row.length)).2.2.getD w 0=A'*row.getD (fl w) 0+B'/\0<A'*row.getD (fl w) 0+B'
 | 0,ps,t,A,B,ht,hl,hA,hw=>⟨t,A,B,ht,hA,.nil t,rfl,λw h=>⟨(hw w h).1,by rw[<- (hw w h).1];exact(hw w h).2⟩⟩
 | n+1,ps,t,A,B,ht,hl,hA,hw=>by
  by_cases e:aF ps (seg N fl t row.length)=[]
  ·rw[mM e]
   exact⟨t,A,B,ht,hA,.nil t,rfl,λw h=>⟨(hw w h).1,by rw[<- (hw w h).1];exact(hw w h).2⟩⟩
  ·obtain⟨u,u1,u2,hu⟩:=KS (λc=>¬ A*row.getD c 0+B<1) t row.length ht (λc d h1 h2 h3 hp=>by
    have:=Rat.mul_le_mul_of_nonneg_left (Zv F h2 h3) (vW hA);have hp:¬ A*row.getD d 0+B<1:=hp
    show ¬ A*row.getD c 0+B<1
    grind)
   have eE:aF ps (seg N fl t row.length)=seg N fl t u:=by
    unfold aF
    have:(seg N fl t row.length).filter (λw=>!decide (ps.getD w 0<1))=(seg N fl t row.length).filter (λw=>decide (fl w<u)):=by
     refine vK λw h=>?_
     have h1:=hw w h;have h2:=gL.mp h;rw[vI,Vb,decide_eq_false_iff_not,decide_eq_true_eq,h1.1];exact hu (fl w) h2.2.1 h2.2.2
    rw[this];unfold seg;rw[qX];refine vK λw _=>?_
    rw[vI];simp only[wV,decide_eq_true_eq];omega
   have eL:bK (seg N fl t row.length) (seg N fl t u)=seg N fl u row.length:=by
    unfold bK
    have:(seg N fl t row.length).filter (λw=>!decide (w∈seg N fl t u))=(seg N fl t row.length).filter (λw=>!decide (fl w<u)):=by
     refine vK λw h=>?_
     have h2:=gL.mp h;rw[vI,Vb,Vb,decide_eq_false_iff_not,decide_eq_false_iff_not,gL]
     constructor
     ·intro k y;exact k ⟨h2.1,h2.2.1,y⟩
     ·intro k y;exact k y.2.2
    rw[this];unfold seg;rw[qX];refine vK λw _=>?_
    rw[vI];simp only[wV,Vb,decide_eq_true_eq,decide_eq_false_iff_not];omega
   have htu:t<u:=by
    rcases wB t u with z | z
    ·exact z
    ·have:u=t:=by omega
     rw[eE,this,I_]at e;exact absurd rfl e
   rw[jg e,eE,eL];have hf:=oE a0 (seg N fl t u).length;have hg:=pj a0 b0 (seg N fl t u).length;generalize a^(seg N fl t u).length=f at *;generalize aB a b (seg N fl t u).length=g at *;have hA':0<f*A:=qj hf hA
   obtain⟨v,A',B',hv,hA2,hs,hl2,hw2⟩:=J8 (fl:=fl) (N:=N) a0 b0 F n (cC f g ps (seg N fl u row.length)) u (f*A) (f*B+g) u2 (by rw[g6];exact hl) hA' (λw h=>by
    have hm:=gL.mp h;have h1:=hw w (gL.mpr ⟨hm.1,by omega,hm.2.2⟩);have h3:=qj hf h1.2;rw[iV _ _ _ _ (MN ..) (λw h=>by rw[hl];exact(gL.mp h).1),if_pos h];refine⟨by rw[h1.1];grind,by grind⟩)
   exact⟨v,A',B',hv,hA2,.cons htu hs,hl2,hw2⟩
structure kX(xs ys:List Rat)(iB:List (List Nat))(v:Nat):Prop where
 v1:1<=v
 vm:v<=(ai xs).length
 first:∃ws,iB=seg xs.length (aQ xs) 0 1::ws/\je xs.length (aQ xs) 1 ws v
 vals:∃(A B:Rat),0<A/\ai ys=((ai xs).drop v).map (λx=>A*x+B)++[0]/\(∀x∈(ai xs).drop v,0<A*x+B)
 at':gb ys (ai ys) (λw=>if aQ xs w<v then(ai xs).length-v else aQ xs w-v)
 len:ys.length=xs.length
theorem J1{l:List Rat}{v c:Nat} : (l.drop v).getD c 0=l.getD (v+c) 0:=by
 rw[wa,QR,wa]
theorem mL{xs:List Rat}{c:Nat}(hc:c<(ai xs).length):∃w,w<xs.length/\aQ xs w=c:=by
 have hm:(ai xs).getD c 0∈xs:=jG (getD_mem hc);obtain⟨w,hw,e⟩:=wX hm;refine⟨w,hw,(Dr hw hc).mpr ?_⟩;rw[wa,wc hw];exact e
theorem DM{a b:Rat}(a0:0<a)(b0:0<=b){xs:List Rat}(h1:1<=xs.length)(nn:∀x∈xs,0<=x)(lt:∀x∈xs,x<1):∃v,kX xs (cX a b xs) (cf a b xs) v:=by
 have P:=jL xs;have F:(ai xs).Pairwise (· > ·):=ja xs.length xs;have m1:=oS h1;have top:∀j,j<(ai xs).length->j≠0->(ai xs).getD j 0<(ai xs).getD 0 0:=λj hj h0=>rV F (by omega) hj
 have he:=Di P (mL m1) top;have hmax:=oX P (mL m1) top;have hmx1:bV xs<1:=lt _ (gO h1)
 have e01:aZ xs.length (aQ xs) 0=seg xs.length (aQ xs) 0 1:=by
  unfold aZ seg;refine vK λw _=>?_
  rw[vI];simp only[wV,decide_eq_true_eq];omega
 rw[e01]at he
 have hr:wq xs.length=seg xs.length (aQ xs) 0 (ai xs).length:=by
  unfold seg
  symm
  rw[Xk];intro w hw;have:=P.lt w (wG.mp hw);simp only[wV,decide_eq_true_eq];omega
 have hne:aF (bA xs) (wq xs.length)≠[]:=λe=>by
  obtain⟨w,hw,hf⟩:=mL m1;rw[he]at e;have:w∈seg xs.length (aQ xs) 0 1:=gL.mpr ⟨hw,by omega,by omega⟩;rw[e]at this;cases this
 obtain⟨n,hn⟩:∃n,xs.length=n+1:=⟨xs.length-1,by omega⟩
 have eL:bK (wq xs.length) (seg xs.length (aQ xs) 0 1)=seg xs.length (aQ xs) 1 (ai xs).length:=by
  unfold bK seg;refine vK λw hw=>?_
  have h2:=P.lt w (wG.mp hw);rw[vI,Vb,decide_eq_false_iff_not]
  have:w∈(wq xs.length).filter (λw=>decide (0<=aQ xs w)&&decide (aQ xs w<1)) ↔ aQ xs w<1:=by
   rw[ve,wV,decide_eq_true_eq,decide_eq_true_eq];exact⟨λh=>h.2.2,λh=>⟨hw,by omega,h⟩⟩
  rw[this];simp only[wV,decide_eq_true_eq];omega
 have hf:=oE a0 (seg xs.length (aQ xs) 0 1).length;have hg:=pj a0 b0 (seg xs.length (aQ xs) 0 1).length
 have eR:dS a b xs=(seg xs.length (aQ xs) 0 1::(cq a b n (cC (a^(seg xs.length (aQ xs) 0 1).length) (aB a b (seg xs.length (aQ xs) 0 1).length) (bA xs) (seg xs.length (aQ xs) 1 (ai xs).length)) (seg xs.length (aQ xs) 1 (ai xs).length)).1,(cq a b n (cC (a^(seg xs.length (aQ xs) 0 1).length) (aB a b (seg xs.length (aQ xs) 0 1).length) (bA xs) (seg xs.length (aQ xs) 1 (ai xs).length)) (seg xs.length (aQ xs) 1 (ai xs).length)).2):=by
  unfold dS;have e:cq a b xs.length (bA xs) (wq xs.length)=cq a b (n+1) (bA xs) (wq xs.length):=by rw[<- hn]
  rw[e,jg hne,he,eL]
 generalize a^(seg xs.length (aQ xs) 0 1).length=f at *;generalize aB a b (seg xs.length (aQ xs) 0 1).length=g at *
 obtain⟨v,A,B,hv,hA,hs,hl2,hw2⟩:=J8 (fl:=aQ xs) (N:=xs.length) a0 b0 F n (cC f g (bA xs) (seg xs.length (aQ xs) 1 (ai xs).length)) 1 f (f*(1-bV xs)+g) m1 (by rw[g6,fh]) hf (λw h=>by
  have hm:=gL.mp h;rw[iV _ _ _ _ (MN ..) (λw h=>by rw[fh];exact(gL.mp h).1),if_pos h]
  have e:(bA xs).getD w 0=(ai xs).getD (aQ xs w) 0+(1-bV xs):=by
   unfold bA;rw[yl hm.1,P.at' w hm.1]
  have hx:=nn _ (getD_mem (d:=0) hm.1);rw[P.at' w hm.1]at hx;have h3:=qj hf (show 0<(ai xs).getD (aQ xs w) 0+(1-bV xs) by grind);rw[e];exact⟨by grind,by grind⟩)
 have v1:=hs.le
 have ePh:∀w,w<xs.length->(cX a b xs).getD w 0=if aQ xs w<v then 0 else A*(ai xs).getD (aQ xs w) 0+B:=λw hw=>by
  have hpl:(dS a b xs).2.2.length=xs.length:=by unfold dS;rw[oj,fh]
  unfold cX;rw[lZ (by omega),eR]
  show(if w∈(cq a b n _ _).2.1 then _ else _)=_
  rw[hl2]
  by_cases z:aQ xs w<v
  ·rw[if_neg (λh=>by have:=(gL.mp h).2.1;omega),if_pos z]
  ·have hmem:w∈seg xs.length (aQ xs) v (ai xs).length:=gL.mpr ⟨hw,by omega,P.lt w hw⟩
   rw[if_pos hmem,if_neg z];exact(hw2 w hmem).1
 have posd:∀x∈(ai xs).drop v,0<A*x+B:=λx hx=>by
  obtain⟨c,hc,e⟩:=wX hx;rw[vU]at hc;obtain⟨w,hw,hfw⟩:=mL (xs:=xs) (c:=v+c) (by omega);have:=(hw2 w (gL.mpr ⟨hw,by omega,P.lt w hw⟩)).2;rw[hfw,<- J1,wa,wc (by rw[vU];omega)]at this;rw[<- e];exact this
 have rlen:(((ai xs).drop v).map (λx=>A*x+B)++[0]).length=(ai xs).length-v+1:=by simp
 have rget:∀c,c<(ai xs).length-v->(((ai xs).drop v).map (λx=>A*x+B)++[0]).getD c 0=A*(ai xs).getD (v+c) 0+B:=λc hc=>by
  rw[wa,vR (by simp;omega),<- wa,yl (by rw[vU];omega),J1]
 have rlast:(((ai xs).drop v).map (λx=>A*x+B)++[0]).getD ((ai xs).length-v) 0=0:=by
  rw[wa,vv (by simp)];simp
 have P2:gb (cX a b xs) (((ai xs).drop v).map (λx=>A*x+B)++[0]) (λw=>if aQ xs w<v then(ai xs).length-v else aQ xs w-v):=by
  refine⟨λw hw=>?_,λw hw=>?_⟩
  ·rw[iL]at hw
   rw[ePh w hw];have:=P.lt w hw
   by_cases z:aQ xs w<v
   ·simp only[z,if_true]
    exact rlast.symm
   ·simp only[z,if_false]
    rw[rget _ (by omega),show v+(aQ xs w-v)=aQ xs w by omega]
  ·rw[iL]at hw
   have:=P.lt w hw;rw[rlen]
   show(if aQ xs w<v then _ else _)<_
   split<;>omega
 have F2:(((ai xs).drop v).map (λx=>A*x+B)++[0]).Pairwise (· > ·):=by
  rw[qB];refine⟨?_,xp _ _,λx hx y hy=>?_⟩
  ·rw[qm]
   refine(Uv F).imp λ{x y} h=>?_
   have:=Rat.mul_lt_mul_of_pos_left (show y<x from h) hA
   show A*y+B<A*x+B
   grind
  ·obtain⟨z,hz,rfl⟩:=wW.mp hx
   rw[vc.mp hy];exact posd z hz
 have eV:ai (cX a b xs)=((ai xs).drop v).map (λx=>A*x+B)++[0]:=RD P2 F2 λc hc=>by
  rw[rlen]at hc;rcases wB c ((ai xs).length-v)with z | z
  ·obtain⟨w,hw,hfw⟩:=mL (xs:=xs) (c:=v+c) (by omega)
   refine⟨w,by rw[iL];exact hw,?_⟩
   show(if aQ xs w<v then _ else _)=_
   rw[hfw,if_neg (by omega)];omega
  ·obtain⟨w,hw,hfw⟩:=mL m1
   refine⟨w,by rw[iL];exact hw,?_⟩
   show(if aQ xs w<v then _ else _)=_
   rw[hfw,if_pos (by omega)];omega
 refine⟨v,v1,hv,⟨_,by unfold cf;rw[eR],hs⟩,⟨A,B,hA,eV,posd⟩,by rw[eV];exact P2,iL ..⟩
def j6(xs:List Rat):List (List Nat):=(ai xs).map (eY xs)
theorem iI(xs:List Rat):(j6 xs).length=(ai xs).length:=wm ..
theorem OJ{ys row:List Rat}{fl:Nat->Nat}(P:gb ys row fl)(F:row.Pairwise (· > ·)){c:Nat}(hc:c<row.length):eY ys (row.getD c 0)=aZ ys.length fl c:=by
 unfold eY aZ;refine vK λw hw=>?_
 have hw:=wG.mp hw;rw[vI,decide_eq_true_eq,decide_eq_true_eq,P.at' w hw]
 constructor
 ·intro h
  rcases VJ (fl w) c with z | z | z
  ·have:=rV F z hc;rw[h]at this;exact absurd this (by grind)
  ·exact z
  ·have:=rV F z (P.lt w hw);rw[h]at this;exact absurd this (by grind)
 ·rintro rfl;rfl
theorem zqF{xs:List Rat}{c:Nat}(hc:c<(ai xs).length):(j6 xs).getD c []=seg xs.length (aQ xs) c (c+1):=by
 have h:=OJ (jL xs) (ja xs.length xs) hc;unfold j6;rw[wa,wx,wc hc]
 show eY xs (ai xs)[c]=_
 rw[wa,wc hc]at h;have h:eY xs (ai xs)[c]=_:=h;rw[h];unfold aZ seg;refine vK λw _=>?_
 rw[vI];simp only[wV,decide_eq_true_eq];omega
theorem kX.new{xs ys:List Rat}{iB:List (List Nat)}{v:Nat}(J:kX xs ys iB v):j6 ys=(j6 xs).drop v++[seg xs.length (aQ xs) 0 v]:=by
 obtain⟨A,B,hA,eV,pos⟩:=J.vals;have F2:(ai ys).Pairwise (· > ·):=ja ys.length ys;have hlen:(ai ys).length=(ai xs).length-v+1:=by rw[eV];simp
 have v1:=J.v1;have vm:=J.vm;refine Vj (by rw[iI,hlen,wT,vU,iI];rfl) λc h1 h2=>?_
 rw[iI,hlen]at h1
 have e1:(j6 ys)[c]'(by rw[iI];omega)=aZ xs.length (λw=>if aQ xs w<v then(ai xs).length-v else aQ xs w-v) c:=by
  have:=OJ J.at' F2 (c:=c) (by omega);rw[J.len]at this;rw[<- this];unfold j6;rw[Vk,wa,wc (by omega)]
  rfl
 rw[e1];rcases wB c ((ai xs).length-v)with z | z
 ·rw[List.getElem_append_left (by rw[vU,iI];omega),XS]
  have hg:=zqF (xs:=xs) (c:=v+c) (by omega);rw[wa,wc (by rw[iI];omega)]at hg;have hg:(j6 xs)[v+c]'(by rw[iI];omega)=_:=hg;rw[hg];unfold aZ seg;refine vK λw hw=>?_
  have:=(jL xs).lt w (wG.mp hw);rw[vI];simp only[wV,decide_eq_true_eq]
  split<;>omega
 ·rw[List.getElem_append_right (by rw[vU,iI];omega)]
  have hc:c=(ai xs).length-v:=by omega
  simp only[List.getElem_singleton];unfold aZ seg;refine vK λw hw=>?_
  have:=(jL xs).lt w (wG.mp hw);rw[vI];simp only[wV,decide_eq_true_eq]
  split<;>omega
theorem kX.perm{xs ys:List Rat}{iB:List (List Nat)}{v:Nat}(J:kX xs ys iB v):iB.flatten.Perm (seg xs.length (aQ xs) 0 v):=by
 obtain⟨ws,e,s⟩:=J.first;rw[e];exact(je.cons (by decide) s).perm
theorem kX.more{xs ys:List Rat}{iB:List (List Nat)}{v:Nat}(J:kX xs ys iB v):1<iB.length ↔ 1<v:=by
 obtain⟨ws,e,s⟩:=J.first;rw[e];cases s with
 | nil=>simp
 | cons h k=>have:=k.le;simp;omega
theorem A7(F s:Rat):∀n:Nat,aB F s n=aB F 1 n*s
 | 0=>by show(0:Rat)=0*s;rw[Rat.zero_mul]
 | n+1=>by
  show F*aB F s n+s=(F*aB F 1 n+1)*s
  rw[A7 F s n]
  grind
theorem ye{k:Nat}{F:Rat}(h:ag k F):∀i:Nat,∃T:Int,aB F 1 i=wz T ((F.den:Int)^i)/\Bd ((k+1)*i+1) T/\Bd (k*i+1) ((F.den:Int)^i)
 | 0=>⟨0,by simp[aB],⟨by simp⟩,⟨by simp⟩⟩
 | i+1=>by
  obtain⟨T,e,bT,bd⟩:=ye h i;have hd:(F.den:Int)^i≠0:=qf (gu F);have hd1:(F.den:Int)^(i+1)≠0:=qf (gu F);have ed:(F.den:Int)^(i+1)=(F.den:Int)^i*(F.den:Int):=V3 ..
  have bd1:Bd (k*(i+1)+1) ((F.den:Int)^(i+1)):=by
   rw[ed];exact(bd.mul h.b).mono (by rw[qU];omega)
  refine⟨F.num*T+(F.den:Int)^(i+1),?_,?_,bd1⟩
  ·symm
   refine fJ hd1 ?_
   show(F*aB F 1 i+1)*_=_
   rw[e];have k1:=cD T hd;have k2:=jK F
   have e1:((F.num*T+(F.den:Int)^(i+1):Int):Rat)=(F.num:Rat)*(T:Rat)+(((F.den:Int)^(i+1):Int):Rat):=by
    rw[qK,vO]
   rw[e1,<- k1,<- k2,ed,vO];generalize (((F.den:Int)^i:Int):Rat)=D;generalize ((F.den:Int):Rat)=d;generalize wz T ((F.den:Int)^i)=y
   grind
  ·have h1:(k+1)*(i+1)=(k+1)*i+(k+1):=qU ..
   have h2:k*(i+1)<=(k+1)*i+k:=by rw[qU];have:=Wb i (show k<=k+1 by omega);omega
   exact((h.t.mul bT).add bd1).mono (by omega)
theorem Ki{k:Nat}{F:Rat}(h:ag k F)(i:Nat):ag ((k+1)*i+1) (aB F 1 i):=by
 obtain⟨T,e,bT,bd⟩:=ye h i;rw[e];exact ag.divInt (qf (gu F)) bT (bd.mono (by have:=Wb i (show k<=k+1 by omega);omega))
def fg(F s:Rat)(n:Nat)(x:Rat):Rat:=F^n*x+aB F 1 n*s
theorem oH(F s:Rat)(n:Nat)(x:Rat):fg F s n x=push F s n x:=by
 unfold fg;rw[gB,<- A7]
theorem zxq(F s:Rat)(m n:Nat)(x:Rat):fg F s (m+n) x=fg F s n (fg F s m x):=by
 rw[oH,oH,oH,zxJ]
theorem Z9(F s x:Rat):fg F s 0 x=x:=by rw[oH];rfl
theorem zxv(F s x:Rat):fg F s 1 x=F*x+s:=by rw[oH];rfl
theorem NY{F s r:Rat}(h:r*(1-F)=s):∀k:Nat,aB F s k=r-F^k*r
 | 0=>by rw[qw,xH];show(0:Rat)=r-r;grind
 | k+1=>by
  show F*aB F s k+s=_
  rw[NY h k,WQ]
  grind
theorem Zd{F s r:Rat}(h:r*(1-F)=s)(n:Nat)(x:Rat):fg F s n x=r+F^n*(x-r):=by
 unfold fg;rw[<- A7,NY h]
 grind
theorem Cm.Sx{m:Nat}{h:Rat}{xs:List Rat}{a b:Rat}(c:Cm m (h::xs))(ba:ag 10 a)(bb:ag 10 b)(n i:Nat):Cm (m+2+21*n) ((h+(1-xs.getD i 0))::cZ a b n xs i):=by
 obtain⟨B,h0,h1,h2⟩:=c
 have hz:∃z:Int,xs.getD i 0=wz z B/\Bd m z:=by
  rcases wB i xs.length with q | q
  ·rw[wa,wc q]
   exact h2 _ (wy _ (vJ q))
  ·rw[wa,wL q]
   exact⟨0,by simp,⟨by simp;exact Wf m⟩⟩
 obtain⟨z,ez,hz⟩:=hz;have key:=λ(t:Int)(ht:Bd m t)=>pH ba bb h0 (show Bd (m+2) (t+B-z)from((ht.add h1).sub hz).mono (by omega)) (h1.mono (by omega)) n
 have e2:∀t:Int,wz t B+(1-xs.getD i 0)=wz (t+B-z) B:=λt=>by
  rw[ez]
  symm
  refine fJ (by omega) ?_;have q1:=cD t (show B≠0 by omega);have q2:=cD z (show B≠0 by omega);have q3:((t+B-z:Int):Rat)=(t:Rat)+(B:Rat)-(z:Rat):=by push_cast;rfl
  rw[q3,<- q1,<- q2]
  grind
 obtain⟨p1,p2,_⟩:=key 0 ⟨by simp;exact Wf m⟩;refine⟨_,p1,p2,λx hx=>?_⟩;rcases wK.mp hx with rfl | hx
 ·obtain⟨t,et,ht⟩:=h2 h (wC ..)
  have hd:(0:Int)<((a.den:Int)*(b.den:Int))^n:=X5 (vN (den_pos a) (den_pos b));refine⟨(t+B-z)*((a.den:Int)*(b.den:Int))^n,?_,sC ba bb (((ht.add h1).sub hz).mono (by omega)) n⟩;rw[et,e2 t];exact pX h0 hd
 ·have hx':x=0 \/ ∃y∈xs,x=push a b n (y+(1-xs.getD i 0)):=by
   unfold cZ at hx;rcases xb hx with q | q
   ·obtain⟨y,hy,rfl⟩:=wW.mp q
    exact .inr ⟨y,hy,rfl⟩
   ·exact .inl q
  rcases hx' with rfl | ⟨y,hy,rfl⟩
  ·exact⟨0,by simp,⟨by simp;exact Wf _⟩⟩
  ·obtain⟨t,rfl,ht⟩:=h2 y (wy _ hy)
   obtain⟨_,_,T,e,hT⟩:=key t ht;rw[e2 t];exact⟨T,e,hT⟩
theorem Cm.AI{m:Nat}{xs:List Rat}{a b:Rat}{ns:List Int}(c:Cm m xs)(ba:ag 10 a)(bb:ag 10 b):∀k,k<=ns.length->Cm (m+2*k+21*upTo ns k) (dZ a b ns xs k::aH a b ns xs k)
 | 0,_=>(c.mono (by omega)).jO λy hy=>by
  rcases wK.mp hy with rfl | hy
  ·exact .inr rfl
  ·exact .inl hy
 | k+1,hk=>by
  have:=(Cm.AI c ba bb (ns:=ns) k (by omega)).Sx ba bb (ns.getD k 0).toNat k;rw[aH,dZ];refine this.mono ?_;rw[oN (by omega)];omega
def fc(c:Rat)(xs ys:List Rat):List Rat:=List.zipWith (λx y=>x+c*(y-x)) xs ys
theorem m8{c:Rat}{xs ys:List Rat}(h:xs.length=ys.length):(fc c xs ys).length=xs.length:=by unfold fc;rw[Xl];omega
theorem lu{c:Rat}{xs ys:List Rat}(h:xs.length=ys.length){i:Nat}(hi:i<xs.length):(fc c xs ys).getD i 0=xs.getD i 0+c*(ys.getD i 0-xs.getD i 0):=by
 unfold fc;rw[wa,wc (by rw[Xl];omega),List.getElem_zipWith,wa,wc hi,wa,wc (by omega)]
 rfl
theorem kh{xs ys:List Rat}(hl:xs.length=ys.length)(h:∀i,i<xs.length->xs.getD i 0=ys.getD i 0):xs=ys:=Vj hl λi h1 h2=>by
 have:=h i h1;rw[wa,wa,wc h1,wc h2]at this;exact this
theorem Yk(a b:Rat)(n:Nat)(c:Rat){xs ys:List Rat}(h:xs.length=ys.length){i:Nat}(hi:i<xs.length):cZ a b n (fc c xs ys) i=fc c (cZ a b n xs i) (cZ a b n ys i):=by
 have hl:=m8 (c:=c) h;refine kh (by rw[gI,hl,m8 (by rw[gI,gI];exact h),gI]) λj hj=>?_
 rw[gI,hl]at hj;have hg:=lu (c:=c) (xs:=cZ a b n xs i) (ys:=cZ a b n ys i) (by rw[gI,gI];exact h) (i:=j) (by rw[gI];exact hj);rw[hg,fF _ _ _ _ _ _ (by omega),fF _ _ _ _ _ _ hj,fF _ _ _ _ _ _ (show j<ys.length by omega)]
 by_cases z:j=i
 ·rw[if_pos z,if_pos z,if_pos z];grind
 ·rw[if_neg z,if_neg z,if_neg z,lu h hj,lu h hi,gB,gB,gB]
  grind
theorem Jd(a b:Rat)(ns:List Int)(c:Rat){xs ys:List Rat}(h:xs.length=ys.length):∀k,k<=xs.length->aH a b ns (fc c xs ys) k=fc c (aH a b ns xs k) (aH a b ns ys k)
 | 0,_=>rfl
 | k+1,hk=>by
  have ih:=Jd a b ns c h k (by omega);rw[aH,ih,aH,aH];exact Yk a b _ c (by rw[cJ,cJ];exact h) (by rw[cJ];omega)
theorem LR(a b:Rat)(ns:List Int)(c:Rat){xs ys:List Rat}(h:xs.length=ys.length):∀k,k<=xs.length->dZ a b ns (fc c xs ys) k=dZ a b ns xs k+c*(dZ a b ns ys k-dZ a b ns xs k)
 | 0,_=>by show(0:Rat)=0+c*(0-0);grind
 | k+1,hk=>by
  rw[dZ,dZ,dZ,LR a b ns c h k (by omega),Jd a b ns c h k (by omega),lu (by rw[cJ,cJ];exact h) (by rw[cJ];omega)]
  grind
theorem zxF(c:Rat){xs ys:List Rat}(h:xs.length=ys.length):fc c (xs++[0]) (ys++[0])=fc c xs ys++[0]:=by
 unfold fc;rw[List.zipWith_append h]
 show _++[0+c*(0-0)]=_
 congr 2
 grind
def eQ(a b:Rat)(ns:List Int)(xs:List Rat):Rat:=dZ a b ns (xs++[0]) ns.length
theorem zxU{a b:Rat}{ns:List Int}(c:Rat){xs ys:List Rat}(hn:ns.length=xs.length+1)(h:xs.length=ys.length):eQ a b ns (fc c xs ys)=eQ a b ns xs+c*(eQ a b ns ys-eQ a b ns xs):=by
 unfold eQ;rw[<- zxF c h];exact LR a b ns c (by simp[h]) _ (by simp;omega)
def sumTo(f:Nat->Rat):Nat->Rat
 | 0=>0
 | n+1=>sumTo f n+f n
theorem tG{f g:Nat->Rat} : ∀n,(∀k,k<n->f k=g k)->sumTo f n=sumTo g n
 | 0,_=>rfl
 | n+1,h=>by rw[sumTo,sumTo,tG n λk hk=>h k (by omega),h n (by omega)]
theorem Cd(c:Rat)(f:Nat->Rat):∀n,sumTo (λk=>c*f k) n=c*sumTo f n
 | 0=>by show(0:Rat)=c*0;grind
 | n+1=>by rw[sumTo,sumTo,Cd c f n];grind
theorem IW(f g:Nat->Rat):∀n,sumTo (λk=>f k+g k) n=sumTo f n+sumTo g n
 | 0=>by show(0:Rat)=0+0;grind
 | n+1=>by rw[sumTo,sumTo,sumTo,IW f g n];grind
theorem PD(F:Rat):∀n,sumTo (λk=>F^k) n=aB F 1 n
 | 0=>rfl
 | n+1=>by
  rw[sumTo,PD F n]
  have:∀m,aB F 1 m*F+1=aB F 1 m+F^m:=λm=>by
   induction m with
   | zero=>rw[qw];show(0:Rat)*F+1=0+1;grind
   | succ m ih =>
    show(F*aB F 1 m+1)*F+1=(F*aB F 1 m+1)+F^(m+1)
    rw[WQ]
    grind
  have:=this n
  show aB F 1 n+F^n=F*aB F 1 n+1
  grind
theorem OB{a b:Rat}{ns:List Int}{L:Nat}(hn:ns.length=L+1)(X:Nat->List Rat)(hX:∀k,(X k).length=L):∀(n:Nat)(M:List Rat),1<=n->M.length=L->(∀i,i<L->M.getD i 0*((n:Int):Rat)=sumTo (λk=>(X k).getD i 0) n)->((n:Int):Rat)*eQ a b ns M=sumTo (λk=>eQ a b ns (X k)) n
 | 0,M,h,_,_=>by omega
 | n+1,M,_,hM,hs=>by
  have en:(((n+1:Nat):Int):Rat)=((n:Int):Rat)+1:=by push_cast;rfl
  by_cases z:n=0
  ·subst z
   have e1:(((0+1:Nat):Int):Rat)=1:=by decide
   have:M=X 0:=kh (by rw[hM,hX]) λi hi=>by
    have:=hs i (by omega);rw[e1]at this;have e2:sumTo (λk=>(X k).getD i 0) (0+1)=(X 0).getD i 0:=by rw[sumTo,sumTo];grind
    rw[e2]at this
    grind
   rw[this,e1]
   show 1*eQ a b ns (X 0)=0+eQ a b ns (X 0)
   grind
  ·have hn0:((n:Int):Rat)≠0:=λe=>z (by have:=Vf.mp e;omega)
   have hn1:((n:Int):Rat)+1≠0:=λe=>by
    rw[<- en]at e;have:=Vf.mp e;omega
   -- the means of the first ones
   let M':List Rat:=(wq L).map λi=>sumTo (λk=>(X k).getD i 0) n / ((n:Int):Rat)
   have hl':M'.length=L:=by simp[M']
   have g':∀i,i<L->M'.getD i 0=sumTo (λk=>(X k).getD i 0) n / ((n:Int):Rat):=λi hi=>by
    show((wq L).map λi=>sumTo (λk=>(X k).getD i 0) n / ((n:Int):Rat)).getD i 0=_
    rw[wa,wx,vQ hi];rfl
   have ih:=OB (a:=a) (b:=b) hn X hX n M' (by omega) hl' λi hi=>by rw[g' i hi];exact W3 hn0
   have eM:M=fc (1 / (((n:Int):Rat)+1)) M' (X n):=kh (by rw[hM,m8 (by rw[hl',hX]),hl']) λi hi=>by
    rw[lu (by rw[hl',hX]) (by omega),g' i (by omega)];have h1:=hs i (by omega);rw[en,sumTo]at h1;generalize sumTo (λk=>(X k).getD i 0) n=S at *;generalize (X n).getD i 0=y at *;generalize M.getD i 0=m at *;generalize ((n:Int):Rat)=N at *;have k1:S / N*N=S:=W3 hn0;have k2:1 / (N+1)*(N+1)=1:=W3 hn1;generalize S / N=q at *;generalize 1 / (N+1)=r at *;have:(m-(q+r*(y-q)))*(N+1)=0:=by grind
    rcases uG.mp this with h | h
    ·grind
    ·exact absurd h hn1
   rw[eM,zxU _ (by omega) (by rw[hl',hX]),sumTo,<- ih,en];generalize eQ a b ns M'=A;generalize eQ a b ns (X n)=B;generalize ((n:Int):Rat)=N at *;have k2:1 / (N+1)*(N+1)=1:=W3 hn1;generalize 1 / (N+1)=r at *
   grind
end GM
namespace L2
open PySem PySem.Spec PyProof.Rows GM
section
variable{K:wb}{H H' H2:Hp}{a p:wf}{xs ys:List V}{o:HO}
theorem ah.upd(h:H p=none):ah H (upd H p o):=λb u e=>by
 rw[dU (jj e h)];exact e
theorem ah.jx(s:ah H H')(h:aR K H a xs):aR K H' a xs:=by
 rcases h with(h | ⟨o,h⟩) | h
 ·exact .inl (.inl (s _ _ h))
 ·exact .inl (.inr ⟨o,s _ _ h⟩)
 ·exact .inr h
structure bG(H H':Hp):Prop where
 t:∀b xs,H b=some (.tup xs)->H' b=some (.tup xs)
 f:∀b o u,H b=some (.fb o u)->H' b=some (.fb o u)
theorem ah.keep(s:ah H H'):bG H H':=⟨λb xs h=>s _ _ h,λb o u h=>s _ _ h⟩
theorem bG.trans(a:bG H H')(b:bG H' H2):bG H H2:=⟨λc xs h=>b.t _ _ (a.t _ _ h),λc o u h=>b.f _ _ _ (a.f _ _ _ h)⟩
theorem bG.jx(k:bG H H')(h:aR K H a xs):aR K H' a xs:=by
 rcases h with(h | ⟨o,h⟩) | h
 ·exact .inl (.inl (k.t _ _ h))
 ·exact .inl (.inr ⟨o,k.f _ _ _ h⟩)
 ·exact .inr h
def g9(K:wb)(H:Hp)(a:wf)(xs:List V):Prop :=
 (∃o,H a=some (.fb o (.lst xs))) \/
  ∃(o:Obj)(its:Array we)(n:Nat),K.lookup a=some o/\o.cls=.type "list"/\o.dict=none/\o.data=.seq its n/\its.size<=wZ/\aM xs its.toList
theorem g9.sq(h:g9 K H a xs):aK K H a xs:=by
 rcases h with⟨o,h⟩ | h
 ·exact .inl (.inr ⟨o,h⟩)
 ·exact .inr h
theorem bG.Jv(k:bG H H')(h:g9 K H a xs):g9 K H' a xs:=by
 rcases h with⟨o,h⟩ | h
 ·exact .inl ⟨o,k.f _ _ _ h⟩
 ·exact .inr h
def Exc(p:wf)(H H':Hp):Prop:=∀b o,b≠p->H b=some o->H' b=some o
theorem Exc.keep(e:Exc p H H')(h:H p=some (.lst xs)):bG H H' :=
 ⟨λb ys hb=>e b _ (IV hb h (by intro z;cases z)) hb,λb o u hb=>e b _ (IV hb h (by intro z;cases z)) hb⟩
theorem ah.exc(s:ah H H'):Exc p H H':=λb o _ h=>s b o h
theorem Exc.refl(p:wf)(H:Hp):Exc p H H:=λ_ _ _ h=>h
theorem Exc.trans(a:Exc p H H')(b:Exc p H' H2):Exc p H H2:=λc o n h=>b c o n (a c o n h)
theorem Exc.upd(p:wf)(H:Hp)(o:HO):Exc p H (upd H p o):=λb u n h=>by
 rw[dU n];exact h
theorem Exc.at(e:Exc p H H'){q:wf}{u:HO}(n:q≠p)(h:H q=some u):H' q=some u:=e q u n h
end
mutual
def Is(K:wb)(H:Hp):V->wD->Prop
 | v,.none=>v=.bj
 | v,.bool b=>v=.bl b
 | v,.int i=>v=.int i
 | v,.str x=>v=.str x
 | v,.tuple ds=>∃a xs,v=.ref a/\aR K H a xs/\ak K H xs ds
 | v,.list ds=>∃a xs,v=.ref a/\aK K H a xs/\ak K H xs ds
 | v,.dict _=>∃a kvs,v=.ref a/\H a=some (.dK kvs)
def ak(K:wb)(H:Hp):List V->List wD->Prop
 | xs,[]=>xs=[]
 | xs,d::ds=>∃x r,xs=x::r/\Is K H x d/\ak K H r ds
end
section
variable{K:wb}{H H':Hp}{v:V}{xs:List V}{ds:List wD}{d:wD}
theorem cc{i:Int} : Is K H v (.int i) ↔ v=.int i:=by rw[Is]
theorem kf{b:Bool} : Is K H v (.bool b) ↔ v=.bl b:=by rw[Is]
theorem iU{x:Str} : Is K H v (.str x) ↔ v=.str x:=by rw[Is]
theorem l_:Is K H v .none ↔ v=.bj:=by rw[Is]
theorem bM:Is K H v (.tuple ds) ↔ ∃a xs,v=.ref a/\aR K H a xs/\ak K H xs ds:=by rw[Is]
theorem cB:Is K H v (.list ds) ↔ ∃a xs,v=.ref a/\aK K H a xs/\ak K H xs ds:=by rw[Is]
theorem zZ{kv:List (wD × wD)} : Is K H v (.dict kv) ↔ ∃a kvs,v=.ref a/\H a=some (.dK kvs):=by rw[Is]
theorem fO:ak K H xs [] ↔ xs=[]:=by rw[ak]
theorem dC:ak K H xs (d::ds) ↔ ∃x r,xs=x::r/\Is K H x d/\ak K H r ds:=by rw[ak]
theorem ak.cons(h:Is K H v d)(t:ak K H xs ds):ak K H (v::xs) (d::ds):=dC.mpr ⟨v,xs,rfl,h,t⟩
theorem ak.nil:ak K H [] []:=fO.mpr rfl
theorem ak.length:∀{ds:List wD}{xs:List V},ak K H xs ds->xs.length=ds.length
 | [],_,h=>by rw[fO.mp h];rfl
 | d::ds,_,h=>by
  obtain⟨x,r,rfl,_,t⟩:=dC.mp h;rw[vo,vo,ak.length t]
theorem ak.get:∀{ds:List wD}{xs:List V}{i:Nat}{d:wD},ak K H xs ds->ds[i]? = some d->∃x,xs[i]? = some x/\Is K H x d
 | [],_,_,_,_,e=>by simp at e
 | d::ds,_,0,_,h,e=>by
  obtain⟨x,r,rfl,q,_⟩:=dC.mp h;simp at e;subst e;exact⟨x,rfl,q⟩
 | d::ds,_,i+1,d',h,e=>by
  obtain⟨x,r,rfl,_,t⟩:=dC.mp h;obtain⟨y,h1,h2⟩:=ak.get (i:=i) t (by simpa using e);exact⟨y,by simpa using h1,h2⟩
theorem ak.append:∀{ds es:List wD}{xs ys:List V},ak K H xs ds->ak K H ys es->ak K H (xs++ys) (ds++es)
 | [],_,_,_,h,t=>by rw[fO.mp h];exact t
 | d::ds,_,_,_,h,t=>by
  obtain⟨x,r,rfl,q,u⟩:=dC.mp h;exact .cons q (ak.append u t)
mutual
theorem Is.same(s:ah H H'):∀(d:wD)(v:V),Is K H v d->Is K H' v d
 | .none,v,h=>by rw[l_]at h ⊢;exact h
 | .bool _,v,h=>by rw[kf]at h ⊢;exact h
 | .int _,v,h=>by rw[cc]at h ⊢;exact h
 | .str _,v,h=>by rw[iU]at h ⊢;exact h
 | .tuple ds,v,h=>by
  obtain⟨a,xs,e,q,t⟩:=bM.mp h;exact bM.mpr ⟨a,xs,e,s.jx q,ak.same s ds xs t⟩
 | .list ds,v,h=>by
  obtain⟨a,xs,e,q,t⟩:=cB.mp h;exact cB.mpr ⟨a,xs,e,s.seq q,ak.same s ds xs t⟩
 | .dict _,v,h=>by
  obtain⟨a,kvs,e,q⟩:=zZ.mp h;exact zZ.mpr ⟨a,kvs,e,s _ _ q⟩
theorem ak.same(s:ah H H'):∀(ds:List wD)(xs:List V),ak K H xs ds->ak K H' xs ds
 | [],xs,h=>by rw[fO]at h ⊢;exact h
 | d::ds,xs,h=>by
  obtain⟨x,r,e,q,t⟩:=dC.mp h;exact dC.mpr ⟨x,r,e,Is.same s d x q,ak.same s ds r t⟩
end
end
/- no list and no dict within -/
mutual
def cS:wD->Bool
 | .none=>true
 | .bool _=>true
 | .int _=>true
 | .str _=>true
 | .tuple ds=>bY ds
 | .list _=>false
 | .dict _=>false
def bY:List wD->Bool
 | []=>true
 | d::ds=>cS d&&bY ds
end
section
variable{K:wb}{H H':Hp}
mutual
theorem Is.keep(k:bG H H'):∀(d:wD)(v:V),cS d=true->Is K H v d->Is K H' v d
 | .none,v,_,h=>by rw[l_]at h ⊢;exact h
 | .bool _,v,_,h=>by rw[kf]at h ⊢;exact h
 | .int _,v,_,h=>by rw[cc]at h ⊢;exact h
 | .str _,v,_,h=>by rw[iU]at h ⊢;exact h
 | .tuple ds,v,i,h=>by
  obtain⟨a,xs,e,q,t⟩:=bM.mp h;exact bM.mpr ⟨a,xs,e,k.jx q,ak.keep k ds xs (by rw[cS]at i;exact i) t⟩
 | .list ds,v,i,h=>by rw[cS]at i;cases i
 | .dict _,v,i,h=>by rw[cS]at i;cases i
theorem ak.keep(k:bG H H'):∀(ds:List wD)(xs:List V),bY ds=true->ak K H xs ds->ak K H' xs ds
 | [],xs,_,h=>by rw[fO]at h ⊢;exact h
 | d::ds,xs,i,h=>by
  obtain⟨x,r,e,q,t⟩:=dC.mp h;rw[bY,wV]at i;exact dC.mpr ⟨x,r,e,Is.keep k d x i.1 q,ak.keep k ds r i.2 t⟩
end
end
def N(r:Rat):wD:=.tuple [.int r.num,.int (r.den:Int)]
theorem j8(r:Rat):cS (N r)=true:=by simp[N,cS,bY]
section
variable{K:wb}{H H':Hp}{v:V}{r:Rat}
theorem mQ:Is K H v (N r) ↔ ∃a,v=.ref a/\aR K H a [.int r.num,.int (r.den:Int)]:=by
 unfold N;rw[bM]
 constructor
 ·rintro ⟨a,xs,e,q,t⟩
  obtain⟨x,r1,rfl,q1,t⟩:=dC.mp t;obtain⟨y,r2,rfl,q2,t⟩:=dC.mp t;rw[fO.mp t,cc.mp q1,cc.mp q2]at q;exact⟨a,e,q⟩
 ·rintro ⟨a,e,q⟩
  exact⟨a,_,e,q,.cons (cc.mpr rfl) (.cons (cc.mpr rfl) .nil)⟩
end
section
variable{X:Cx}{pins:List (wf × Obj)}{σ : St}{H:Hp}{s:wl}
mutual
theorem Inv.reads(I:Inv X pins σ H s):∀(d:wD)(v:V)(u:we),d.canLay0=true->Is X.K H v d->aW v u->∃as,Reads s.heap u d as
 | .none,v,u,_,h,r=>by
  cases l_.mp h;cases (show u=Value.none from r);exact⟨_,.none⟩
 | .bool b,v,u,_,h,r=>by
  cases kf.mp h;cases (show u=Value.bool b from r);exact⟨_,.bool b⟩
 | .int i,v,u,_,h,r=>by
  cases cc.mp h;obtain⟨t,e⟩:=(show ∃t,u=Value.int i t from r);cases e;exact⟨_,.int i t⟩
 | .str x,v,u,_,h,r=>by
  cases iU.mp h;obtain⟨t,e⟩:=(show ∃t,u=Value.str x t from r);cases e;exact⟨_,.str x t⟩
 | .tuple ds,v,u,c,h,r=>by
  obtain⟨a,xs,e,q,t⟩:=bM.mp h;subst e;cases (show u=Value.ref a from r);obtain⟨its,rv,⟨o,e1,e2,n,e3⟩,_⟩:=I.tuple q;obtain⟨as,ra⟩:=Inv.readsAll I ds xs its (by rw[Wc]at c;exact c) t rv;exact⟨_,.tuple e1 e2 e3 (by simpa using ra)⟩
 | .list ds,v,u,c,h,r=>by
  obtain⟨a,xs,e,q,t⟩:=cB.mp h;subst e;cases (show u=Value.ref a from r);obtain⟨its,rv,⟨o,n,e1,e2,_,e3⟩,_⟩:=I.list q;obtain⟨as,ra⟩:=Inv.readsAll I ds xs its (by rw[Wc]at c;exact c) t rv;exact⟨_,.list e1 e2 e3 (by simpa using ra)⟩
 | .dict _,v,u,c,h,r=>by rw[Wc]at c;cases c
theorem Inv.readsAll(I:Inv X pins σ H s):∀(ds:List wD)(xs:List V)(us:List we),Wp ds=true->ak X.K H xs ds->aM xs us->∃as,ReadsAll s.heap us ds as
 | [],xs,us,_,h,r=>by
  rw[fO.mp h]at r;cases r;exact⟨_,.nil⟩
 | d::ds,xs,us,c,h,r=>by
  obtain⟨x,l,e,q,t⟩:=dC.mp h;subst e;rw[Wp,wV]at c;cases r with
  | cons r1 r2 =>
   obtain⟨as,h1⟩:=Inv.reads I d x _ c.1 q r1;obtain⟨bs,h2⟩:=Inv.readsAll I ds l _ c.2 t r2;exact⟨_,.cons h1 h2⟩
end
end
section
variable{X:Cx}
open PySem.SeqAt (shaped)
def cv(K:wb):R2:=λx y H Q=>∃d e,Is K H x d/\Is K H y e/\shaped d=true/\shaped e=true/\Q (.bl (vb d e)) H
def fY(K:wb):R2:=λx y H Q=>∃d e,Is K H x d/\Is K H y e/\shaped d=true/\shaped e=true/\Q (.bl (!PyData.eqv d e)) H
theorem de(hu:X.A.units+64<Wz):aN X (wU .Eq) (cv X.K):=by
 intro pins s σ H x y v u Q I rx ry h;obtain⟨d,e,hd,he,sd,se,q⟩:=h;obtain⟨as,h1⟩:=I.reads d x v (Vl sd) hd rx;obtain⟨bs,h2⟩:=I.reads e y u (Vl se) he ry;exact eq_dataH h1 h2 sd se hu ⟨.bl _,H,I,rfl,q⟩
theorem lq(hu:X.A.units+64<Wz):aN X (wU .NotEq) (fY X.K):=by
 intro pins s σ H x y v u Q I rx ry h;obtain⟨d,e,hd,he,sd,se,q⟩:=h;obtain⟨as,h1⟩:=I.reads d x v (Vl sd) hd rx;obtain⟨bs,h2⟩:=I.reads e y u (Vl se) he ry;exact ne_dataH h1 h2 sd se hu ⟨.bl _,H,I,rfl,q⟩
theorem aW.Sg{x:V}{v:we}(r:aW x v)(c:Bool):(v == Value.bool c)=decide (x=.bl c):=by
 cases x with
 | bj=>cases (show v=Value.none from r);rfl
 | bl b=>cases (show v=Value.bool b from r);cases b<;>cases c<;>rfl
 | int _=>obtain⟨t,rfl⟩:=r;rfl
 | str _=>obtain⟨t,rfl⟩:=r;rfl
 | byt _=>obtain⟨t,rfl⟩:=r;rfl
 | kZ _=>obtain⟨t,rfl⟩:=r;rfl
 | ref _=>cases r;rfl
 | ty _=>cases r;rfl
theorem aW.Sb{x:V}{v:we}(r:aW x v)(c:Bool):plainIs v (Value.bool c)=true:=by
 cases x with
 | bj=>cases (show v=Value.none from r);rfl
 | bl b=>cases (show v=Value.bool b from r);rfl
 | int _=>obtain⟨t,rfl⟩:=r;rfl
 | str _=>obtain⟨t,rfl⟩:=r;rfl
 | byt _=>obtain⟨t,rfl⟩:=r;rfl
 | kZ _=>obtain⟨t,rfl⟩:=r;rfl
 | ref _=>cases r;rfl
 | ty _=>cases r;rfl
def JC:R2:=λx y H Q=>(∃c,y=.bl c/\Q (.bl (decide (x=.bl c))) H)\/(y=.bj/\Q (.bl (decide (x=.bj))) H)
theorem EF:aN X (wU .Is) JC:=by
 intro pins s σ H x y v u Q I rx ry h;rcases h with⟨c,e,q⟩ | h
 ·subst e
  cases (show u=Value.bool c from ry);exact wpAny_is_plain (rx.Sb c) (KI I q (rx.Sg c).symm)
 ·exact YF pins s σ H x y v u Q I rx ry h
def kindOf:wD->String
 | .none=>"NoneType"
 | .bool _=>"bool"
 | .int _=>"int"
 | .str _=>"str"
 | .tuple _=>"tuple"
 | .list _=>"list"
 | .dict _=>"dict"
def jc(K:wb):List V->Hp->VK->Prop:=λxs H Q=>∃x T d b,xs=[x,.ty T]/\Is K H x d/\Qf K (.type (kindOf d)) (.type T)=some b/\Q (.bl b) H
theorem v_:aO X (.builtin "isinstance") (jc X.K):=by
 intro pins s σ H xs us Q I r h;obtain⟨x,T,d,b,rfl,hd,e,q⟩:=h;obtain⟨u,w',rfl,rx,rt⟩:=kN r;cases (show w'=Value.type T from rt);have fin:∀tk,EP X pins σ Q (.bool b) {s with toks:=tk}:=λtk=>⟨.bl b,H,I.tok _,rfl,q⟩
 cases d with
 | none =>
  cases l_.mp hd;cases (show u=Value.none from rx);exact Vy XT I.dk True.intro e (λz=>nomatch z) fin
 | bool y =>
  cases kf.mp hd;cases (show u=Value.bool y from rx);exact Vy XU I.dk True.intro e (λz=>nomatch z) fin
 | int i =>
  cases cc.mp hd;obtain⟨t,q⟩:=(show ∃t,u=Value.int i t from rx);cases q;exact Vy uj I.dk True.intro e (λz=>nomatch z) fin
 | str y =>
  cases iU.mp hd;obtain⟨t,q⟩:=(show ∃t,u=Value.str y t from rx);cases q;exact Vy uk I.dk True.intro e (λz=>nomatch z) fin
 | tuple ds =>
  obtain⟨a,xs,e1,hq,_⟩:=bM.mp hd;subst e1;cases (show u=Value.ref a from rx);obtain⟨its,_,⟨o,h1,h2,_⟩,_⟩:=I.tuple hq;exact Vy XB I.dk ⟨o,h1,h2⟩ e (λz=>nomatch z) fin
 | list ds =>
  obtain⟨a,xs,e1,hq,_⟩:=cB.mp hd;subst e1;cases (show u=Value.ref a from rx);obtain⟨its,_,⟨o,n,h1,h2,_⟩,_⟩:=I.list hq;exact Vy XV I.dk ⟨o,h1,h2⟩ e (λz=>nomatch z) fin
 | dict kv =>
  obtain⟨a,kvs,e1,hq⟩:=zZ.mp hd;subst e1;cases (show u=Value.ref a from rx);obtain⟨_,_,vs,_,o,es,ep,h1,h2,_⟩:=(show di X.prog X.w H s.heap a (.dK kvs)from I.aG a _ hq);exact Vy XW I.dk ⟨o,h1,h2.1⟩ e (λz=>nomatch z) fin
def isA(T:String)(d:wD):Bool:=(kindOf d == T) || (kindOf d == "bool"&&T == "int")
theorem zyH{K:wb}(d:wD):Qf K (.type (kindOf d)) (.type "int")=some (isA "int" d):=by cases d<;>rfl
theorem zwp{K:wb}(d:wD):Qf K (.type (kindOf d)) (.type "bool")=some (isA "bool" d):=by cases d<;>rfl
theorem zuV{K:wb}(d:wD):Qf K (.type (kindOf d)) (.type "tuple")=some (isA "tuple" d):=by cases d<;>rfl
theorem Sz{m n:Nat}{i j:Int}(h:Bd m i)(k:Bd n j)(hm:m<=1000000)(hn:n<=1000000):IntMulOk i j:=by
 have f:∀{m:Nat}{i:Int},Bd m i->m<=1000000->Xm i<=2^20:=by
  intro m i h hm;have e:(2:Nat)^20=1048576:=by decide
  have l:=(h.mono (Nat.le_succ m)).log (Qt m);unfold Xm
  split<;>omega
 exact .of_bits (f h hm) (f k hn)
theorem ck:aN X (WD .Mult) (rI IntMulOk λi j=>.int (i*j)):=sR λ_ _ _ _ _ _ _ hc q=>mul_int q hc
def ng(_ j:Int):Prop:=j≠0/\Bd 8999 j
theorem eI:aN X (WD .FloorDiv) (rI ng λi j=>.int (i.fdiv j)):=sR λ_ _ _ _ _ _ _ hc q =>
 floordiv_int hc.1 q (.inl (PyProof.noPylong_of_log2 (VL (hc.2.log (by decide)))))
theorem YG:aN X (WD .Add) (λx y H Q=>(h9 λi j=>.int (i+j)) x y H Q\/(C_ x y H Q \/ ∃i j,x=.str i/\y=.str j/\i.length+j.length<=wZ/\Q (.str (i++j)) H)):=zAR.or (ZE.or zsJ)
end
theorem dE:vM "len"=some (.builtin "len"):=by decide +kernel
theorem kA:vM "abs"=some (.builtin "abs"):=by decide +kernel
theorem pN:vM "isinstance"=some (.builtin "isinstance"):=by decide +kernel
theorem zAB:vM "int"=some (.type "int"):=by decide +kernel
theorem ZQ:vM "bool"=some (.type "bool"):=by decide +kernel
theorem eA:vM "tuple"=some (.type "tuple"):=by decide +kernel
theorem mG:vM "list"=some (.type "list"):=by decide +kernel
def kJ(K:wb)(xs:List V)(H:Hp)(Q:VK):Prop:=xs.length<=wZ /\ ∀p,H p=none->Q (.ref p) (upd H p (.tup xs))
def Cb(K:wb)(xs:List V)(H:Hp)(Q:VK):Prop:=xs.length<=wZ /\ ∀p,H p=none->Q (.ref p) (upd H p (.lst xs))
def Cu(K:wb)(t:TA):TE:=λσ H Q=>t σ H λxs H1=>kJ K xs H1 Q
def Na(K:wb)(t:TA):TE:=λσ H Q=>t σ H λxs H1=>Cb K xs H1 Q
def Dp:R2:=λx y H Q=>(h9 λi j=>.int (i+j)) x y H Q\/(C_ x y H Q \/ ∃i j,x=.str i/\y=.str j/\i.length+j.length<=wZ/\Q (.str (i++j)) H)
def OI:List V->Hp->VK->Prop:=λxs H Q=>∃i:Int,xs=[.int i]/\Q (.int (if i<0 then -i else i)) H
def cN(K:wb):List V->Hp->VK->Prop:=λxs H Q=>∃p ys,xs=[.ref p]/\(aK K H p ys\/aR K H p ys)/\Q (.int ys.length) H
section
variable{X:Cx}{e:Expr}{es:List Expr}{te:TE}{t:TA}{pos:Pos}
theorem br{x1}(h:PA X es t):PE X (.Tuple es x1 pos) (Cu X.K t):=zA2 h
theorem e_(h:PA X es t):PE X (.List es pos) (Na X.K t):=Yz h
theorem cb:aN X (WD .Add) Dp:=YG
theorem k_:aO X (.builtin "abs") OI:=zxT
theorem dX:aO X (.builtin "len") (cN X.K):=zoN
theorem oB{x:Str}{i:Int}{pos:Pos}(hg:Gl X x)(hm:∃t,X.mg x=some (.int i t))(hd:(x == ("__debug__" : Str))=false:=by decide):PE X (.Name x pos) (tC (.int i)):=by
 obtain⟨t,hm⟩:=hm;exact bW hg hm ⟨t,rfl⟩ hd
end
section
variable{K:wb}{σ : St}{H H':Hp}{Q:VK}{QA:List V->Hp->Prop}{QB:Bool->Hp->Prop}{QS:St->Hp->Prop}{QH:Hp->Prop}{D:cj}{ta tb te:TE}{tt tu:TT}{t tr:TA}{s1 s2:TS}{g:TG}{gs:jC}{r:R2}{v w:V}{xs ys:List V}{i:Nat}{m n:Int}
theorem SW(h : σ[i]? = some (some v))(q:Q v H):sU i σ H Q:=⟨v,h,q⟩
theorem zCQ(q:Q v H):tC v σ H Q:=q
theorem zB5(h:ta σ H λx H1=>tb σ H1 λy H2=>r x y H2 Q):lA r ta tb σ H Q:=h
theorem U_{u:V->Hp->VK->Prop}(h:ta σ H λx H1=>u x H1 Q):Mq u ta σ H Q:=h
theorem zBE(h:t σ H λxs H1=>kJ K xs H1 Q):Cu K t σ H Q:=h
theorem zAS(h:t σ H λxs H1=>Cb K xs H1 Q):Na K t σ H Q:=h
theorem zAv(q:QA [] H):CU σ H QA:=q
theorem zyC(h:te σ H λx H1=>tr σ H1 λxs H2=>QA (x::xs) H2):Dd te tr σ H QA:=h
theorem zyN{sp:Sp}{E:XK}(h:t σ H λvs H1=>sp vs H1 Q E):pP sp [] E t σ H Q:=by
 simpa only[pP,We] using h
theorem zBZ{u:List V->Hp->VK->Prop}(h:t σ H λvs H1=>u vs H1 Q):Ek u t σ H Q:=h
theorem zy0(h:te σ H λx H'=>∃k,x=.bl k/\QB k H'):Dc te σ H QB:=h
theorem zB6(h:te σ H λx H'=>∃k,x=.bl k/\QB k H'):tB te σ H QB:=h
theorem Ti(h:tt σ H λc H1=>if c=true then tu σ H1 QB else QB false H1):O1 tt tu σ H QB:=h
theorem zCJ(h:tt σ H λc H1=>if c=true then QB true H1 else tu σ H1 QB):N9 tt tu σ H QB:=h
theorem zAV(h:tt σ H λc H1=>QB (!c) H1):Lh tt σ H QB:=h
theorem zy8(h:ta σ H λx H1=>∃c,x=.bl c/\if c=true then tb σ H1 Q else Q (.bl false) H1):Jc ta tb σ H Q:=h
theorem zyx(h:ta σ H λx H1=>∃c,x=.bl c/\Q (.bl (!c)) H1):Mc ta σ H Q:=h
theorem zBm(h:tt σ H λc H1=>if c=true then ta σ H1 Q else tb σ H1 Q):Ky tt ta tb σ H Q:=h
-- statements
theorem TR(h:s1 {D with nx:=s2 D} σ H):Er s1 s2 D σ H:=h
theorem YA(h:D.nx σ H):M9 D σ H:=h
theorem UK(h:te σ H D.rt):RK te D σ H:=h
theorem zBP(h:tt σ H λb H1=>if b=true then s1 D σ H1 else s2 D σ H1):O8 tt s1 s2 D σ H:=h
theorem YW(h:te σ H λx H1=>g x σ H1 D.nx):ly te g D σ H:=h
theorem zzw(h:te σ H λ_ H1=>D.nx σ H1):LC te D σ H:=h
theorem Z_{i j:Nat}(h:t σ H λvs H1=>∃v w,vs=[v,w]/\D.nx ((σ.set i (some v)).set j (some w)) H1):OD i j t D σ H:=h
theorem zyj{i j:Nat}(q:QS ((σ.set i (some v)).set j (some w)) H):∃v' w',[v,w]=[v',w']/\QS ((σ.set i (some v')).set j (some w')) H:=⟨v,w,rfl,q⟩
-- targets
theorem V_(q:QS (σ.set i (some v)) H):iX i v σ H QS:=q
theorem Tf(q:QS σ H):Jy [] σ H QS:=⟨rfl,q⟩
theorem zxV(q:g v σ H λσ' H'=>gs xs σ' H' QS):L5 g gs (v::xs) σ H QS:=⟨v,xs,rfl,q⟩
theorem m4{a:wf}{n:Nat}(h:aR K H a xs)(e:xs.length=n)(q:gs xs σ H QS):kz K n gs (.ref a) σ H QS:=⟨a,xs,rfl,h,e,q⟩
theorem zx7{tset:sG}(h:ta σ H λo H1=>tb σ H1 λi H2=>tset o i v H2 λH3=>QS σ H3):PR ta tb tset v σ H QS:=h
theorem r8{p:wf}{k:Int}{j:Nat}(h:H p=some (.lst xs))(e:gG xs.length k=some j)(q:∀H',Exc p H H'->H' p=some (.lst (xs.set j v))->QH H'):PQ (.ref p) (.int k) v H QH :=
 ⟨p,xs,k,j,rfl,rfl,h,e,q _ (Exc.upd p H _) cE⟩
-- ints
theorem zBj{f:Int->Int->V}(q:Q (f m n) H):h9 f (.int m) (.int n) H Q:=⟨m,n,rfl,rfl,q⟩
theorem pL{C:Int->Int->Prop}{f:Int->Int->V}(c:C m n)(q:Q (f m n) H):rI C f (.int m) (.int n) H Q:=⟨m,n,rfl,rfl,c,q⟩
theorem zCh{f:Int->V}(q:Q (f m) H):rU f (.int m) H Q:=⟨m,rfl,q⟩
theorem SV(q:Q (.int (m+n)) H):Dp (.int m) (.int n) H Q:=.inl ⟨m,n,rfl,rfl,q⟩
theorem nj{p b:wf}(h:H p=some (.lst xs))(k:H b=some (.lst ys))(z:xs.length+ys.length<=wZ)
  (q:∀c H',H c=none->ah H H'->H' c=some (.lst (xs++ys))->Q (.ref c) H'):Dp (.ref p) (.ref b) H Q :=
 .inr (.inl ⟨p,b,xs,ys,rfl,rfl,h,k,z,λc hc=>q c _ hc (ah.upd hc) cE⟩)
theorem zAU(q:Q (.int (if m<0 then -m else m)) H):OI [.int m] H Q:=⟨m,rfl,q⟩
theorem OS{p:wf}(h:aR K H p xs)(q:Q (.int xs.length) H):cN K [.ref p] H Q:=⟨p,xs,rfl,.inr h,q⟩
theorem jN{p:wf}(h:aK K H p xs)(q:Q (.int xs.length) H):cN K [.ref p] H Q:=⟨p,xs,rfl,.inl h,q⟩
theorem zBw(q:Q (.bl (decide (v=.bj))) H):JC v .bj H Q:=.inr ⟨rfl,q⟩
theorem UM(q:Q (.bl (decide (m=n))) H):cv K (.int m) (.int n) H Q :=
 ⟨.int m,.int n,cc.mpr rfl,cc.mpr rfl,rfl,rfl,by
  have e:vb (.int m) (.int n)=decide (m=n):=by
   rw[vb,Qr]
  rw[e];exact q⟩
theorem zAF(q:Q (.bl (!decide (m=n))) H):fY K (.int m) (.int n) H Q :=
 ⟨.int m,.int n,cc.mpr rfl,cc.mpr rfl,rfl,rfl,by
  have e:vb (.int m) (.int n)=decide (m=n):=by
   rw[vb,Qr]
  rw[e];exact q⟩
theorem rQ{d e:wD}(h:Is K H v d)(k:Is K H w e)(sd:vX d=true)(se:vX e=true)(q:Q (.bl (vb d e)) H):cv K v w H Q:=⟨d,e,h,k,sd,se,q⟩
theorem Du{d e:wD}(h:Is K H v d)(k:Is K H w e)(sd:vX d=true)(se:vX e=true)(q:Q (.bl (!PyData.eqv d e)) H):fY K v w H Q:=⟨d,e,h,k,sd,se,q⟩
theorem Bc{T:String}{d:wD}(h:Is K H v d)(e:Qf K (.type (kindOf d)) (.type T)=some (isA T d))(q:Q (.bl (isA T d)) H):jc K [v,.ty T] H Q:=⟨v,T,d,_,rfl,h,e,q⟩
def hJ:wD->Bool
 | .tuple _=>true
 | _=>false
def DL:wD->Bool
 | .int _=>true
 | .bool _=>true
 | _=>false
def Dy:wD->Bool
 | .bool _=>true
 | _=>false
def nV:wD->Bool
 | .list _=>true
 | _=>false
theorem NO{d:wD} : hJ d=true ↔ ∃ds,d=.tuple ds:=by cases d<;>simp[hJ]
theorem Oq{d:wD}(h:Is K H v d)(q:Q (.bl (hJ d)) H):jc K [v,.ty "tuple"] H Q:=Bc h (zuV d) (by have e:isA "tuple" d=hJ d:=(by cases d<;>rfl);rw[e];exact q)
theorem UR{d:wD}(h:Is K H v d)(q:Q (.bl (DL d)) H):jc K [v,.ty "int"] H Q:=Bc h (zyH d) (by have e:isA "int" d=DL d:=(by cases d<;>rfl);rw[e];exact q)
theorem zwT{d:wD}(h:Is K H v d)(q:Q (.bl (Dy d)) H):jc K [v,.ty "bool"] H Q:=Bc h (zwp d) (by have e:isA "bool" d=Dy d:=(by cases d<;>rfl);rw[e];exact q)
theorem yz{p:wf}{m:Int}(h:aR K H p xs)(e:gE xs m=some v)(q:Q v H):cQ K (.ref p) (.int m) H Q:=.inr (.inl ⟨p,xs,m,v,rfl,rfl,h,e,q⟩)
theorem gY{p:wf}{m:Int}(h:aK K H p xs)(e:gE xs m=some v)(q:Q v H):cQ K (.ref p) (.int m) H Q:=.inl ⟨p,xs,m,v,rfl,rfl,h,e,q⟩
theorem zAE{α : Type}{xs:List α}{m:Int}(h0:0<=m)(h1:m<xs.length):∃v,gE xs m=some v/\v∈xs:=by
 obtain⟨k,rfl⟩:∃k:Nat,m=(k:Int):=⟨m.toNat,by omega⟩;have l:k<xs.length:=by omega
 exact⟨xs[k],j5 (by simp[l]),vJ l⟩
theorem O7{p:wf}{m:Int}(P:V->Prop)(h:aK K H p xs)(h0:0<=m)(h1:m<xs.length)(hP:∀x∈xs,P x)(q:∀x,P x->Q x H):cQ K (.ref p) (.int m) H Q:=by
 obtain⟨x,e,hx⟩:=zAE h0 h1;exact gY h e (q x (hP x hx))
theorem ZL{r:Rat}(h:Is K H v (N r))(q:Q (.int r.num) H):cQ K v (.int 0) H Q:=by
 obtain⟨a,rfl,h'⟩:=mQ.mp h;exact yz h' rfl q
theorem zzo{r:Rat}(h:Is K H v (N r))(q:Q (.int (r.den:Int)) H):cQ K v (.int 1) H Q:=by
 obtain⟨a,rfl,h'⟩:=mQ.mp h;exact yz h' rfl q
theorem aD{ds:List wD}{d:wD}{j:Nat}(h:Is K H v (.tuple ds))(e:ds[j]? = some d)(q:∀x,Is K H x d->Q x H):cQ K v (.int (j:Int)) H Q:=by
 obtain⟨a,xs,rfl,h,t⟩:=bM.mp h;obtain⟨x,e1,hx⟩:=t.get e;exact yz h (j5 e1) (q x hx)
theorem jm{ds:List wD}(h:Is K H v (.tuple ds))(q:Q (.int ds.length) H):cN K [v] H Q:=by
 obtain⟨a,xs,rfl,h,t⟩:=bM.mp h;exact OS h (by rw[t.length];exact q)
theorem LA{ds:List wD}{n:Nat}(h:Is K H v (.tuple ds))(e:ds.length=n)(q:∀xs,ak K H xs ds->gs xs σ H QS):kz K n gs v σ H QS:=by
 obtain⟨a,xs,rfl,h,t⟩:=bM.mp h;exact m4 h (by rw[t.length];exact e) (q xs t)
theorem lK{α : Type}{l:List α}(h:l.length<=1000):l.length<=wZ:=Va (iO h)
theorem mz(z:xs.length<=1000)(q:∀p H',H p=none->ah H H'->H' p=some (.tup xs)->Q (.ref p) H'):kJ K xs H Q:=⟨lK z,λp hp=>q p _ hp (ah.upd hp) cE⟩
theorem fi(z:xs.length<=1000)(q:∀p H',H p=none->ah H H'->H' p=some (.lst xs)->Q (.ref p) H'):Cb K xs H Q:=⟨lK z,λp hp=>q p _ hp (ah.upd hp) cE⟩
theorem cK{ds:List wD}(z:xs.length<=1000)(h:ak K H xs ds)(q:∀v H',ah H H'->Is K H' v (.tuple ds)->Q v H'):kJ K xs H Q :=
 mz z λp H' _ s e=>q _ H' s (bM.mpr ⟨p,xs,rfl,.of e,ak.same s ds xs h⟩)
theorem d_{r:Rat}(e1:m=r.num)(e2:n=(r.den:Int))(q:∀v H',ah H H'->Is K H' v (N r)->Q v H'):kJ K [.int m,.int n] H Q:=by
 subst e1 e2;exact mz (by show 2<=1000;decide) λp H' _ s e=>q _ H' s (mQ.mpr ⟨p,rfl,.of e⟩)
-- tests
theorem Z4{p:Prop}[Decidable p]{A B:Prop}(h1:p->A)(h2:¬ p->B):if decide p=true then A else B:=by
 by_cases h:p
 ·rw[decide_eq_true h,if_pos rfl];exact h1 h
 ·rw[decide_eq_false h,if_neg vC];exact h2 h
theorem Td{p:Prop}[Decidable p]{A B:Prop}(h1:¬ p->A)(h2:p->B):if(!decide p)=true then A else B:=by
 by_cases h:p
 ·rw[decide_eq_true h];exact mX (h2 h)
 ·rw[decide_eq_false h];exact mB (h1 h)
theorem Yx{b:Bool}{A B:Prop}(h1:b=true->A)(h2:b=false->B):if b=true then A else B:=by
 cases b
 ·exact mX (h2 rfl)
 ·exact mB (h1 rfl)
theorem W_{b:Bool}{A B:Prop}(h1:b=false->A)(h2:b=true->B):if(!b)=true then A else B:=by
 cases b
 ·exact mB (h1 rfl)
 ·exact mX (h2 rfl)
end
section
variable{c:TT}{tb:TS}{D:cj}{σ : St}{H:Hp}
def Mn(σ : St)(i:Nat):Int:=match σ[i]? with
 | some (some (.int y))=>y
 | _=>0
def PV(Pv:St->Hp->Prop)(μ : St->Nat)(tb:TS)(D:cj)(σ':St)(H1:Hp):Prop :=
 ∃M:St->Hp->Prop,(∀σ2 H2,M σ2 H2->∃m',m' < μ σ'/\(m' = μ σ2/\Pv σ2 H2))/\tb {D with nx:=M,ct:=M,bk:=D.nx} σ' H1
theorem OH(Pv:St->Hp->Prop)(μ : St->Nat)(h0:Pv σ H)
  (hs:∀σ' H',Pv σ' H'->c σ' H' λb H1=>if b=true then PV Pv μ tb D σ' H1 else D.nx σ' H1):BP c tb D σ H:=by
 refine⟨λm σ H=>m = μ σ /\ Pv σ H,⟨_,rfl,h0⟩,?_⟩;rintro m σ H ⟨rfl,p⟩;exact hs σ H p
theorem Mr{Pv:St->Hp->Prop}{μ : St->Nat}{σ':St}{H1:Hp}(h:tb {D with nx:=λσ2 H2=>μ σ2 < μ σ'/\Pv σ2 H2,ct:=λσ2 H2=>μ σ2 < μ σ'/\Pv σ2 H2,bk:=D.nx} σ' H1):PV Pv μ tb D σ' H1 :=
 ⟨_,λσ2 H2 q=>⟨_,q.1,rfl,q.2⟩,h⟩
def Ox(g:TG)(tb:TS)(D:cj)(σ : St)(vs:List V)(H1:Hp):Prop:=∃j:Int,vs=[.int j] /\ -(2^62)<=j/\j<2^62 /\
 ∃W:Nat->Nat->St->Hp->Prop,(∃m,W 0 m σ H1) /\ ∀i m σ H,W i m σ H ->
  ((fT 0 j.toNat).stop i H/\D.nx σ H)\/((fT 0 j.toNat).go i H /\ ∃M:St->Hp->Prop,(∀σ' H',M σ' H'->∃m',m'<m/\W (i+1) m' σ' H') /\ ∀x H',(fT 0 j.toNat).fD i H x H'->g x σ H' λσ2 H2=>tb {D with nx:=M,ct:=M,bk:=D.nx} σ2 H2)
theorem zyO{ta:TA}{g:TG}(h:ta σ H λvs H1=>Ox g tb D σ vs H1):lJ (BF ta) g tb D σ H:=h
theorem kT{g:TG}{n:Int}(h0 : -1000000000<=n)(h1:n<1000000000)(Pv:Nat->St->Hp->Prop)(p:Pv 0 σ H)
  (hs:∀(i:Nat) σ H,i<n.toNat->Pv i σ H->g (.int (i:Int)) σ H λσ2 H2=>tb {D with nx:=Pv (i+1),ct:=Pv (i+1),bk:=D.nx} σ2 H2)
  (hd:∀σ H,Pv n.toNat σ H->D.nx σ H):Ox g tb D σ [.int n] H:=by
 refine⟨n,rfl,by omega,by omega,II (lo:=0) Pv p (λi σ H hi q=>?_) hd⟩;have e:(0:Int)+(i:Int)=(i:Int):=by omega
 rw[e];exact hs i σ H hi q
end
def Cc(K:wb)(g:TG)(tb:TS)(D:cj)(σ : St)(x:V)(H1:Hp):Prop:=∃a,x=.ref a/\(∃xs,aK K H1 a xs) /\
 ∃W:Nat->Nat->St->Hp->Prop,(∃m,W 0 m σ H1) /\ ∀i m σ H,W i m σ H ->
  ((iY K a).stop i H/\D.nx σ H)\/((iY K a).go i H /\ ∃M:St->Hp->Prop,(∀σ' H',M σ' H'->∃m',m'<m/\W (i+1) m' σ' H') /\ ∀x H',(iY K a).fD i H x H'->g x σ H' λσ2 H2=>tb {D with nx:=M,ct:=M,bk:=D.nx} σ2 H2)
def KU(K:wb)(g:TG)(tb:TS)(D:cj)(σ : St)(x:V)(H1:Hp):Prop:=∃a,x=.ref a/\(∃xs,aR K H1 a xs) /\
 ∃W:Nat->Nat->St->Hp->Prop,(∃m,W 0 m σ H1) /\ ∀i m σ H,W i m σ H ->
  ((iM K a).stop i H/\D.nx σ H)\/((iM K a).go i H /\ ∃M:St->Hp->Prop,(∀σ' H',M σ' H'->∃m',m'<m/\W (i+1) m' σ' H') /\ ∀x H',(iM K a).fD i H x H'->g x σ H' λσ2 H2=>tb {D with nx:=M,ct:=M,bk:=D.nx} σ2 H2)
section
variable{K:wb}{te:TE}{g:TG}{tb:TS}{D:cj}{σ : St}{H:Hp}{a:wf}{xs:List V}
theorem Zt(h:te σ H λx H1=>Cc K g tb D σ x H1):lJ (Dx K te) g tb D σ H:=h
theorem yS(hx:aK K H a xs)(Pv:Nat->St->Hp->Prop)(h0:Pv 0 σ H)(hl:∀i σ H,i<=xs.length->Pv i σ H->aK K H a xs)
  (hs:∀i x σ H,xs[i]? = some x->Pv i σ H->g x σ H λσ2 H2=>tb {D with nx:=Pv (i+1),ct:=Pv (i+1),bk:=D.nx} σ2 H2) (hd:∀σ H,Pv xs.length σ H->D.nx σ H):Cc K g tb D σ (.ref a) H :=
 ⟨a,rfl,⟨xs,hx⟩,zxH Pv h0 hl hs hd⟩
theorem Zr(hx:aR K H a xs)(Pv:Nat->St->Hp->Prop)(h0:Pv 0 σ H)(hl:∀i σ H,i<=xs.length->Pv i σ H->aR K H a xs)
  (hs:∀i x σ H,xs[i]? = some x->Pv i σ H->g x σ H λσ2 H2=>tb {D with nx:=Pv (i+1),ct:=Pv (i+1),bk:=D.nx} σ2 H2) (hd:∀σ H,Pv xs.length σ H->D.nx σ H):KU K g tb D σ (.ref a) H :=
 ⟨a,rfl,⟨xs,hx⟩,zy7 Pv h0 hl hs hd⟩
end
theorem YD{K:wb}{H:Hp}{a:wf}{xs:List V}(hO:z7 H)(h:aK K H a xs):g9 K H a xs:=by
 rcases h with(h | ⟨o,h⟩) | h
 ·rcases hO a with z | ⟨ob,ys,z⟩
  ·rw[h]at z;cases z
  ·rw[h]at z;cases z
 ·exact .inl ⟨o,h⟩
 ·exact .inr h
theorem Ro{K:wb}{H:Hp}{Q:VK}{a:wf}{ns:List Int}{m:Int}(h:g9 K H a (ns.map V.int))(h0:0<=m)(h1:m<((ns.map V.int).length:Int))(q:∀z,Q (.int z) H):cQ K (.ref a) (.int m) H Q:=by
 refine O7 (λv=>∃z,v=.int z) h.sq h0 h1 (λx hx=>?_) (λx hx=>?_)
 ·obtain⟨z,_,rfl⟩:=wW.mp hx
  exact⟨z,rfl⟩
 ·obtain⟨z,rfl⟩:=hx
  exact q z
section
variable{K:wb}{H H':Hp}{v:V}{d:wD}{a:wf}{xs:List V}{o:HO}
theorem ah.back{H2:Hp}(b:ah H' H2)(s:ah H H'):ah H H2:=s.trans b
theorem bG.back{H2:Hp}(b:bG H' H2)(s:bG H H'):bG H H2:=s.trans b
theorem Is.by(s:ah H H')(h:Is K H v d):Is K H' v d:=Is.same s d v h
theorem Is.SE(h:Is K H v d)(s:ah H H'):Is K H' v d:=Is.same s d v h
theorem Is.Sr{r:Rat}(h:Is K H v (N r))(s:bG H H'):Is K H' v (N r):=Is.keep s _ v (j8 r) h
theorem Is.fH{r:Rat}(s:bG H H')(h:Is K H v (N r)):Is K H' v (N r):=Is.keep s _ v (j8 r) h
theorem Is.ky(s:bG H H')(i:cS d=true)(h:Is K H v d):Is K H' v d:=Is.keep s _ v i h
end
def eT(X:Cx)(N':List Str)(scope:Scope)(cl:List (Str × wf))(C:wf)(s₀ : wl)(H₀ : Hp)(fp:List wf)(pins:List (wf × Obj)):Cx where
 prog:=X.prog
 w:=X.w
 K:=X.K
 mg:=X.mg
 base:=X.base
 A:=X.A
 N:=N'
 s₀:=s₀
 H₀:=H₀
 env:=compEnvC scope cl C X.env
 outer:=X.stack
 stack:=X.stack
 ex:=fp
 fn:=λ_=>false
 calm:=X.calm
 pn:=X.pn++pins
 xe:=λ_ _=>False
structure Jh(X:Cx)(scope:Scope)(cl:List (Str × wf)):Prop where
 kq:closureFor scope X.env=pure cl
 sub:∀x c,cl.lookup x=some c->X.env.cells.lookup x=some c
 has:∀x,((relabel scope X.env).names.lookup x=some .cell\/(relabel scope X.env).names.lookup x=some .free)->∃c,cl.lookup x=some c
def du(src:List (Option Nat))(σ : St):St:=src.map λo=>match o with
 | none=>none
 | some j=>(σ[j]?).join
def JE(X:Cx)(N':List Str)(src:List (Option Nat)):Prop :=
 N'.length=src.length /\ ∀(i j:Nat)(x:Str),N'[i]? = some x->src[i]? = some (some j)->X.N[j]? = some x/\X.env.scope.names.lookup x=some .cell
section
variable{X:Cx}{pins:List (wf × Obj)}{σ : St}{H:Hp}{s:wl}{N':List Str}{scope:Scope}{cl:List (Str × wf)}{src:List (Option Nat)}{fp:List wf}
theorem Inv.block{h₁ : wF}{tk:Nat}(I:Inv X pins σ H s)(hk:scope.kind=.function)(cok:Jh X scope cl)(sok:JE X N' src)(hf:∀b∈fp,d8 X pins H b)(hlt:∀b∈fp,b<s.heap.objs.size)
  (hns:h₁.Ns s.heap.objs.size λ_=>none) (old:∀b o,s.heap.get? b=some o->h₁.get? b=some o)
  (hvis:∀(i:Nat) x,N'[i]? = some x->src[i]? ≠ some none->(relabel scope X.env).names.lookup x=some .cell\/(relabel scope X.env).names.lookup x=some .free) :
  Inv (eT X N' scope cl s.heap.objs.size s H fp pins) [] (du src σ) H {s with heap:=h₁,toks:=tk}:=by
 have hfr:H s.heap.objs.size=none:=I.aG.fresh (wo _)
 have j4:∀x c,cl.lookup x=some c->c<s.heap.objs.size:=λx c e=>by
  obtain⟨v,q⟩:=I.cell x c (cok.sub x c e);exact q.lt
 have fplt:∀b∈fp,b ∉ dy X.stack:=λb hb z=>by
  obtain⟨_,f1,f2,_⟩:=hf b hb;exact(wK.mp (I.lE b z)).elim f1 f2
 refine⟨⟨I.ok.mod,?_,I.ok.glob,I.ok.blt,wo _,λx y c h1 h2=>?_,λx hx=>?_,λx c hx=>?_,I.ok.hd,I.ok.frames,.inl rfl,λb hb=>⟨?_,λx c e=>?_⟩,I.bs,vV I.ok.ic I.sz,λb o e=>?_,fplt,I.stack,I.q_⟩,
  rfl,I.bare,Un.kept old,⟨_,hns,λi x v h1 h2 h3=>?_⟩,λx c e=>?_,hfr,λx c e=>?_,λp hp=>?_,I.aG.kept old,?_⟩
 ·show(relabel scope X.env).kind=.function
  exact hk
 ·exact I.ok.inj x y c (cok.sub x c h1) (cok.sub y c h2)
 ·exact cok.has x hx
 ·exact absurd (show false=true from hx) vC
 ·exact wO (hlt b hb)
 ·exact(hf b hb).2.2.2.2.1 x c (cok.sub x c e)
 ·intro hb
  obtain⟨_,_,_,f3,_⟩:=hf b hb;rcases f3 with z | z
  ·exact I.ok.jR b o e z
  ·exact absurd (wS (wA e) (vV I.ok.ic z)) (Vc _)
 ·-- a name of the frame around
  have hsrc:∃j,src[i]? = some (some j) /\ σ[j]? = some (some v):=by
   unfold du at h2;rw[wx]at h2;cases q:src[i]? with
   | none=>rw[q]at h2;cases h2
   | some o =>
    rw[q]at h2;cases o with
    | none=>cases h2
    | some j =>
     refine⟨j,rfl,?_⟩;have h2':(σ[j]?).join=some v:=wQ h2;cases q2 : σ[j]? with
     | none=>rw[q2]at h2';cases h2'
     | some z=>rw[q2]at h2';exact congrArg some h2'
  obtain⟨j,hj,hv⟩:=hsrc;obtain⟨hN,hc⟩:=sok.2 i j x h1 hj;obtain⟨m,_,hl⟩:=I.loc;obtain⟨u,ru,lk⟩:=hl j x v hN hv (.inr (.inl hc));refine⟨u,ru,.inr ⟨hvis i x h1 (by rw[hj];intro z;cases z),?_⟩⟩;rcases lk with⟨k,_⟩ | ⟨_,c,ec,hcell⟩
  ·have k':X.env.scope.names.lookup x=some .local:=k
   rw[hc]at k';cases k'
  ·obtain⟨c',ec'⟩:=cok.has x (hvis i x h1 (by rw[hj];intro z;cases z))
   have:=cok.sub x c' ec';rw[ec]at this;cases this;obtain⟨o,ho,hd⟩:=hcell;exact⟨c,ec',o,old c o ho,hd⟩
 ·obtain⟨v,o,ho,hd⟩:=I.cell x c (cok.sub x c e)
  exact⟨v,o,old c o ho,hd⟩
 ·exact I.fN x c (cok.sub x c e)
 ·have hp':p∈(X.pn++pins)++[]:=hp
  rw[We]at hp';obtain⟨e,n,ne,nf,d⟩:=I.pin p hp';refine⟨old _ _ e,n,wO (wA e),λz=>?_,d⟩;exact(wK.mp (I.lE p.1 z)).elim ne nf
 ·show(du src σ).length=N'.length
  unfold du;rw[wm,sok.1]
end
def Iy:TT:=λ_ H Q=>Q true H
def nY(X:Cx)(ifs:List Expr)(t:TT):Prop :=
 ∀(pins:List (wf × Obj))(s:wl)(σ : St)(H:Hp)(Q:Bool->Hp->Prop),Inv X pins σ H s->t σ H Q ->
  wt (model X.prog X.w) X.A (forIn ifs true λc r=>if r=true then do let ok <- isTrue c X.env (eval c X.env);pure (ForInStep.yield ok)else pure (ForInStep.yield r)) (TP X pins σ Q) X.xe s
theorem dY{X:Cx} : nY X [] Iy:=λ_ _ _ H _ I h=>wpAny_tests_nil ⟨H,I,h⟩
theorem pY{X:Cx}{c:Expr}{t:TT}(hc:PT X c t):nY X [c] t:=λpins s σ H Q I h=>wpAny_tests_one (hc pins s σ H Q I h)
section
variable{prog:wH}{w:wI}{A:wY}{R:Result->wl->Prop}{s:wl}
theorem zoO{elt target iter:Expr}{ifs:List Expr}{scope:Scope}{pos:Pos}{it acc:we}{env:Env}(I:Nat->wl->Prop)
   (turn:∀n s,I n s->wt (model prog w) A (VO it) (λr s₁=>match r with
     | none=>R (.ok .next) s₁
     | some v=>wt (model prog w) A (qO target it v) (λ_ s₁'=>wt (model prog w) A (assign target env v) (λ_ s₂ =>
         wt (model prog w) A (forIn ifs true λc r=>if r=true then do let ok <- isTrue c env (eval c env);pure (ForInStep.yield ok)else pure (ForInStep.yield r)) (λok s₃ =>
           if ok=true then wt (model prog w) A (eval elt env) (λx s₄ =>
             wt (model prog w) A (call (.builtin "list.append") [acc,x]) (λ_ s₅=>∃m,m<n/\I m s₅) (λ_ _=>False) s₄) (λ_ _=>False) s₃
           else ∃m,m<n/\I m s₃) (λ_ _=>False) s₂) (λ_ _=>False) s₁') (λ_ _=>False) s₁) (λ_ _=>False) s)
   (n:Nat) (h:I n s):codeAny (model prog w) A (.compLoop (.ListComp elt [⟨target,iter,ifs,0⟩] scope pos) 0 it acc env) R s:=by
 refine codeAny_loop rfl I (λn s hI=>?_) n h
 show wt _ A ((compTurn (.ListComp elt [⟨target,iter,ifs,0⟩] scope pos) 0 it acc env).onRaise (λx=>do noteFrame x env;theTreesLotGoes x)) _ _ s
 refine wpAny_noted ?_;rw[compTurn_list];refine wg (wpAny_standAt (wg (Wy (turn n s hI) (λr s₁ h₁=>?_) λ_ _ h'=>h'.elim)));cases r with
 | none=>exact wp h₁
 | some v =>
   refine wg (Wy h₁ (λ_ s₁' h₁'=>?_) λ_ _ h'=>h'.elim);refine wg (Wy h₁' (λ_ s₂ h₂=>wg (Wy h₂ (λok s₃ h₃=>?_) λ_ _ h'=>h'.elim)) λ_ _ h'=>h'.elim);cases ok with
   | false=>exact wp ⟨rfl,h₃⟩
   | true=>exact wg (wg (Wy h₃ (λx s₄ h₄=>wg (Wy h₄ (λ_ s₅ h₅=>wp (wp ⟨rfl,h₅⟩)) λ_ _ h'=>h'.elim)) λ_ _ h'=>h'.elim))
end
def ju(g:TG)(tt:TT)(te:TE)(J:It)(D:wf)(σ0:St)(H0:Hp)(Q:Hp->Prop):Prop :=
 ∃W:Nat->Nat->St->Hp->Prop,(∃m,W 0 m σ0 H0) /\ ∀i m σ' H',W i m σ' H' ->
  (J.stop i H'/\Q H')\/(J.go i H' /\ ∃M:St->Hp->Prop,(∀σ2 H2,M σ2 H2->∃m',m'<m/\W (i+1) m' σ2 H2) /\
   ∀x H2,J.fD i H' x H2->g x σ' H2 λσ3 H3=>tt σ3 H3 λok H4=>if ok=true then te σ3 H4 λy H5=>∃ys,H5 D=some (.lst ys)/\ys.length<wZ/\M σ3 (upd H5 D (.lst (ys++[y])))else M σ3 H4)
def jq(src:List (Option Nat))(wi:TI)(g:TG)(tt:TT)(te:TE):TE:=λσ H Q=>wi σ H λJ H1=>∀D,H1 D=none->ju g tt te J D (du src σ) (upd H1 D (.lst [])) (λH'=>Q (.ref D) H')
structure OW(Y:Cx)(tg:Expr)(J:It)(fp:List wf)(it:wf)(tn:Nat->wF->Prop):Prop where
 item:∀(i:Nat)(pins:List (wf × Obj))(s:wl)(σ : St)(H:Hp)(E:we->wl->Prop),Inv Y pins σ H s->(∀b∈fp,d8 Y pins H b)->tn i s.heap->J.go i H ->
   wt (model Y.prog Y.w) Y.A (VO (.ref it)) (λr s1=>∃u,r=some u/\wt (model Y.prog Y.w) Y.A (qO tg (.ref it) u) (λ_ s2=>∃x H',Inv Y pins σ H' s2/\aW x u/\J.fD i H x H'/\tn (i+1) s2.heap /\ ∀b∈fp,H' b=none) E s1) E s
 done:∀(i:Nat)(pins:List (wf × Obj))(s:wl)(σ : St)(H:Hp)(E:we->wl->Prop),Inv Y pins σ H s->(∀b∈fp,d8 Y pins H b)->tn i s.heap->J.stop i H ->
   wt (model Y.prog Y.w) Y.A (VO (.ref it)) (λr s1=>r=none/\Inv Y pins σ H s1) E s
theorem iR.RA{P:wH}{w:wI}{K:wb}{tg:Expr}{J:It}{fp:List wf}{it:wf}{tn:Nat->wF->Prop}(T:iR P w K tg J fp it tn){Y:Cx}(h1:Y.prog=P)(h2:Y.w=w)(h3:Y.K=K)(hc:Y.calm=true):OW Y tg J fp it tn:=by
 subst h1 h2 h3;exact⟨T.item Y rfl rfl rfl hc,T.done Y rfl rfl rfl hc⟩
section
variable{X:Cx}{pins:List (wf × Obj)}{σ : St}{H:Hp}{s:wl}{N':List Str}{scope:Scope}{cl:List (Str × wf)}{src:List (Option Nat)}{elt tgt iter:Expr}{ifs:List Expr}{pos:Pos}{wi:TI}{g:TG}{tt:TT}{te:TE}
structure cF(X:Cx)(N':List Str)(scope:Scope)(cl:List (Str × wf))(src:List (Option Nat)):Prop where
 kind:scope.kind=.function
 cell:∀y∈scope.names,y.2≠.cell
 names:∀y∈scope.names,y.2=.local->scope.names.lookup y.1=some .local
 kq:Jh X scope cl
 SI:JE X N' src
 Cn:∀(i:Nat) x,N'[i]? = some x->src[i]? ≠ some none->(relabel scope X.env).names.lookup x=some .cell\/(relabel scope X.env).names.lookup x=some .free
theorem MF{it:wf}{fp:List wf}{tn:Nat->wF->Prop}{J:It}{RQ:wf->Hp->Prop}{E:we->wl->Prop}{RR:we->wf->Result->wl->Prop}
   (TC:∀C s₀ H₀,OW (eT X N' scope cl C s₀ H₀ fp pins) tgt J fp it tn) (ok:cF X N' scope cl src)
   (hg:∀C s₀ H₀ fp pins,PG (eT X N' scope cl C s₀ H₀ fp pins) tgt g) (ht:∀C s₀ H₀ fp pins,nY (eT X N' scope cl C s₀ H₀ fp pins) ifs tt) (he:∀C s₀ H₀ fp pins,PE (eT X N' scope cl C s₀ H₀ fp pins) elt te)
   (I:Inv X pins σ H s) (T:iR X.prog X.w X.K tgt J fp it tn) (st:tn 0 s.heap) (hf:∀b∈fp,d8 X pins H b)
   (rd:∀D,H D=none->ju g tt te J D (du src σ) (upd H D (.lst [])) (λH'=>RQ D H'))
   (hRR:∀D C H' s' m,Inv X pins σ H' s'->s'.heap.Ns C m->d8 X pins H' C->RQ D H'->RR (.ref D) C (.ok .next) s') :
   wt (model X.prog X.w) X.A (newList []) (λacc s₃=>wt (model X.prog X.w) X.A (newFunctionEnv scope X.env.globals cl [] X.env.qual none .none (some X.env)) (λcenv s₄ =>
     codeAny (model X.prog X.w) X.A (.compStart (.ListComp elt [⟨tgt,iter,ifs,0⟩] scope pos) 0 (.ref it) acc {cenv with scope:=relabel scope X.env}) (RR acc cenv.locals) s₄) E s₃) E s:=by
 -- the list
 refine WC ?_ (by show 0<=wZ;exact Ww _);have hD:H s.heap.objs.size=none:=I.aG.fresh (wo _)
 have I3:Inv X pins σ (upd H s.heap.objs.size (.lst [])) {s with heap:=s.heap.push {cls:=.type "list",data:=.seq ([]:List we).toArray}} :=
   I.AJ (ys:=[]) (its:=[]) (t':=s.toks) .nil (Ww _)
 have old3:∀b o,s.heap.get? b=some o->(s.heap.push {cls:=.type "list",data:=.seq ([]:List we).toArray}).get? b=some o:=λb o e=>wn _ e
 have lt0:∀b∈fp,b<s.heap.objs.size:=λb hb=>by
   obtain⟨o,e,_⟩:=T.obj 0 _ st b hb;exact wA e
 have hf3:∀b∈fp,d8 X pins (upd H s.heap.objs.size (.lst [])) b:=λb hb=>⟨by rw[dU (wO (lt0 b hb))];exact(hf b hb).1,(hf b hb).2⟩
 have lt3:∀b∈fp,b<(s.heap.push {cls:=.type "list",data:=.seq ([]:List we).toArray}).objs.size:=λb hb=>by
   rw[VY];exact VL (lt0 b hb)
 have st3:tn 0 (s.heap.push {cls:=.type "list",data:=.seq ([]:List we).toArray}):=T.keep _ _ _ st λb _ o e=>old3 b o e
 obtain⟨W,⟨m0,w0⟩,turn⟩:=rd _ hD;generalize hs3:({s with heap:=s.heap.push {cls:=.type "list",data:=.seq ([]:List we).toArray}} : wl)=s3 at I3 ⊢;have hh3:s3.heap=s.heap.push {cls:=.type "list",data:=.seq ([]:List we).toArray}:=by rw[<- hs3]
 rw[<- hh3]at lt3 st3;clear old3 hs3 hh3;generalize hD':s.heap.objs.size=D at *
 -- the block's dict
 refine wpAny_newFunctionEnv ok.cell (by intro y hy;cases hy) (λh₁ hns₁ hsb₁=>?_) ok.kind;have old:∀b o,s3.heap.get? b=some o->h₁.get? b=some o:=λb o e=>hsb₁.extBut b o (wO (wA e)) (wn _ e)
 have hC:d8 X pins (upd H D (.lst [])) s3.heap.objs.size:=I3.ji (wo _) (I3.aG.fresh (wo _))
 have IB:∀tk,Inv (eT X N' scope cl s3.heap.objs.size s3 (upd H D (.lst [])) fp pins) [] (du src σ) (upd H D (.lst [])) {s3 with heap:=h₁,toks:=tk}:=λtk =>
   I3.block ok.kind ok.kq ok.SI hf3 lt3 hns₁ old ok.Cn
 have stB:tn 0 h₁:=T.keep _ _ _ st3 λb _ o e=>old b o e
 -- what is true of the iterator's records within
 have stat:∀{H':Hp} ,(∀b∈fp,H' b=none)->∀b∈fp,d8 (eT X N' scope cl s3.heap.objs.size s3 (upd H D (.lst [])) fp pins) [] H' b:=λhn b hb=>by
   obtain⟨_,f1,f2,f3,f4,f5⟩:=hf3 b hb;refine⟨hn b hb,wO (lt3 b hb),λz=>(wK.mp (I3.lE b z)).elim f1 f2,.inl hb,λx c e=>f4 x c (ok.kq.sub x c e),λp hp=>?_⟩;have hp':p∈(X.pn++pins)++[]:=hp;rw[We]at hp';exact f5 p hp'
 -- from within back to the frame around
 have back:∀{σ':St}{H':Hp}{s':wl},Inv (eT X N' scope cl s3.heap.objs.size s3 (upd H D (.lst [])) fp pins) [] σ' H' s'->Inv X pins σ H' s'/\(∃m,s'.heap.Ns s3.heap.objs.size m)/\d8 X pins H' s3.heap.objs.size:=λ{σ' H' s'} J=>by
   obtain⟨m,hn,_⟩:=J.loc;refine⟨I3.Ig (ch:=fp) J.os J.base J.aG J.bare (λb hb=>?_),⟨m,hn⟩,⟨J.free,hC.2⟩⟩;obtain⟨_,f1,_,f3,f4,f5⟩:=hf3 b hb;exact⟨f3,f1,f4,f5⟩
 have loop:∀tk,codeAny (model X.prog X.w) X.A (.compLoop (.ListComp elt [⟨tgt,iter,ifs,0⟩] scope pos) 0 (.ref it) (.ref D) (compEnvC scope cl s3.heap.objs.size X.env)) (RR (.ref D) s3.heap.objs.size) {s3 with heap:=h₁,toks:=tk}:=by
   intro tk
   refine zoO (λn s'=>∃i σ' H',Inv (eT X N' scope cl s3.heap.objs.size s3 (upd H D (.lst [])) fp pins) [] σ' H' s'/\tn i s'.heap/\(∀b∈fp,H' b=none)/\W i n σ' H') ?_ m0
     ⟨0,_,_,IB tk,stB,λb hb=>(hf3 b hb).1,w0⟩
   rintro n s4 ⟨i,σ4,H4,I4,st4,fr4,w4⟩;rcases turn i n σ4 H4 w4 with⟨stop,q⟩ | ⟨go,M,hM,step⟩
   . refine aI ((TC _ _ _).done i [] s4 σ4 H4 (λ_ _=>False) I4 (stat fr4) st4 stop) λr s5 ⟨hr,I5⟩=>?_
     subst hr;obtain⟨J,⟨m,hn⟩,hCf⟩:=back I5;exact hRR D _ H4 s5 m J hn hCf q
   . refine aI ((TC _ _ _).item i [] s4 σ4 H4 (λ_ _=>False) I4 (stat fr4) st4 go) λr s5 ⟨u,hr,h5⟩=>?_
     subst hr;refine aI h5 λ_ s6 ⟨x,H6,I6,r6,y6,st6,fr6⟩=>?_
     have I6':=I6.pinned (stat fr6) (T.obj _ _ st6)
     have again:∀{σ7:St}{H7:Hp}{s7:wl},Inv (eT X N' scope cl s3.heap.objs.size s3 (upd H D (.lst [])) fp pins) ([]++pC fp s6.heap) σ7 H7 s7->M σ7 H7 ->
         ∃m,m<n /\ ∃i σ' H',Inv (eT X N' scope cl s3.heap.objs.size s3 (upd H D (.lst [])) fp pins) [] σ' H' s7/\tn i s7.heap/\(∀b∈fp,H' b=none)/\W i m σ' H':=λ{σ7 H7 s7} I7 n7=>by
       obtain⟨m',hm,w7⟩:=hM σ7 H7 n7;refine⟨m',hm,i+1,σ7,H7,I7.p_,T.keep _ _ _ st6 λb hb o e=>(I7.pin (b,o) (vY _ (vY _ (tW hb e)))).1,λb hb=>?_,w7⟩;obtain⟨o,e,d⟩:=T.obj _ _ st6 b hb;exact(I7.pin (b,o) (vY _ (vY _ (tW hb e)))).2.1
     refine aI (hg _ _ _ _ _ _ s6 σ4 H6 x u _ I6' r6 (step x H6 y6)) λ_ s7 ⟨σ7,H7,I7,q7⟩=>?_
     refine aI (ht _ _ _ _ _ _ s7 σ7 H7 _ I7 q7) λk s8 ⟨H8,I8,q8⟩=>?_
     cases k with
     | false=>exact again I8 q8
     | true =>
       rw[if_pos rfl]at q8 ⊢;refine aI (he _ _ _ _ _ _ s8 σ7 H8 _ I8 q8) λy s9 ⟨yv,H9,I9,r9,ys,hys,hz,q9⟩=>?_
       exact aI (kE _ s9 σ7 H9 (.ref D) [yv] (.ref D) [y] (λ_ H'=>M σ7 H') I9 rfl (.cons r9 .nil) ⟨D,ys,yv,rfl,rfl,hys,hz,q9⟩) λ_ s10 ⟨_,H10,I10,_,q10⟩=>again I10 q10
 exact codeAny_compStart_list (loop _) (T.self _ _ _ _ _ stB (loop _))
theorem d4(hc:X.calm=true)(ok:cF X N' scope cl src)(hi:PI X tgt iter wi)
  (hg:∀C s₀ H₀ fp pins,PG (eT X N' scope cl C s₀ H₀ fp pins) tgt g) (ht:∀C s₀ H₀ fp pins,nY (eT X N' scope cl C s₀ H₀ fp pins) ifs tt) (he:∀C s₀ H₀ fp pins,PE (eT X N' scope cl C s₀ H₀ fp pins) elt te)
  (hs:∀x,foldedSetIterable iter X.env x=pure x:=by intro _;rfl):PE X (.ListComp elt [⟨tgt,iter,ifs,0⟩] scope pos) (jq src wi g tt te):=by
 intro pins s σ H Q I h;rw[eval_ListComp];refine wpAny_comprehension_free (use:=none) rfl hs ok.kq.kq ok.kind ok.names (aI (hi pins s σ H _ I h) λv s1 h1=>aI h1 λitv s2 h2=>?_);obtain⟨it,fp,tn,J,H2,e,I2,T,st2,f2,rd⟩:=h2;subst e;refine MF (RQ:=λD H'=>Q (.ref D) H') (RR:=λacc C=>compPost (model X.prog X.w) X.A X.xe none (EP X pins σ Q) acc C) (λ_ _ _=>T.RA rfl rfl rfl hc) ok hg ht he I2 T st2 f2 rd ?_;intro D C H' s' m J hn hC q;obtain⟨c0,c1,_,c3,c4,c5⟩:=hC;exact⟨m,hn,λh' sb=>⟨.ref D,H',J.turned (t':=s'.toks) (λb o hb e=>(sb.2 b hb).trans e) c0 c1 c3 c4 c5,rfl,q⟩⟩
theorem lP{i:Nat}{y:Str}{py spos:Pos}(hN:X.N.Nodup)(hy:X.N[i]? = some y)(hly:Loc X.env.scope y)(hc:X.calm=true)(ok:cF X N' scope cl src)(hi:PI X tgt iter wi)
  (hg:∀C s₀ H₀ fp pins,PG (eT X N' scope cl C s₀ H₀ fp pins) tgt g) (ht:∀C s₀ H₀ fp pins,nY (eT X N' scope cl C s₀ H₀ fp pins) ifs tt) (he:∀C s₀ H₀ fp pins,PE (eT X N' scope cl C s₀ H₀ fp pins) elt te)
  (hsw:swapsWith (.ListComp elt [⟨tgt,iter,ifs,0⟩] scope pos) (some (.Name y py)) spos.line X.env=pure true:=by rfl)
  (hs:∀x,foldedSetIterable iter X.env x=pure x:=by intro _;rfl) (hf:X.fn y=true\/X.env.scope.names.lookup y=some .local:=by first | exact .inl rfl | exact .inr rfl | assumption) :
  PS X (.Assign [.Name y py] (.ListComp elt [⟨tgt,iter,ifs,0⟩] scope pos) spos) (ly (jq src wi g tt te) (iX i)):=by
 intro pins s σ H D0 I h;rw[exec_Assign_Name_used _ _ _ _ hsw];refine wg (wpAny_standAt (wg ?_))
 show wt _ X.A (do let _ <- comprehension (.ListComp elt [⟨tgt,iter,ifs,0⟩] scope pos) scope X.env _ (newList []) false (eval iter X.env) (some (assign (.Name y py) X.env))) _ _ s
 refine wg (Wy (wpAny_comprehension_free (Q:=λ_ s'=>SP X pins D0 .next s') rfl hs ok.kq.kq ok.kind ok.names (aI (hi pins s σ H _ I h) λv s1 h1=>aI h1 λitv s2 h2=>?_))
  (λ_ s' hq=>wp (wp hq)) λ_ _ e=>e)
 obtain⟨it,fp,tn,J,H2,e,I2,T,st2,f2,rd⟩:=h2;subst e;refine MF (RQ:=λD H'=>iX i (.ref D) σ H' D0.nx) (RR:=λacc C=>compPost (model X.prog X.w) X.A X.xe (some (assign (.Name y py) X.env)) (λ_ s'=>SP X pins D0 .next s') acc C) (λ_ _ _=>T.RA rfl rfl rfl hc) ok hg ht he I2 T st2 f2 rd ?_;intro D C H' s' m J hn hC q;obtain⟨c0,c1,_,c3,c4,c5⟩:=hC
 show wt _ _ (assign (.Name y py) X.env (.ref D)) _ _ s'
 refine wpAny_assign_Name (NL J hN hy hly (v:=.ref D) rfl (λs'' J2 ⟨a,sb,ha⟩=>?_) hf)
 have hCa:C≠a:=by
  rcases ha with z | z
  ·rw[z];exact c1
  ·exact(c4 y a z).symm
 exact⟨m,hn.sameBut sb hCa,λh' sb'=>⟨_,H',J2.turned (t':=s''.toks) (λb o hb e=>(sb'.2 b hb).trans e) c0 c1 c3 c4 c5,q⟩⟩
end
abbrev Jo(h B:wF)(e:wf)(cls:we):Prop :=
 ∃oe vs,h.get? e=some oe/\oe.cls=cls/\oe.data=.fields vs/\vs[1]? = some .none/\vs[2]? = some .none/\oe.dict=none/\B.get? e=none
abbrev M6(h B:wF)(e:wf)(cls fl:we):Prop :=
 ∃oe vs T oT ts,h.get? e=some oe/\oe.cls=cls/\oe.data=.fields vs/\vs[1]? = some (.ref T)/\vs[2]? = some .none/\oe.dict=none/\B.get? e=none/\B.get? T=none/\T≠e/\h.get? T=some oT/\oT.data=.fields ts/\ts[3]? = some fl
structure eS(B:wF)(l:List Env)(e:wf)(cls fl:we)(h:wF):Prop where
 st:B.StaysIn h
 fr:h.FunFrames B l
 tr:M6 h B e cls fl
theorem zqT{f:Array we->Array we}(o:Obj):(Qn f o).dict=o.dict:=by
 obtain⟨c,d,dt,sl⟩:=o;cases dt<;>rfl
theorem kW{h:wF}{T:wf}{f:Obj->Obj}{b:wf}(n:b≠T):(h.update T f).get? b=h.get? b:=Qm _ _ (WA n)
theorem lV{h:wF}{T b:wf}{oT o:Obj}{ts:Array we}(hT:h.get? T=some oT)(dT:oT.data=.fields ts)(hb:h.get? b=some o)(hn:∀vs,o.data≠.fields vs):b≠T:=by
 rintro rfl;rw[hT]at hb;cases hb;exact hn _ dT
theorem A9{B:wF}{T b:wf}{o:Obj}(n:B.get? T=none)(q:B.get? b=some o):b≠T:=by
 rintro rfl;rw[n]at q;cases q
section
variable{M:Model}{A:wY}{E:we->wl->Prop}{s:wl}{B:wF}{l outer:List Env}{env:Env}{L e:wf}{cls fl:we}{Q:Unit->wl->Prop}
theorem eS.land(F:eS B l e cls fl s.heap)(k:∀h',eS B l e cls .none h'->s.heap.UpToSlots h'->Q () {s with heap:=h'}):wt M A (setFlight (.ref e) none) Q E s:=by
 obtain⟨st,fr,oe,vs,T,oT,ts,he,hc,hd,h1,h2,hdi,be,bT,ne,hT,dT,h3⟩:=F;have sz:3<ts.size:=(WV.mp h3).1;unfold setFlight;refine wg (vA he hd h1 ?_);rw[if_pos (by simp)];have at3:∀b,b≠T->(s.heap.update T (Qn (·.setIfInBounds 3 Value.none))).get? b=s.heap.get? b:=λb n=>kW n
 have tr:M6 (s.heap.update T (Qn (·.setIfInBounds 3 Value.none))) B e cls .none :=
  ⟨oe,vs,T,Qn (·.setIfInBounds 3 Value.none) oT,ts.setIfInBounds 3 Value.none,(at3 e ne.symm).trans he,hc,hd,h1,h2,hdi,be,bT,ne,
   Vv _ hT (qx (qg dT _)),qg dT _,by simp[sz]⟩
 refine wpAny_setField hT dT sz (k _ ⟨λb o q=>(at3 b (A9 bT q)).trans (st b o q),fr.of_keeps λb o hb hn=>⟨o,(at3 b (lV hT dT hb hn)).trans hb,rfl⟩,tr⟩ λb o hb hn=>⟨o.slots,(at3 b (lV hT dT hb hn)).trans hb⟩)
theorem IT{oe:Obj}{vs:Array we}{head:we}{had:Bool}(hfr:A.frames=some (env::outer))(hf:env.frame=some L)(st:B.StaysIn s.heap)(fr:s.heap.FunFrames B (env::outer))(he:s.heap.get? e=some oe)
  (hd:oe.data=.fields vs) (sz:1<vs.size) (h2:vs[2]? = some .none) (hdi:oe.dict=none) (be:B.get? e=none) (k:∀h',eS B (env::outer) e oe.cls (VP L) h'->s.heap.UpToSlots h'->Q () {s with heap:=h'}) :
  wt M A (do let a <- frameOf env;let pl <- entryPlaceOf L had;let b <- Xn head a .none (VP L) .none pl;setField (.ref e) 1 b) Q E s:=by
 have nfr:e ∉ (env::outer).filterMap (·.frame):=λz=>by
  obtain⟨_,o,ho,hnf⟩:=fr.mem z;rw[he]at ho;cases ho;exact hnf vs hd
 refine wg (wpAny_frameOf_fun hfr fr hf λg sg=>wg (wpAny_entryPlaceOf λpl hpl=>?_));unfold Xn newFields;refine wg (WC ?_ (hpl.sizeOk5 _ _ _ _ _));have eg:g.get? e=some oe:=(sg.2.1 e nfr).trans he
 have stg:B.StaysIn g:=λb o q=>by
  rw[sg.2.1 b λz=>?_]
  ·exact st b o q
  ·rw[(fr.mem z).1]at q;cases q
 generalize hob:({cls:=.type "traceback",data:=.fields ([head,.ref L,.none,VP L,.none]++(if pl.isEmpty then vf 6 Value.none else pl)).toArray} : Obj)=tb;have dtb:tb.data=.fields ([head,.ref L,.none,VP L,.none]++(if pl.isEmpty then vf 6 Value.none else pl)).toArray:=by rw[<- hob]
 have ftb:tb.isFreed=false:=qx dtb;have e2:=wn (h:=g) tb eg;have neT:g.objs.size≠e:=vg (wA eg)
 have at3:∀b o,b≠e->g.get? b=some o->((g.push tb).update e (Qn (·.setIfInBounds 1 (.ref g.objs.size)))).get? b=some o:=λb o n q=>by
  rw[kW n];exact wn _ q
 refine wpAny_setField e2 hd sz (k _ ?_ ?_)
 ·have d3:=qg hd (·.setIfInBounds 1 (Value.ref g.objs.size))
  refine⟨λb o q=>at3 b o (A9 be q) (stg b o q),fr.of_keeps λb o hb hn=>?_,_,_,g.objs.size,tb,_,Vv _ e2 (qx d3),XX _ _,d3,by simp[sz],?_,?_,be,stg.fresh,neT,?_,dtb,?_⟩
  ·obtain⟨sl,q⟩:=sg.2.2 b o hb
   exact⟨_,at3 b _ (lV he hd hb hn) q,rfl⟩
  ·rw[Array.getElem?_setIfInBounds_ne (by decide)];exact h2
  ·exact(zqT oe).trans hdi
  ·rw[kW neT];exact wM _ ftb
  ·first | (simp;done) | (rcases hpl with rfl | ⟨_,_,_,_,_,_,_,rfl⟩<;>simp)
 ·exact λb o hb hn=>by
   obtain⟨sl,q⟩:=sg.2.2 b o hb;exact⟨sl,at3 b _ (lV he hd hb hn) q⟩
theorem S_(hfr:A.frames=some (env::outer))(hf:env.frame=some L)(st:B.StaysIn s.heap)(fr:s.heap.FunFrames B (env::outer))(t:Jo s.heap B e cls)
  (k:∀h',eS B (env::outer) e cls (VP L) h'->s.heap.UpToSlots h'->Q () {s with heap:=h'}):wt M A (noteFrame (.ref e) env) Q E s:=by
 obtain⟨oe,vs,he,hc,hd,h1,h2,hdi,be⟩:=t;subst hc;unfold noteFrame;simp only[hf];refine wg (vA he hd h1 ?_);rw[if_neg (by decide)];exact IT hfr hf st fr he hd (WV.mp h1).1 h2 hdi be k
theorem eS.note(F:eS B (env::outer) e cls .none s.heap)(hfr:A.frames=some (env::outer))(hf:env.frame=some L)
  (k:∀h',eS B (env::outer) e cls (VP L) h'->s.heap.UpToSlots h'->Q () {s with heap:=h'}):wt M A (noteFrame (.ref e) env) Q E s:=by
 obtain⟨st,fr,oe,vs,T,oT,ts,he,hc,hd,h1,h2,hdi,be,bT,ne,hT,dT,h3⟩:=F;subst hc;unfold noteFrame;simp only[hf];refine wg (vA he hd h1 ?_);rw[if_pos (by simp)];refine wg (vA hT dT h3 ?_);rw[if_neg (by simp[VP])];refine wg (wpAny_setField hT dT (WV.mp h3).1 ?_);refine IT hfr hf (λb o q=>?_) (fr.of_keeps λb o hb hn=>⟨o,?_,rfl⟩) ?_ hd (WV.mp h1).1 h2 hdi be λh' F' sm=>k h' F' λb o hb hn=>sm b o ?_ hn
 ·show(xL _ _ _).get? b=_
  rw[kW (A9 bT q)];exact st b o q
 ·show(xL _ _ _).get? b=_
  rw[kW (lV hT dT hb hn)];exact hb
 ·show(xL _ _ _).get? e=_
  rw[kW ne.symm];exact he
 ·show(xL _ _ _).get? b=_
  rw[kW (lV hT dT hb hn)];exact hb
theorem zsn(hfr:A.frames=some (env::outer))(hf:env.frame=some L)(st:B.StaysIn s.heap)(fr:s.heap.FunFrames B (env::outer))(t:Jo s.heap B e cls)
  (k:∀h',eS B outer e cls .none h'->s.heap.UpToSlots h'->Q () {s with heap:=h'}):wt M A (leaving env (.ref e)) Q E s:=by
 unfold leaving;refine wg (S_ hfr hf st fr t λh1 F1 s1=>eS.land F1 λh2 F2 s2=>k h2 ⟨F2.st,F2.fr.2.2,F2.tr⟩ (s1.trans s2))
theorem eS.leave(F:eS B (env::outer) e cls .none s.heap)(hfr:A.frames=some (env::outer))(hf:env.frame=some L)
  (k:∀h',eS B outer e cls .none h'->s.heap.UpToSlots h'->Q () {s with heap:=h'}):wt M A (leaving env (.ref e)) Q E s:=by
 unfold leaving;refine wg (F.note hfr hf λh1 F1 s1=>eS.land F1 λh2 F2 s2=>k h2 ⟨F2.st,F2.fr.2.2,F2.tr⟩ (s1.trans s2))
end
theorem di.there{P:wH}{w:wI}{H:Hp}{h:wF}{a:wf}{o:HO}(x:di P w H h a o):∃u,h.get? a=some u:=by
 cases o with
 | lst xs=>obtain⟨_,_,_,_,e⟩:=x;exact⟨_,e⟩
 | tup xs=>obtain⟨_,_,_,_,e,_⟩:=x;exact⟨_,e⟩
 | dK kvs=>obtain⟨_,_,_,_,o,_,_,e,_⟩:=x;exact⟨_,e⟩
 | dT kvs=>obtain⟨_,_,_,_,o,_,_,e,_⟩:=x;exact⟨_,e⟩
 | set S n=>obtain⟨o,_,_,_,e,_⟩:=x;exact⟨_,e⟩
 | ins C dx fs=>obtain⟨_,_,_,e,_⟩:=x;exact⟨_,e⟩
 | own y=>exact x
 | xd fs=>obtain⟨_,⟨_,_,_,e,_⟩,_⟩:=x;exact⟨_,e⟩
 | sv lo hi=>obtain⟨_,_,_,e⟩:=x;exact⟨_,e⟩
 | fb ob u=>obtain⟨e,_⟩:=x;exact⟨_,e⟩
 | jX ps=>exact⟨_,x⟩
 | met f y=>exact⟨_,x⟩
 | ext φ=>obtain⟨_,e,_⟩:=x;exact e
structure mU(B:wF)(fs:List wf)(H H':Hp)(h:wF):Prop where
 gZ:∀a o,H' a=some o->∃u,B.get? a=some u
 old:∀b o,h.get? b=some o->H b=none->b ∉ fs->B.get? b=some o
 oz:∀b o,h.get? b=some o->b ∉ fs->∃u,B.get? b=some u
def eJ(P:wH)(w:wI):fG:=λouter H s E e s'=>∃(ex:wf)(C:we)(H':Hp)(B:wF),e=.ref ex/\s'.os=s.os/\AllBare s'.gens/\Un (dy outer) [] H H' s.heap s'.heap/\cU P w H' s'.heap /\
 eS B outer ex C .none s'.heap/\mU B (dy outer) H H' s.heap/\E C none H'
section
variable{B h h1 h':wF}{fs:List wf}{H H':Hp}{P:wH}{w:wI}
theorem mU.un(ov:mU B fs H H' h)(un:Un fs [] H H' h h1)(hfs:∀b∈fs,H b=none /\ ∃o,h.get? b=some o /\ ∀vs,o.data≠.fields vs)(st:B.StaysIn h')(sm:h1.UpToSlots h'):Un fs [] H H' h h':=by
 have slot:∀b o,h.get? b=some o->b∈fs->∃sl,h'.get? b=some {o with slots:=sl}:=λb o e hb=>by
  obtain⟨n,o',ho',nr⟩:=hfs b hb;rw[e]at ho';cases ho';obtain⟨sl,e1⟩:=un.any e n (by simp);obtain⟨sl2,e2⟩:=sm b _ e1 nr;exact⟨sl2,e2⟩
 refine⟨λb o e n nf _=>st b o (ov.old b o e n nf),λb o e _ hb _=>slot b o e hb,un.free,λb o e _=>?_,un.gR,un.gA,un.gT⟩
 by_cases hb:b∈fs
 ·obtain⟨sl,e1⟩:=slot b o e hb
  exact⟨_,e1⟩
 ·obtain⟨u,e1⟩:=ov.oz b o e hb
  exact⟨u,st b u e1⟩
theorem mU.aG(ov:mU B fs H H' h)(aG:cU P w H' h1)(st1:B.StaysIn h1)(st:B.StaysIn h'):cU P w H' h':=λa o e=>by
 refine(aG a o e).jS (λb u hb r=>?_) (λ_ z=>z) λ_ _ z=>z
 have:∃v,B.get? b=some v:=by
  rcases hb with rfl | hb
  ·exact ov.gZ _ _ e
  ·exact ov.gZ _ _ hb
 obtain⟨v,ev⟩:=this;have e2:=st1 b v ev;rw[r]at e2;cases e2;exact st b u ev
end
section
variable{X:Cx}{pins:List (wf × Obj)}{σ : St}{H H':Hp}{s s':wl}{B:wF}{ex:wf}{C:we}{E:XK}{E':we->wl->Prop}
theorem NC(I:Inv X pins σ H s)(hx:X.ex=[])(os:s'.os=s.os)(bare:AllBare s'.gens)(un:Un (dy X.stack) [] H H' s.heap s'.heap)(aG:cU X.prog X.w H' s'.heap)(stB:B.StaysIn s'.heap)(ov:mU B (dy X.stack) H H' s.heap)
  (q:E C none H') (fly:∀(Q:Unit->wl->Prop),(∀h',eS B X.outer ex C .none h'->s'.heap.UpToSlots h'->Q () {s' with heap:=h'})->wt (model X.prog X.w) X.A (leaving X.env (.ref ex)) Q E' s') :
  wt (model X.prog X.w) X.A (leaving X.env (.ref ex)) (λ_ s''=>eJ X.prog X.w X.outer X.H₀ X.s₀ E (.ref ex) s'') E' s':=by
 have base:Un X.fs [] X.H₀ H X.s₀.heap s.heap:=by have:=I.base;rwa[hx]at this
 have nL:∀b o,X.s₀.heap.get? b=some o->b ∉ X.fs->b ∉ dy X.stack:=λb o e n z=>by
  rcases wK.mp (I.lE b z)with r | r
  ·exact wO (wS (wA e) I.ok.above) r
  ·exact n r
 have old:∀b o,X.s₀.heap.get? b=some o->X.H₀ b=none->b ∉ X.fs->B.get? b=some o:=λb o e n nf =>
  ov.old b o (base.keep b o e n nf (by simp)) (base.free b o e n (by simp)) (nL b o e nf)
 have oz:∀b o,X.s₀.heap.get? b=some o->b ∉ X.fs->∃u,B.get? b=some u:=λb o e nf=>by
  obtain⟨o',e1⟩:=base.there b o e (by simp);exact ov.oz b o' e1 (nL b o e nf)
 refine fly _ λh' F sm=>⟨ex,C,H',B,rfl,os.trans I.os,bare,⟨λb o e n nf _=>F.st b o (old b o e n nf),λb o e n hb _=>?_,λb o e n _=>?_,λb o e _=>?_,λb xs e=>un.gR b xs (base.gR b xs e),
  λb o u e=>un.gA b o u (base.gA b o u e),λb ps e=>?_⟩,λa o e=>?_,F,⟨ov.gZ,old,oz⟩,q⟩
 ·obtain⟨sl,e1⟩:=base.slot b o e n hb (by simp)
  obtain⟨sl',e2⟩:=un.any e1 (base.free b o e n (by simp)) (by simp);obtain⟨_,o',ho',nr⟩:=I.ok.eG.mem hb;rw[e]at ho';cases ho';obtain⟨sl2,e3⟩:=sm b _ e2 nr;exact⟨sl2,e3⟩
 ·obtain⟨o',e1⟩:=base.there b o e (by simp)
  exact un.free b o' e1 (base.free b o e n (by simp)) (by simp)
 ·by_cases hb:b∈X.fs
  ·obtain⟨_,o',ho',nr⟩:=I.ok.eG.mem hb
   rw[e]at ho';cases ho';have n:X.H₀ b=none:=I.ok.iK b hb;obtain⟨sl,e1⟩:=base.slot b o e n hb (by simp);obtain⟨sl',e2⟩:=un.any e1 (base.free b o e n (by simp)) (by simp);obtain⟨sl2,e3⟩:=sm b _ e2 nr;exact⟨_,e3⟩
  ·obtain⟨u,e1⟩:=oz b o e hb
   exact⟨u,F.st b u e1⟩
 ·obtain⟨m1,e1⟩:=base.gT b ps e
  obtain⟨m2,e2⟩:=un.gT b _ e1;exact⟨m1++m2,by rw[e2,Xv]⟩
 ·refine(aG a o e).jS (λb u hb r=>?_) (λ_ z=>z) λ_ _ z=>z
  have:∃v,B.get? b=some v:=by
   rcases hb with rfl | hb
   ·exact ov.gZ _ _ e
   ·exact ov.gZ _ _ hb
  obtain⟨v,ev⟩:=this;have e2:=stB b v ev;rw[r]at e2;cases e2;exact F.st b u ev
theorem zvu{e:we}(I:Inv X pins σ H s)(hx:X.ex=[])(hs:X.stack=X.env::X.outer)(hf:X.env.frame=some X.env.locals)(h:eJ X.prog X.w X.stack H s E e s') :
  wt (model X.prog X.w) X.A (leaving X.env e) (λ_ s''=>eJ X.prog X.w X.outer X.H₀ X.s₀ E e s'') E' s':=by
 obtain⟨ex,C,H',B,rfl,os,bare,un,aG,F,ov,q⟩:=h;rw[hs]at F;exact NC I hx os bare un aG F.st ov q λQ k=>F.leave (I.ok.frames.trans (congrArg some hs)) hf k
theorem zsF{h':wF}{vs:List we}(I:Inv X pins σ H s)(hx:X.ex=[])(hs:X.stack=X.env::X.outer)(hf:X.env.frame=some X.env.locals)(m:uY s.heap h' ex C vs)(q:E C none H) :
  wt (model X.prog X.w) X.A (leaving X.env (.ref ex)) (λ_ s''=>eJ X.prog X.w X.outer X.H₀ X.s₀ E (.ref ex) s'') E' {s with heap:=h'}:=by
 obtain⟨B,hB⟩:∃B,B=uw s.heap (dy X.stack):=⟨_,rfl⟩;have hin:∀env∈X.stack,∀b,env.frame=some b->b∈dy X.stack:=λenv he b hb=>qQ.mpr ⟨env,he,hb⟩
 have frB:s.heap.FunFrames B X.stack:=by rw[hB];exact PySem.W.funFrames_hide I.stack hin
 have getB:∀{b o},s.heap.get? b=some o->b ∉ dy X.stack->B.get? b=some o:=λe n=>by rw[hB];exact Xj _ e n
 have ofB:∀{b o},B.get? b=some o->s.heap.get? b=some o:=λr=>by rw[hB]at r;exact Xu _ r
 have nfr:∀a o,H a=some o->a ∉ dy X.stack:=λa o e z=>by
  have:=I.q_ a z;rw[e]at this;cases this
 obtain⟨t,he,_,_⟩:=m.there
 refine NC (B:=B) (s':={s with heap:=h'}) I hx rfl I.bare (Un.kept m.keeps) (I.aG.kept m.keeps) (λb o r=>m.keeps b o (ofB r))
  ⟨λa o e=>?_,λb o e _ nf=>getB e nf,λb o e nf=>⟨o,getB e nf⟩⟩ q λQ k=>?_
 ·obtain⟨u,e1⟩:=(I.aG a o e).there
  exact⟨u,getB e1 (nfr a o e)⟩
 ·rw[hs]at frB
  refine zsn (s:={s with heap:=h'}) (I.ok.frames.trans (congrArg some hs)) hf (λb o r=>m.keeps b o (ofB r)) (frB.of_keeps λb o hb _=>⟨o,m.keeps b o hb,rfl⟩) ⟨_,_,he,rfl,rfl,rfl,rfl,rfl,?_⟩ k;cases z:B.get? ex with
  | none=>rfl
  | some o =>
   have:=ofB z;rw[m.new]at this;cases this
end
theorem Ep{P:wH}{w:wI}{K:wb}{mg:Str->Option we}{base:wF}{N:List Str}{qual:Str}{scope:Scope}{f:wf}{cd:we}{A:wY}{outer:List Env}{s:wl}{H:Hp}{E:XK} :
  nA (eJ P w) (ie (eJ P w) P w K mg base N qual scope f cd A outer s H E) E:=λpins σ H1 s1 e s' I h=>zvu I rfl rfl rfl h
def Km(X:Cx)(C:we)(E:XK):Prop:=∀(pins:List (wf × Obj))(σ : St)(H:Hp)(s:wl)(h':wF)(ex:wf)(vs:List we),Inv X pins σ H s->uY s.heap h' ex C vs->E C none H->X.xe (.ref ex) {s with heap:=h'}
theorem Pq{P:wH}{w:wI}{K:wb}{mg:Str->Option we}{base:wF}{N:List Str}{qual:Str}{scope:Scope}{f:wf}{cd C:we}{A:wY}{outer:List Env}{s:wl}{H:Hp}{E:XK} :
  Km (ie (eJ P w) P w K mg base N qual scope f cd A outer s H E) C E:=λpins σ H1 s1 h' ex vs I m q=>zsF I rfl rfl rfl m q
def oP:List we:=[.type "ValueError",.type "Exception",.type "BaseException",.type "object"]
theorem zx2{K:wb}{h:wF}{C:wf}{bmB:List we}{newId:String}(X:K.In h)(q:qd K C bmB newId=true) :
  ∃bm N nm qn bs hd sn sub ab col dd k0 k1 k2 k3 k5 mN,h.get? C=some (excClassObj nm qn C N bs bm hd sn sub ab col dd k0 k1 k2 k3 k5 newId)/\h.Ns N mN/\mN "__init__"=none/\OwnTail h bmB bm:=by
 unfold qd at q
 split at q
 case h_2=>cases q
 rename_i dd cd sl ho
 split at q
 case h_2=>cases q
 rename_i C' bm k0 k1 k2 k3 n k5 hm hs;simp only[wV,beq_iff_eq,Vb]at q;obtain⟨⟨⟨⟨⟨rfl,rfl⟩,hdel⟩,ht⟩,aG⟩,hni⟩:=q;obtain⟨nm,bs,mro,ns,qn,hd,sn,sub,ab,col,del⟩:=cd;dsimp only at hm hdel aG hni;subst hm hdel
 have e:sl = #[k0,k1,k2,k3,some (.builtin n),k5]:=by
  cases sl;simp only at hs;rw[hs]
 subst e;exact⟨bm,ns,nm,qn,bs,hd,sn,sub,ab,col,dd,k0,k1,k2,k3,k5,_,X _ _ ho,.of_isNs (PySem.W.isNs_of_in X aG),PySem.W.nsMap_none_of_in X aG hni,PySem.W.tail_of_in X ht⟩
section
variable{X:Cx}{x:Str}{C:wf}{E:XK}{e:Expr}{es:List Expr}{t:TA}{np cpos pos:Pos}
def Kf(C:we)(E:XK)(t:TA):TS:=λ_ σ H=>t σ H λvs H1=>vs.length<=wZ/\E C none H1
theorem JM(q:qd X.K C oP "ValueError.__new__"=true)(hc:X.calm=true)(hg:Gl X x)(hm:X.mg x=some (.ref C))(Z:Km X (.ref C) E)(ha:PA X (e::es) t)(hdb:(x == ("__debug__" : Str))=false:=by decide)
  (he:w5 (e::es) X.env=(false,eval e X.env)::w5 es X.env:=by rfl) (hpl:(Vh cpos (w5 es X.env)).any (·.1)=false:=by rfl) :
  PS X (.Raise (some (.Call (.Name x np) (e::es) [] cpos)) none pos) (Kf (.ref C) E t):=by
 intro pins s σ H D I h;obtain⟨bm,N,nm,qn,bs,hd,sn,sub,ab,col,dd,k0,k1,k2,k3,k5,mN,hC,hN,hni,T⟩:=zx2 I.ok.mod.oI q
 refine wpAny_Raise_call_subU (C:=C) (nm:=nm) (q:=qn) (N:=N) (bs:=bs) (bm:=bm) (hdct:=hd) (sn:=sn) (sub:=sub) (ab:=ab) (col:=col) (dd:=dd) (k0:=k0) (k1:=k1) (k2:=k2) (k3:=k3) (k5:=k5)
  Xd (by decide) Xd (mN:=mN) (T.hasType (by decide)) (I.ok.hd hc) (by rw[he];show(false || (Vh cpos (w5 es X.env)).any (·.1))=false;rw[hpl];rfl) hni (nU I hg hm ⟨rfl,?_⟩ hdb)
 have ha':=ha cpos pins s σ H _ I h;rw[he]at ha' ⊢;refine x6 (Wy ha' (λus s2 ⟨vs,H2,I2,r,z,q2⟩=>⟨rfl,by rw[<- r.length];exact z,I2.bk _ _ hC,hN.keeps I2.bk,T.keeps I2.bk,λh' ex m=>Z pins σ H2 s2 h' ex us I2 m q2⟩) λ_ _ y=>y)
end
abbrev Cx.at(X:Cx)(pn:List (wf × Obj))(E:we->wl->Prop):Cx:={X with pn:=pn,xe:=E}
abbrev Cx.rm(X:Cx)(pn:List (wf × Obj))(ex:wf)(oe:Obj):Cx:={X with pn:=pn++[(ex,oe)],xe:=λ_ _=>False,A:=X.A.mark (some (.ref ex)),calm:=false}
section
variable{X:Cx}{pins pins':List (wf × Obj)}{σ : St}{H:Hp}{s:wl}{ex:wf}{oe:Obj}
theorem Inv.SH(I:Inv X pins σ H s)(E:we->wl->Prop):Inv (X.at (X.pn++pins) E) [] σ H s :=
 ⟨⟨I.ok.mod,I.ok.kind,I.ok.glob,I.ok.blt,I.ok.above,I.ok.inj,I.ok.has,I.ok.ki,I.ok.hd,I.ok.frames,I.ok.kM,I.ok.oh,I.ok.bs,I.ok.ic,I.ok.jR,I.ok.ko,I.ok.eG,I.ok.iK⟩,I.os,I.bare,I.base,I.loc,I.cell,I.free,I.fN,
  λp hp=>I.pin p (by rw[We]at hp;exact hp),I.aG,I.len⟩
theorem Inv.nI{E:we->wl->Prop}(I:Inv (X.at (X.pn++pins) E) pins' σ H s):Inv X pins σ H s :=
 ⟨⟨I.ok.mod,I.ok.kind,I.ok.glob,I.ok.blt,I.ok.above,I.ok.inj,I.ok.has,I.ok.ki,I.ok.hd,I.ok.frames,I.ok.kM,I.ok.oh,I.ok.bs,I.ok.ic,I.ok.jR,I.ok.ko,I.ok.eG,I.ok.iK⟩,I.os,I.bare,I.base,I.loc,I.cell,I.free,I.fN,
  λp hp=>I.pin p (VR _ hp),I.aG,I.len⟩
theorem Inv.Su(I:Inv X pins σ H s)(he:s.heap.get? ex=some oe)(hn:H ex=none)(nl:ex≠X.env.locals)(nf:ex ∉ X.fs)(nc:∀v,oe.data≠.cell v):Inv (X.rm (X.pn++pins) ex oe) [] σ H s :=
 ⟨⟨I.ok.mod,I.ok.kind,I.ok.glob,I.ok.blt,I.ok.above,I.ok.inj,I.ok.has,I.ok.ki,λz=>Bool.noConfusion z,I.ok.frames,I.ok.kM,I.ok.oh,I.ok.bs,I.ok.ic,I.ok.jR,I.ok.ko,I.ok.eG,I.ok.iK⟩,I.os,I.bare,I.base,I.loc,I.cell,I.free,I.fN,
  λp hp=>by
   rw[We]at hp;rcases Wk.mp hp with z | z
   ·exact I.pin p z
   ·cases vc.mp z
    exact⟨he,hn,nl,nf,nc⟩,I.aG,I.len⟩
theorem Inv.rp(ok:X.Ok)(I:Inv (X.rm (X.pn++pins) ex oe) pins' σ H s):Inv X pins σ H s :=
 ⟨ok,I.os,I.bare,I.base,I.loc,I.cell,I.free,I.fN,λp hp=>I.pin p (VR _ (VR _ hp)),I.aG,I.len⟩
end
def OE(CX:fG)(X:Cx)(W:St->XK):Prop:=∀(pins:List (wf × Obj))(σ : St)(H:Hp)(s:wl)(e:we)(s':wl),Inv X pins σ H s->CX X.stack H s (W σ) e s'->X.xe e s'
def DV(sp:Sp)(W:St->XK)(t:TA):TE:=λσ H Q=>t σ H λvs H1=>sp vs H1 Q (W σ)
section
variable{X:Cx}{CX:fG}{k:Nat}{f:wf}{fd:wE}{ps:List Str}{sp:Sp}{W:St->XK}{x:Str}{p pos:Pos}{e:Expr}{es:List Expr}{t:TA}
theorem zxj(F:aJ X.prog X.w X.K X.mg X.base CX k f fd ps sp)(hr:dN k X.A)(hg:Gl X x)(hm:X.mg x=some (.ref f))(hk:VX X.K (.ref f)=true)(hb:kY X.K fd ps [])(hx:OE CX X W)
  (ha:PA X (e::es) t) (hdb:(x == ("__debug__" : Str))=false:=by decide) (he:w5 (e::es) X.env=(false,eval e X.env)::w5 es X.env:=by rfl) (hpl:(Vh pos (w5 es X.env)).any (·.1)=false:=by rfl) :
  PE X (.Call (.Name x p) (e::es) [] pos) (DV sp W t):=by
 intro pins s σ H Q I h;refine Qc (nU I hg hm ?_ hdb);refine Xw (h₀:=X.base) I.ok.mod.oI hk (aI (ha pos pins s σ H _ I h) λus s1 ⟨vs,H1,I1,r,q⟩=>⟨I1.dk,?_⟩) he hpl;have hl:us.length=ps.length:=by rw[<- r.length];exact F.len _ _ _ _ q
 have hbd:BindsTo s1 fd ⟨us,[]⟩ (ps.zip us):=by simpa using hb s1 us I1.dk (by simpa using hl)
 refine wpAny_call (codeAny_mono (F.run X.A X.stack s1 H1 ⟨us,[]⟩ us vs Q (W σ) hr I1.Ij hbd r q) λr s' hq=>?_);cases r with
 | error e=>exact hx pins σ H1 s1 e s' I1 hq
 | ok fl =>
  cases fl with
  | ret u=>exact I1.after hq
  | next=>exact WU hq
  | brk=>exact WU hq
  | cont=>exact WU hq
end
structure DT(C:we)(oe:Obj):Prop where
 cls:oe.cls=C
 fld:∃vs,oe.data=.fields vs/\vs[2]? = some .none
 dict:oe.dict=none
section
variable{X:Cx}{x n:Str}{G:we}{i:Nat}{b₀ : vd}{body suite:List vd}{np hpos pos:Pos}{tb:(St->XK)->TS}{th:wf->we->TS}
end
structure zCE(k:Nat)(A:wY):Prop where
 dp:A.depth+3*k+5<recursionLimit
 un:A.units+16*k+200<Wz
structure zC8(P:wH)(w:wI)(K:wb)(mg:Str->Option we)(base:wF)(k:Nat)(f:wf)(fd:wE)(ps:List Str)(sp:wf->we->Sp):Prop where
 len:∀ex C vs H Q E,sp ex C vs H Q E->vs.length=ps.length
 run:∀(A:wY)(outer:List Env)(s:wl)(H:Hp)(args:Args)(us:List we)(vs:List V)(Q:VK)(E:XK)(ex:wf)(C:we)(oe:Obj),zCE k A->A.handled=some (.ref ex)->s.heap.get? ex=some oe->DT C oe->H ex=none->ex ∉ dy outer ->
   pV P w K mg base A outer s H->BindsTo s fd args (ps.zip us)->aM vs us->sp ex C vs H Q E->codeAny (model P w) A (.call (.ref f) args) (CR aS outer P w H s Q E) s
structure Hd(X:Cx)(ex:wf)(C:we)(oe:Obj):Prop where
 hd:X.A.handled=some (.ref ex)
 pn:(ex,oe)∈X.pn
 ob:DT C oe
section
variable{P:wH}{w:wI}{K:wb}{mg:Str->Option we}{base:wF}
end
section
variable{X:Cx}{k:Nat}{f:wf}{fd:wE}{ps:List Str}{sp:wf->we->Sp}{x:Str}{p pos:Pos}{e:Expr}{es:List Expr}{t:TA}{ex:wf}{C:we}{oe:Obj}
end
def gF(cells:List (Str × wf)):List (Str × W0)->List (Str × wf)->List (Str × wf)
 | [],acc=>acc
 | (n,k)::r,acc=>gF cells r (if(k == NameKind.free)=true then(n,(cells.lookup n).getD 0)::acc else acc)
theorem zkm{scope:Scope}{env:Env}(h:∀y∈scope.names,y.2=.free->∃c,env.cells.lookup y.1=some c):closureFor scope env=pure (gF env.cells scope.names []):=by
 unfold closureFor;generalize scope.names=names at h
 suffices g:∀(names:List (Str × W0))(acc:List (Str × wf)),(∀y∈names,y.2=.free->∃c,env.cells.lookup y.1=some c) ->
     (forIn names acc λ(x:Str × W0)(r:List (Str × wf))=>if(x.2 == NameKind.free)=true then do let c <- cellOf env x.1;pure (ForInStep.yield ((x.1,c)::r))else pure (ForInStep.yield r):Sem (List (Str × wf)))=pure (gF env.cells names acc) by
   have:=g names [] h
   show(_ >>= pure)=_
   rw[bind_pure];exact this
 intro names
 induction names with
 | nil=>intro acc _;rfl
 | cons y r ih =>
   intro acc hy;obtain⟨n,k⟩:=y;rw[qM]
   by_cases e:(k == NameKind.free)=true
   . obtain⟨c,hc⟩:=hy (n,k) wC (beq_iff_eq.mp e)
     have hcell:cellOf env n=pure c:=by
       unfold cellOf;rw[hc]
     simp only[e,if_true,hcell,pure_bind];rw[ih _ λz hz=>hy z (wy _ hz)]
     show _=pure (gF env.cells r _)
     simp only[e,if_true,hc,Qp]
   . simp only[e,pure_bind]
     rw[if_neg (by simp),pure_bind];dsimp only;rw[ih _ λz hz=>hy z (wy _ hz)]
     show _=pure (gF env.cells r _)
     rw[if_neg e]
theorem IC{cells:List (Str × wf)} : ∀(names:List (Str × W0))(acc:List (Str × wf))(x:Str)(c:wf),(∀y∈names,y.2=.free->∃c,cells.lookup y.1=some c)->(∀x c,acc.lookup x=some c->cells.lookup x=some c) ->
  (gF cells names acc).lookup x=some c->cells.lookup x=some c
 | [],acc,x,c,_,ha,h=>ha x c h
 | (n,k)::r,acc,x,c,hy,ha,h=>by
  unfold gF at h;refine IC r _ x c (λz hz=>hy z (wy _ hz)) (λx' c' h'=>?_) h
  split at h'
  ·rename_i e
   obtain⟨c0,hc0⟩:=hy (n,k) wC (beq_iff_eq.mp e);rw[qC]at h'
   split at h'
   ·rename_i e2
    rw[beq_iff_eq.mp e2,hc0];rw[hc0]at h';exact h'
   ·exact ha x' c' h'
  ·exact ha x' c' h'
theorem JD{cells:List (Str × wf)} : ∀(names:List (Str × W0))(acc:List (Str × wf))(x:Str),(∃c,acc.lookup x=some c)->∃c,(gF cells names acc).lookup x=some c
 | [],acc,x,h=>h
 | (n,k)::r,acc,x,h=>by
  unfold gF;refine JD r _ x ?_
  split
  ·rw[qC]
   split
   ·exact⟨_,rfl⟩
   ·exact h
  ·exact h
theorem Of{cells:List (Str × wf)} : ∀(names:List (Str × W0))(acc:List (Str × wf))(x:Str),(x,NameKind.free)∈names->∃c,(gF cells names acc).lookup x=some c
 | [],acc,x,h=>nomatch h
 | (n,k)::r,acc,x,h=>by
  unfold gF;rcases wK.mp h with e | e
  ·cases e
   rw[if_pos (by decide)];refine JD r _ _ ?_;rw[qC];simp
  ·exact Of r _ x e
theorem JX(g:Str->W0->W0):∀(names:List (Str × W0))(x:Str),(names.map λy=>(y.1,g y.1 y.2)).lookup x=(names.lookup x).map (g x)
 | [],x=>rfl
 | (n,k)::r,x=>by
  rw[w9,qC,qC];dsimp only
  by_cases e:(x == n)=true
  ·have e':=beq_iff_eq.mp e
   subst e';simp
  ·rw[um]at e
   simp only[e];exact JX g r x
def rC(env:Env)(x:Str)(k:W0):W0:=if(k == .free&&env.scope.kind == .function&&env.kindOf x == some .cell)=true then .cell else k
theorem Jl{scope:Scope}{env:Env}(x:Str):(relabel scope env).names.lookup x=(scope.names.lookup x).map (rC env x):=by
 rw[<- JX]
 show(scope.names.map _).lookup x=_
 congr 2
 funext ⟨n,k⟩
 dsimp only[rC]
 split<;>rfl
def cV(inner outer:List (Str × W0))(N N':List Str)(src:List (Option Nat)):Bool :=
 (inner.all λy=>(y.2 != .cell)&&(y.2 != .local || inner.lookup y.1 == some .local)&&(y.2 != .free || outer.lookup y.1 == some .cell)) &&
 (N'.length == src.length)&&((N'.zip src).all λp=>match p.2 with
  | none=>true
  | some j=>N[j]? == some p.1&&outer.lookup p.1 == some .cell&&inner.lookup p.1 == some .free)
theorem cF.by{X:Cx}{N':List Str}{scope:Scope}{src:List (Option Nat)}(hk:scope.kind=.function)(hc:cV scope.names X.env.scope.names X.N N' src=true)(hf:∀x,X.env.scope.names.lookup x=some .cell->∃c,X.env.cells.lookup x=some c:=by exact λx h=>B6 h) :
  cF X N' scope (gF X.env.cells scope.names []) src:=by
 unfold cV at hc;simp only[wV,WI,beq_iff_eq,Bool.or_eq_true,bne_iff_ne,ne_eq]at hc;obtain⟨⟨h1,h2⟩,h3⟩:=hc;have fr:∀y∈scope.names,y.2=.free->∃c,X.env.cells.lookup y.1=some c:=λy hy e=>hf _ (((h1 y hy).2).elim (λz=>absurd e z) id)
 have at3:∀(i:Nat)(x:Str)(j:Nat),N'[i]? = some x->src[i]? = some (some j)->X.N[j]? = some x/\X.env.scope.names.lookup x=some .cell/\scope.names.lookup x=some .free:=λi x j e1 e2=>by
  have m:(x,some j)∈N'.zip src:=by
   rw[xU];exact⟨i,by rw[List.getElem?_zip_eq_some];exact⟨e1,e2⟩⟩
  have:=h3 _ m;simp only[wV,beq_iff_eq]at this;exact⟨this.1.1,this.1.2,this.2⟩
 refine⟨hk,λy hy=>((h1 y hy).1).1,λy hy e=>(((h1 y hy).1).2).elim (λz=>absurd e z) id,⟨zkm fr,λx c e=>IC _ _ x c fr (λ_ _ z=>by simp at z) e,λx e=>?_⟩,⟨h2,λi j x e1 e2=>⟨(at3 i x j e1 e2).1,(at3 i x j e1 e2).2.1⟩⟩,λi x e1 e2=>?_⟩
 ·rw[Jl]at e
  cases q:scope.names.lookup x with
  | none=>rw[q]at e;simp at e
  | some k =>
   have hm:=Vg q
   have hk:k=.free:=by
    rw[q]at e;simp only[uJ,Q4,rC]at e;have nc:k≠.cell:=((h1 _ hm).1).1;rcases e with e | e
    ·split at e
     ·rename_i z;simp only[wV,beq_iff_eq]at z;exact z.1.1
     ·exact absurd e nc
    ·split at e
     ·cases e
     ·exact e
   subst hk;exact Of _ _ x hm
 ·obtain⟨o,ho⟩:∃o,src[i]? = some o:=by
   have:i<src.length:=by rw[<- h2];exact(WE.mp e1).1
   exact⟨src[i],by simp[this]⟩
  cases o with
  | none=>exact absurd ho e2
  | some j =>
   have:=(at3 i x j e1 ho).2.2;rw[Jl,this];simp only[uJ,Q4,rC]
   split
   ·exact .inl rfl
   ·exact .inr rfl
section
variable{prog:wH}{w:wI}{A:wY}{E:we->wl->Prop}{s:wl}
structure zC9(A:wY)(h:wF)(ex:wf):Prop where
 hd:A.handled=some (.ref ex)
 ob:∃oe vs,h.get? ex=some oe/\oe.data=.fields vs/\vs[2]? = some .none
end
section
variable{X:Cx}{ex:wf}{C:we}{oe:Obj}{pins:List (wf × Obj)}{σ : St}{H:Hp}{s:wl}{pos:Pos}
variable{tg l:Expr}{tl:TE}
variable{N':List Str}{scope:Scope}{cl:List (Str × wf)}{src:List (Option Nat)}{elt tgt iter:Expr}{ifs:List Expr}{wi:TI}{g:TG}{tt:TT}{te:TE}
end
structure zCU(K:wb)(C:wf):Prop where
 ga:Vi K (.ref C) "__getattribute__"=some (some (.builtin "BaseException.__getattribute__"))
 gh:Vi K (.ref C) "__getattr__"=some none
 cl:(PySem.W.clsIn K C).isSome=true
 at_:Vi K (.ref C) "__class__"=some (some (.builtin "object.__class__"))
 gt:Q2 K (.builtin "object.__class__") "__get__"=some (some (.builtin "getset_descriptor.__get__"))
 tk:uz K (.builtin "object.__class__")=some true
 mr:Xg K C (.type "object")=some true
 be:Xg K C (.type "BaseException")=some true
def Af(K:wb)(g:TG)(tt:TT)(te:TE)(src:List (Option Nat))(σ : St)(x:V)(H1:Hp)(Q:VK):Prop :=
 ∃a,x=.ref a/\(∃xs,aK K H1 a xs) /\ ∀D,H1 D=none->ju g tt te (iY K a) D (du src σ) (upd H1 D (.lst [])) (λH'=>Q (.ref D) H')
def zG(K:wb)(g:TG)(tt:TT)(te:TE)(src:List (Option Nat))(σ : St)(x:V)(H1:Hp)(Q:VK):Prop :=
 ∃a,x=.ref a/\(∃xs,aR K H1 a xs) /\ ∀D,H1 D=none->ju g tt te (iM K a) D (du src σ) (upd H1 D (.lst [])) (λH'=>Q (.ref D) H')
def Bg(g:TG)(tt:TT)(te:TE)(src:List (Option Nat))(σ : St)(vs:List V)(H1:Hp)(Q:VK):Prop :=
 ∃j:Int,vs=[.int j] /\ -(2^62)<=j/\j<2^62 /\ ∀D,H1 D=none->ju g tt te (fT 0 j.toNat) D (du src σ) (upd H1 D (.lst [])) (λH'=>Q (.ref D) H')
section
variable{K:wb}{g:TG}{tt:TT}{te ta:TE}{tA:TA}{src:List (Option Nat)}{σ : St}{H:Hp}{Q:VK}{a:wf}{xs:List V}{n:Int}
theorem zwd(h:ta σ H λx H1=>Af K g tt te src σ x H1 Q):jq src (Dx K ta) g tt te σ H Q:=h
theorem Tz(h:ta σ H λx H1=>zG K g tt te src σ x H1 Q):jq src (Ks K ta) g tt te σ H Q:=h
theorem zxs(h:tA σ H λvs H1=>Bg g tt te src σ vs H1 Q):jq src (BF tA) g tt te σ H Q:=h
def pZ(Pv:wf->Nat->List V->St->Hp->Prop)(D:wf)(i:Nat)(σ3:St)(y:V)(H5:Hp):Prop :=
 ∃ys,H5 D=some (.lst ys)/\ys.length<wZ /\ ∃ys',Pv D (i+1) ys' σ3 (upd H5 D (.lst (ys++[y])))
def gM(Pv:wf->Nat->List V->St->Hp->Prop)(g:TG)(tt:TT)(te:TE)(D:wf)(i:Nat)(x:V)(σ':St)(H':Hp):Prop :=
 g x σ' H' λσ3 H3=>tt σ3 H3 λok H4=>if ok=true then te σ3 H4 λy H5=>pZ Pv D i σ3 y H5 else ∃ys',Pv D (i+1) ys' σ3 H4
theorem kQ{Pv:wf->Nat->List V->St->Hp->Prop}{D:wf}{i:Nat}{σ3:St}{y:V}{H5:Hp}{ys:List V}(h:H5 D=some (.lst ys))(z:ys.length<=1000)(q:∀H6,Exc D H5 H6->H6 D=some (.lst (ys++[y]))->Pv D (i+1) (ys++[y]) σ3 H6):pZ Pv D i σ3 y H5 :=
 ⟨ys,h,iO z,_,q _ (Exc.upd D H5 _) cE⟩
theorem AW{J:It}{N:Nat}{D:wf}{σ0:St}{H0:Hp}{R:Hp->Prop}(Pv:wf->Nat->List V->St->Hp->Prop)(item:Nat->V->Prop)(h0:Pv D 0 [] σ0 H0)
  (stop:∀i ys σ' H',Pv D i ys σ' H'->N<=i->J.stop i H') (go:∀i ys σ' H',Pv D i ys σ' H'->i<N->J.go i H') (fD:∀i ys σ' H' x H2,Pv D i ys σ' H'->J.fD i H' x H2->H2=H'/\item i x)
  (hs:∀i x ys σ' H',i<N->item i x->Pv D i ys σ' H'->gM Pv g tt te D i x σ' H') (hd:∀ys σ' H',Pv D N ys σ' H'->R H'):ju g tt te J D σ0 H0 R:=by
 refine⟨λi m σ' H'=>i+m=N /\ ∃ys,Pv D i ys σ' H',⟨N,by omega,[],h0⟩,?_⟩;rintro i m σ' H' ⟨him,ys,hp⟩
 by_cases hm:m=0
 ·subst hm
  have e:i=N:=by omega
  subst e;exact .inl ⟨stop _ _ _ _ hp (wo _),hd _ _ _ hp⟩
 ·refine .inr ⟨go _ _ _ _ hp (by omega),λσ2 H2=>∃ys,Pv D (i+1) ys σ2 H2,λσ2 H2 h=>⟨m-1,by omega,by omega,h⟩,λx H2 hy2=>?_⟩
  obtain⟨e,hit⟩:=fD _ _ _ _ _ _ hp hy2;subst e;exact hs i x ys σ' H2 (by omega) hit hp
theorem pD(hx:aK K H a xs)(Pv:wf->Nat->List V->St->Hp->Prop)(h0:∀D H',H D=none->ah H H'->H' D=some (.lst [])->Pv D 0 [] (du src σ) H')(hl:∀D i ys σ' H',Pv D i ys σ' H'->aK K H' a xs)
  (hs:∀D i x ys σ' H',xs[i]? = some x->Pv D i ys σ' H'->gM Pv g tt te D i x σ' H') (hd:∀D ys σ' H',Pv D xs.length ys σ' H'->Q (.ref D) H'):Af K g tt te src σ (.ref a) H Q:=by
 refine⟨a,rfl,⟨xs,hx⟩,λD hD=>AW (N:=xs.length) Pv (λi x=>xs[i]? = some x) (h0 D _ hD (ah.upd hD) cE) (λi ys σ' H' hp hi=>⟨xs,hl _ _ _ _ _ hp,hi⟩) (λi ys σ' H' hp hi=>?_) (λi ys σ' H' x H2 hp hy=>?_)
  (λi x ys σ' H' _ hit hp=>hs D i x ys σ' H' hit hp) (hd D)⟩
 ·exact⟨xs,xs[i],hl _ _ _ _ _ hp,by simp[hi]⟩
 ·obtain⟨e,hy⟩:=hy
  exact⟨e,hy xs (hl _ _ _ _ _ hp)⟩
theorem zs8(hx:aR K H a xs)(Pv:wf->Nat->List V->St->Hp->Prop)(h0:∀D H',H D=none->ah H H'->H' D=some (.lst [])->Pv D 0 [] (du src σ) H')(hl:∀D i ys σ' H',Pv D i ys σ' H'->aR K H' a xs)
  (hs:∀D i x ys σ' H',xs[i]? = some x->Pv D i ys σ' H'->gM Pv g tt te D i x σ' H') (hd:∀D ys σ' H',Pv D xs.length ys σ' H'->Q (.ref D) H'):zG K g tt te src σ (.ref a) H Q:=by
 refine⟨a,rfl,⟨xs,hx⟩,λD hD=>AW (N:=xs.length) Pv (λi x=>xs[i]? = some x) (h0 D _ hD (ah.upd hD) cE) (λi ys σ' H' hp hi=>⟨xs,hl _ _ _ _ _ hp,hi⟩) (λi ys σ' H' hp hi=>?_) (λi ys σ' H' x H2 hp hy=>?_)
  (λi x ys σ' H' _ hit hp=>hs D i x ys σ' H' hit hp) (hd D)⟩
 ·exact⟨xs,xs[i],hl _ _ _ _ _ hp,by simp[hi]⟩
 ·obtain⟨e,hy⟩:=hy
  exact⟨e,hy xs (hl _ _ _ _ _ hp)⟩
theorem Jp(h0' : -1000000000<=n)(h1:n<1000000000)(Pv:wf->Nat->List V->St->Hp->Prop)(h0:∀D H',H D=none->ah H H'->H' D=some (.lst [])->Pv D 0 [] (du src σ) H')
  (hs:∀D (i:Nat) ys σ' H',i<n.toNat->Pv D i ys σ' H'->gM Pv g tt te D i (.int (i:Int)) σ' H') (hd:∀D ys σ' H',Pv D n.toNat ys σ' H'->Q (.ref D) H'):Bg g tt te src σ [.int n] H Q:=by
 refine⟨n,rfl,by omega,by omega,λD hD=>AW (N:=n.toNat) Pv (λi x=>x=.int (i:Int)) (h0 D _ hD (ah.upd hD) cE) (λi ys σ' H' hp hi=>hi) (λi ys σ' H' hp hi=>hi) (λi ys σ' H' x H2 hp hy=>?_)
  (λi x ys σ' H' hi hit hp=>?_) (hd D)⟩
 ·obtain⟨e,hy⟩:=hy
  exact⟨e,by rw[hy,Int.zero_add]⟩
 ·subst hit
  exact hs D i ys σ' H' hi hp
end
structure zp(u' u:TS):Prop where
 e:u'=u
theorem YB{t u:TS}{D:cj}{σ : St}{H:Hp}(h:∀u',zp u' u->t {D with nx:=u' D} σ H):Er t u D σ H:=h u ⟨rfl⟩
theorem zp.go{u' u:TS}{D:cj}{σ : St}{H:Hp}(e:zp u' u)(h:u D σ H):u' D σ H:=by rw[e.e];exact h
theorem O4{P:wH}{w:wI}{X:Cx} : nA (eJ P w) X E0:=λ_ _ _ _ _ _ _ h=>by
 obtain⟨_,_,_,_,_,_,_,_,_,_,_,q⟩:=h;exact q.elim
theorem km.yh{P:wH}{w:wI}{K:wb}{mg:Str->Option we}{base:wF}{x qual:Str}{st:vd}{f:wf}{fd:wE}{N ps:List Str}{k:Nat}{sp:Sp}(F:km K x qual st f fd)(S:aT N ps (aC st))(len:∀vs H Q E,sp vs H Q E->vs.length=ps.length)
  (hbody:∀(cdv:we)(A:wY)(outer:List Env)(s:wl)(H:Hp)(vs:List V)(Q:VK)(E:XK),dN k (A.deeper (envOfC qual (aC st) s.heap.objs.size f cdv))->sp vs H Q E ->
   ∃t,eX (ie (eJ P w) P w K mg base N qual (aC st) f cdv A outer s H E) (ke st) t/\t {nx:=λ_ H'=>Q .bj H',rt:=Q} (start N vs) H):aJ P w K mg base (eJ P w) (k+1) f fd ps sp:=by
 obtain⟨oc,od,kV,doc,pm,an,cdv,ct,osl,rfl,lk,hcd⟩:=F.ex;exact NN lk hcd S len λA outer s H vs Q E hr hsp=>hbody cdv A outer s H vs Q E hr hsp
theorem Exc.back{p:wf}{H H' H2:Hp}(b:Exc p H' H2)(s:Exc p H H'):Exc p H H2:=s.trans b
theorem Oc{X:Cx}{i j v:Int}{k1 k2:Nat}{p1 p2 pos:Pos}(hc:LF i j)(hv:i^j.toNat=v):PE X (.BinOp (.Constant (.int i) k1 p1) .Pow (.Constant (.int j) k2 p2) pos) (tC (.int v)):=by
 subst hv;exact λpins s σ H Q I h=>(aA Zj ay ay:PE X _ _) pins s σ H Q I ⟨i,j,rfl,rfl,hc,h⟩
theorem Tj{α : Type}[DecidableEq α]{x : α}{A B:Prop}(h:A):if decide (x=x)=true then A else B:=by simpa using h
section
variable{K:wb}{σ : St}{H H':Hp}{Q:VK}{QB:Bool->Hp->Prop}{D:cj}{t:TA}{v w:V}{xs ys:List V}{m n:Int}{r:Rat}{p:wf}
theorem zCB{A B:Prop}(h:B):if(!true)=true then A else B:=by simpa using h
theorem zCc{A B:Prop}(h:A):if(!false)=true then A else B:=by simpa using h
theorem zzh{a b:V}(h:H p=some (.lst [a,b]))(h0:0<=m)(h1:m<2)(q:∀z,z=a\/z=b->Q z H):cQ K (.ref p) (.int m) H Q :=
 O7 (λz=>z=a\/z=b) (aK.of h) h0 (by simpa using h1) (by simp) q
theorem zyq{a b:Int}(h:H p=some (.lst [.int a,.int b]))(h0:0<=m)(h1:m<2)(q:∀z,z=a\/z=b->Q (.int z) H):cQ K (.ref p) (.int m) H Q :=
 zzh h h0 h1 λz hz=>by rcases hz with rfl | rfl;exact q _ (.inl rfl);exact q _ (.inr rfl)
theorem zo5{x y:Rat}(h1:x.num=y.num)(h2:(x.den:Int)=y.den):x=y:=by
 have h2':x.den=y.den:=by omega
 exact uZ h1 h2'
theorem nT(x y:Rat):vb (N x) (N y)=decide (x=y):=by
 have e:vb (N x) (N y)=(decide (x.num=y.num)&&decide ((x.den:Int)=y.den)):=by
  simp only[N,vb,WW,Bool.and_true,Qr]
 rw[e,vI,wV,decide_eq_true_eq,decide_eq_true_eq,decide_eq_true_eq]
 constructor
 ·rintro ⟨h1,h2⟩;exact zo5 h1 h2
 ·rintro rfl;exact⟨rfl,rfl⟩
theorem rE(x:Rat):vX (N x)=true:=by simp[N,vX,Wc,Wp,V5,WO]
theorem Nr{x y:Rat}(h:Is K H v (N x))(k:Is K H w (N y))(q:Q (.bl (decide (x=y))) H):cv K v w H Q:=rQ h k (rE x) (rE y) (by rw[nT];exact q)
theorem zAY{x y:Rat}(h:Is K H v (N x))(k:Is K H w (N y))(q:Q (.bl (!decide (x=y))) H):fY K v w H Q:=Du h k (rE x) (rE y) (by rw[nT];exact q)
end
theorem zBq{X:Cx} : aN X (wU .In) (j9 X.K false):=zvm
theorem zu3{X:Cx} : aN X (wU .NotIn) (j9 X.K true):=YC
def R(a b:Rat):wD:=.tuple [N a,N b]
theorem Bs(a b:Rat):cS (R a b)=true:=by simp[R,cS,bY,j8]
structure aV(a b:Rat):Prop where
 a0:0<a
 a4:a<=4
 ad:a.den<=8
 b0:0<=b
 b1:b<=1
 bd:b.den<=12
 ab:1<=a+b
theorem aV.ba{a b:Rat}(h:aV a b):ag 10 a:=ag.small (c:=4) (d:=8) (vW h.a0) h.a4 h.ad (by decide) (by decide)
theorem aV.bb{a b:Rat}(h:aV a b):ag 10 b:=ag.small (c:=1) (d:=12) h.b0 h.b1 h.bd (by decide) (by decide)
section
variable{K:wb}{H:Hp}{Q:VK}{v:V}{a b:Rat}{σ : St}{gs:jC}{QS:St->Hp->Prop}
theorem zzi(h:Is K H v (R a b))(q:∀x,Is K H x (N a)->Q x H):cQ K v (.int 0) H Q:=aD (j:=0) h rfl q
theorem zzu(h:Is K H v (R a b))(q:∀x,Is K H x (N b)->Q x H):cQ K v (.int 1) H Q:=aD (j:=1) h rfl q
theorem Is.nH{H':Hp}(h:Is K H v (R a b))(s:bG H H'):Is K H' v (R a b):=Is.keep s _ v (Bs a b) h
theorem AO{x y:V}(h1:Is K H x (N a))(h2:Is K H y (N b))(q:∀v H',ah H H'->Is K H' v (R a b)->Q v H'):kJ K [x,y] H Q :=
 cK (by show 2<=1000;decide) (.cons h1 (.cons h2 .nil)) q
end
section
variable{K:wb}{H H' H2:Hp}{Q:VK}{v w:V}{a b c d:Rat}{D:wf}
theorem zu0(h:Is K H v (R a b))(q:Q (.bl true) H):jc K [v,.ty "tuple"] H Q:=Oq h q
theorem ZD(h:Is K H v (R a b))(q:Q (.int 2) H):cN K [v] H Q:=jm h q
theorem ah.grow(s:ah H H')(n:H D=none)(e:Exc D H' H2):ah H H2:=λb o h=>e b o (jj h n) (s b o h)
end
theorem zvD{σ : St}{H:Hp}{Q:Bool->Hp->Prop}(q:Q true H):Iy σ H Q:=q
theorem Nd{Pv:wf->Nat->List V->St->Hp->Prop}{g:TG}{tt:TT}{te:TE}{D:wf}{i:Nat}{x:V}{σ':St}{H':Hp}(h:g x σ' H' λσ3 H3=>tt σ3 H3 λok H4=>if ok=true then te σ3 H4 λy H5=>pZ Pv D i σ3 y H5 else ∃ys',Pv D (i+1) ys' σ3 H4) :
  gM Pv g tt te D i x σ' H':=h
section
variable{K:wb}{σ : St}{H:Hp}{Q:VK}{E:XK}{D:cj}{t:TA}{C G:we}{i:Nat}{tb:(St->XK)->TS}{th:wf->we->TS}{sp:Sp}{W:St->XK}{ex C':wf}{b:Bool}
theorem UO(h:t σ H λvs H1=>vs.length<=wZ/\E C none H1):Kf C E t D σ H:=h
theorem zvz(h:t σ H λvs H1=>sp vs H1 Q (W σ)):DV sp W t σ H Q:=h
end
theorem Zp(s:String):Up (vP s)=true:=by
 rw[Str.ofString_eq_toList,Up];simp only[List.all_toArray,XC,WI,Function.comp,decide_eq_true_eq];intro c _;have:=c.valid;simp only[Char.toNat];rcases this with h | h
 ·have:c.val.toNat<0xd800:=h
  omega
 ·exact h.2
inductive Ew(K:wb)(H:Hp):List V->List (Str × Bool)->Prop
 | nil:Ew K H [] []
 | cons {x:V} {xs:List V} {w:Str} {b:Bool} {ws:List (Str × Bool)} : Is K H x (.tuple [.str w,.bool b])->Ew K H xs ws->Ew K H (x::xs) ((w,b)::ws)
theorem dM{K:wb}{H:Hp}{c:wf}{p q:Int}(r:Rat)(h:aR K H c [.int p,.int q])(e1:r.num=p)(e2:(r.den:Int)=q):Is K H (.ref c) (N r):=by
 subst e1 e2;exact bM.mpr ⟨c,_,rfl,h,dC.mpr ⟨_,_,rfl,cc.mpr rfl,dC.mpr ⟨_,_,rfl,cc.mpr rfl,fO.mpr rfl⟩⟩⟩
theorem Nl(s:String):vX (.str (vP s))=true:=by
 simp[vX,Wc,V5,Zp]
inductive Bl(X:Cx):List Expr->List TE->Prop
 | nil:Bl X [] []
 | cons {e:Expr} {es:List Expr} {te:TE} {ts:List TE} : (∀env,w5 (e::es) env=(false,eval e env)::w5 es env)->PE X e te->Bl X es ts->Bl X (e::es) (te::ts)
section
variable{K:wb}{H H' H2:Hp}{Q:VK}{R:Prop}{v w y:V}{p l:wf}{xs ys zs:List V}{ns:List Int}{m:Int}{σ : St}
end
section
variable{K:wb}{H H' H2:Hp}{Q:VK}{R:Prop}{v w y:V}{p l:wf}{xs ys zs:List V}{ns:List Int}{m:Int}{σ : St}{to:TE}{t:TA}{T:String}{r:V->List V->Hp->VK->Prop}
theorem zCm(h:to σ H λx H1=>Aa K T x H1/\t σ H1 λxs H2=>r x xs H2 Q):RP K T r to t σ H Q:=h
theorem kS(h:aK K H p xs)(q:R):Aa K "list" (.ref p) H/\R:=⟨.inl ⟨rfl,xs,h⟩,q⟩
theorem kO(h:H l=some (.lst xs))(z:xs.length<=1000)(q:∀H',Exc l H H'->H' l=some (.lst (xs++[y]))->Q .bj H'):MV (.ref l) [y] H Q:=⟨l,xs,y,rfl,rfl,h,iO z,q _ (Exc.upd l H _) cE⟩
end
def d5(K:wb):List V->Hp->VK->Prop:=λxs H Q=>∃p ys,xs=[.ref p]/\((aK K H p ys /\ ∀l,H l=none->Q (.ref l) (upd H l (.tup ys)))\/(aR K H p ys/\Q (.ref p) H))
def kg(K:wb):List V->Hp->VK->Prop:=λxs H Q=>∃p ys,xs=[.ref p]/\(aK K H p ys\/aR K H p ys) /\ ∀l,H l=none->Q (.ref l) (upd H l (.lst ys))
theorem fI{X:Cx} : aO X (.type "tuple") (d5 X.K):=TU
theorem yB{X:Cx} : aO X (.type "list") (kg X.K):=zoU
def zi(K:wb):V->Option Int->Option Int->Hp->VK->Prop:=λx lo hi H Q=>Mt K x lo hi H Q\/Kk K x lo hi H Q
theorem nW{X:Cx} : jU X (zi X.K):=zxZ.or zAt
section
variable{K:wb}{H H' H2:Hp}{Q:VK}{QO:Option Int->Hp->Prop}{R:Prop}{v w y:V}{p l:wf}{xs ys zs:List V}{ds es:List wD}{m:Int}{σ : St}{te:TE}{tl th:TO}{r:V->Option Int->Option Int->Hp->VK->Prop}{lo hi:Option Int}
theorem yE(h:aK K H p ys)(q:∀l H',H l=none->ah H H'->H' l=some (.tup ys)->Q (.ref l) H'):d5 K [.ref p] H Q:=⟨p,ys,rfl,.inl ⟨h,λl hl=>q l _ hl (ah.upd hl) cE⟩⟩
theorem gX(h:Is K H v (.list ds))(q:∀w H',ah H H'->Is K H' w (.tuple ds)->Q w H'):d5 K [v] H Q:=by
 obtain⟨a,xs,rfl,hs,t⟩:=cB.mp h;exact yE hs λl H' _ s e=>q _ H' s (bM.mpr ⟨l,xs,rfl,.of e,ak.same s ds xs t⟩)
theorem JU(h:Is K H v (.tuple ds))(q:Q v H):d5 K [v] H Q:=by
 obtain⟨a,xs,rfl,hs,t⟩:=bM.mp h;exact⟨a,xs,rfl,.inr ⟨hs,q⟩⟩
theorem zJ(h:Is K H v (.tuple ds))(q:∀l H' ys,H l=none->ah H H'->H' l=some (.lst ys)->ak K H' ys ds->Q (.ref l) H'):kg K [v] H Q:=by
 obtain⟨a,xs,rfl,hs,t⟩:=bM.mp h;exact⟨a,xs,rfl,.inr hs,λl hl=>q l _ xs hl (ah.upd hl) cE (ak.same (ah.upd hl) ds xs t)⟩
theorem zu4(h:Is K H v (.list ds))(q:∀l H' ys,H l=none->ah H H'->H' l=some (.lst ys)->ak K H' ys ds->Q (.ref l) H'):kg K [v] H Q:=by
 obtain⟨a,xs,rfl,hs,t⟩:=cB.mp h;exact⟨a,xs,rfl,.inl hs,λl hl=>q l _ xs hl (ah.upd hl) cE (ak.same (ah.upd hl) ds xs t)⟩
theorem Y5(h:te σ H λx H1=>tl σ H1 λl H2=>th σ H2 λu H3=>r x l u H3 Q):NG r te tl th σ H Q:=h
theorem zuI(q:QO none H):IX σ H QO:=q
theorem Yb(h:te σ H λx H1=>∃i,x=.int i/\QO (some i) H1):Kh te σ H QO:=h
theorem zwC{RI:Int->Prop}(q:RI m):∃i,V.int m=V.int i/\RI i:=⟨m,rfl,q⟩
def iJ{α : Type}(xs:List α)(lo hi:Option Int):List α:=(xs.drop (HT.aX xs.length 0 lo)).take (HT.aX xs.length xs.length hi-HT.aX xs.length 0 lo)
theorem ak.take:∀{ds:List wD}{xs:List V}(n:Nat),ak K H xs ds->ak K H (xs.take n) (ds.take n)
 | _,_,0,h=>by simp[ak.nil]
 | [],_,n+1,h=>by rw[fO.mp h];simp[ak.nil]
 | d::ds,_,n+1,h=>by
  obtain⟨x,r,rfl,q,t⟩:=dC.mp h;rw[Xo,Xo];exact .cons q (ak.take n t)
theorem ak.drop:∀{ds:List wD}{xs:List V}(n:Nat),ak K H xs ds->ak K H (xs.drop n) (ds.drop n)
 | _,_,0,h=>by simpa using h
 | [],_,n+1,h=>by rw[fO.mp h];simp[ak.nil]
 | d::ds,_,n+1,h=>by
  obtain⟨x,r,rfl,q,t⟩:=dC.mp h;rw[Qz,Qz];exact ak.drop n t
theorem ak.cut(h:ak K H xs ds):ak K H (jk xs lo hi) (iJ ds lo hi):=by
 unfold jk iJ;rw[h.length];exact(h.drop _).take _
theorem zBB(h:aK K H p xs)(q:∀l H',H l=none->ah H H'->H' l=some (.lst (jk xs lo hi))->Q (.ref l) H'):zi K (.ref p) lo hi H Q:=.inl ⟨p,xs,rfl,h,λl hl=>q l _ hl (ah.upd hl) cE⟩
theorem yD(h:Is K H v (.list ds))(q:∀l H' ys,H l=none->ah H H'->H' l=some (.lst ys)->ak K H' ys (iJ ds lo hi)->Q (.ref l) H'):zi K v lo hi H Q:=by
 obtain⟨a,xs,rfl,hs,t⟩:=cB.mp h;exact zBB hs λl H' hl s e=>q l H' _ hl s e (ak.same s _ _ t.cut)
theorem zyX(h:Is K H v (.tuple ds))(hw:¬ (HT.aX ds.length 0 lo=0/\HT.aX ds.length ds.length hi=ds.length))(q:∀w H',ah H H'->Is K H' w (.tuple (iJ ds lo hi))->Q w H'):zi K v lo hi H Q:=by
 obtain⟨a,xs,rfl,hs,t⟩:=bM.mp h;refine .inr ⟨a,xs,rfl,hs,by rw[t.length];exact hw,λl hl=>q _ _ (ah.upd hl) (bM.mpr ⟨l,_,rfl,.of cE,ak.same (ah.upd hl) _ _ t.cut⟩)⟩
theorem C0{α : Type}(xs:List α):iJ xs none (some (-1))=xs.dropLast:=by
 unfold iJ
 show(xs.drop 0).take (((-1:Int)+(xs.length:Int)).toNat-0)=_
 rw[u0,xT]
 congr 1
 omega
theorem Z0{α : Type}(xs:List α):iJ xs (some 1) none=xs.tail:=by
 unfold iJ
 show(xs.drop (min 1 xs.length)).take (xs.length-min 1 xs.length)=_
 cases xs with
 | nil=>rfl
 | cons x xs =>
  have e:min 1 (x::xs).length=1:=by rw[vo];omega
  rw[e,Qz,u0,vo,qV,Wx,uX]
end
def TN(xs:List Rat):wD:=.tuple (xs.map N)
def LN(xs:List Rat):wD:=.list (xs.map N)
theorem fQ:∀xs:List Rat,bY (xs.map N)=true
 | []=>by simp[bY]
 | x::xs=>by rw[w9,bY,j8,fQ xs];rfl
theorem sZ(xs:List Rat):cS (TN xs)=true:=by rw[TN,cS];exact fQ xs
theorem Zn(x:Rat):(N x).canLay0=true:=by simp[N,Wc,Wp]
theorem zyE(x:Rat):(N x).depth=1:=by simp[N,V5,WO]
theorem Es:∀xs:List Rat,Wp (xs.map N)=true
 | []=>by simp[Wp]
 | x::xs=>by rw[w9,Wp,Zn,Es xs];rfl
theorem KC:∀xs:List Rat,WO (xs.map N)<=1
 | []=>by simp[WO]
 | x::xs=>by
  have:=KC xs;rw[w9,WO,zyE];omega
theorem IH(xs:List Rat):vX (TN xs)=true:=by
 unfold vX TN;rw[Wc,Es,V5,Q0];have:=KC xs;exact decide_eq_true (by omega)
theorem JW:∀xs ys:List Rat,WW (xs.map N) (ys.map N)=decide (xs=ys)
 | [],[]=>by simp[WW]
 | [],y::ys=>by simp[WW]
 | x::xs,[]=>by simp[WW]
 | x::xs,y::ys=>by
  rw[w9,w9,WW,nT,JW xs ys,vI,wV,decide_eq_true_eq,decide_eq_true_eq,decide_eq_true_eq,uK]
theorem Rc(xs ys:List Rat):vb (TN xs) (TN ys)=decide (xs=ys):=by
 unfold TN;rw[vb,JW]
section
variable{K:wb}{H H' H2:Hp}{Q:VK}{v w y:V}{p l:wf}{vs:List V}{xs ys:List Rat}{m:Int}{σ : St}
theorem rP(h:Is K H v (TN xs))(k:Is K H w (TN ys))(q:Q (.bl (decide (xs=ys))) H):cv K v w H Q:=rQ h k (IH xs) (IH ys) (by rw[Rc];exact q)
theorem EM{i:Nat}(t:ak K H vs (xs.map N))(h:i<xs.length):∃x,vs[i]? = some x/\Is K H x (N (xs.getD i 0)):=by
 refine t.get ?_;rw[wx,wa,wc h]
 rfl
theorem df{i:Nat}{x:V}(t:ak K H vs (xs.map N))(h:vs[i]? = some x):i<xs.length/\Is K H x (N (xs.getD i 0)):=by
 have hl:=t.length;rw[wm]at hl
 have hi:i<xs.length:=by
  rcases wB i vs.length with z | z
  ·omega
  ·rw[wL z]at h;cases h
 obtain⟨x',e,hx⟩:=EM t hi;rw[h]at e;cases e;exact⟨hi,hx⟩
theorem zy6(h:Is K H v (TN xs))(h0:0<=m)(h1:m<xs.length)(q:∀x,Is K H x (N (xs.getD m.toNat 0))->Q x H):cQ K v (.int m) H Q:=by
 obtain⟨a,vs,rfl,hs,t⟩:=bM.mp h;obtain⟨n,rfl⟩:∃n:Nat,m=(n:Int):=⟨m.toNat,by omega⟩;obtain⟨x,e,hx⟩:=EM (i:=n) t (by omega);exact yz hs (j5 e) (q x hx)
theorem jW(h:Is K H v (LN xs))(h0:0<=m)(h1:m<xs.length)(q:∀x,Is K H x (N (xs.getD m.toNat 0))->Q x H):cQ K v (.int m) H Q:=by
 obtain⟨a,vs,rfl,hs,t⟩:=cB.mp h;obtain⟨n,rfl⟩:∃n:Nat,m=(n:Int):=⟨m.toNat,by omega⟩;obtain⟨x,e,hx⟩:=EM (i:=n) t (by omega);exact gY hs (j5 e) (q x hx)
theorem ZU(h:Is K H v (TN xs))(q:Q (.int xs.length) H):cN K [v] H Q:=jm h (by rw[wm];exact q)
theorem TQ(h:Is K H v (LN xs))(q:Q (.int xs.length) H):cN K [v] H Q:=by
 obtain⟨a,vs,rfl,hs,t⟩:=cB.mp h;have:=t.length;rw[wm]at this;exact jN hs (by rw[this];exact q)
theorem c_(h:H l=some (.lst vs))(t:ak K H vs (xs.map N)):Is K H (.ref l) (LN xs):=cB.mpr ⟨l,vs,rfl,.of h,t⟩
theorem fE:∀{xs:List Rat}{vs:List V},vs.length=xs.length->(∀i x,vs[i]? = some x->Is K H x (N (xs.getD i 0)))->ak K H vs (xs.map N)
 | [],vs,hl,_=>by
  have:vs=[]:=Ve hl;subst this;exact .nil
 | x::xs,[],hl,_=>by cases hl
 | x::xs,u::vs,hl,h=>by
  rw[w9];exact .cons (h 0 u rfl) (fE (by simpa using hl) λi y e=>h (i+1) y e)
end
section
variable{K:wb}{g:TG}{tt:TT}{te:TE}{src:List (Option Nat)}{σ : St}{H:Hp}{Q:VK}{a:wf}{vs:List V}{n:Int}{tl:St}{o0:Option V}
def gc(H:Hp)(tl:St)(Rel:Nat->V->Hp->Prop)(D:wf)(i:Nat)(ys:List V)(σ':St)(H':Hp):Prop :=
 (∃o,σ'=o::tl)/\H D=none/\ah H H'/\H' D=some (.lst ys)/\ys.length=i /\ ∀j y,ys[j]? = some y->Rel j y H'
theorem gc.same{Rel:Nat->V->Hp->Prop}{D:wf}{i:Nat}{ys:List V}{σ':St}{H':Hp}(h:gc H tl Rel D i ys σ' H'):ah H H':=h.2.2.1
theorem eU{Rel:Nat->V->Hp->Prop}{D:wf}{i:Nat}{ys:List V}{σ' σ3:St}{H1 H5:Hp}{y:V}(inv:gc H tl Rel D i ys σ' H1)(hi:i<=1000)(hk:∀i v H1 H2,bG H1 H2->Rel i v H1->Rel i v H2)(hσ : ∃o,σ3=o::tl)(s:ah H1 H5)(r:Rel i y H5):pZ (gc H tl Rel) D i σ3 y H5:=by
 obtain⟨_,hn,s1,hD,hl,hr⟩:=inv;have hD5:=s _ _ hD;refine kQ hD5 (by omega) λH6 E6 e6=>⟨hσ,hn,(s1.trans s).grow hn E6,e6,by simp[hl],λj z hz=>?_⟩
 have k6:bG H5 H6:=E6.keep hD5;rcases wB j ys.length with hj | hj
 ·rw[vR hj]at hz
  exact hk _ _ _ _ (s.keep.trans k6) (hr j z hz)
 ·have hj':j=ys.length:=by
   rcases wB ys.length j with q | q
   ·rw[wL (by simp;omega)]at hz;cases hz
   ·omega
  subst hj';rw[vv (wo _),Vs]at hz;cases hz;rw[hl];exact hk _ _ _ _ k6 r
theorem kr(hx:aK K H a vs)(hsrc:du src σ = o0::tl)(Rel:Nat->V->Hp->Prop)(hs:∀D i x ys o H1,vs[i]? = some x->gc H tl Rel D i ys (o::tl) H1->gM (gc H tl Rel) g tt te D i x (o::tl) H1)
  (hd:∀D ys H',H D=none->ah H H'->H' D=some (.lst ys)->ys.length=vs.length->(∀j y,ys[j]? = some y->Rel j y H')->Q (.ref D) H'):Af K g tt te src σ (.ref a) H Q:=by
 refine pD hx (gc H tl Rel) (λD H' n s e=>⟨⟨o0,hsrc⟩,n,s,e,rfl,λj y z=>by simp at z⟩) (λD i ys σ' H' h=>h.same.seq hx) ?_ λD ys σ' H' ⟨_,n,s,e,hl,r⟩=>hd D ys H' n s e hl r
 rintro D i x ys σ' H' hx' h;obtain⟨⟨o,rfl⟩,_⟩:=id h;exact hs D i x ys o H' hx' h
theorem jF(hx:aR K H a vs)(hsrc:du src σ = o0::tl)(Rel:Nat->V->Hp->Prop)(hs:∀D i x ys o H1,vs[i]? = some x->gc H tl Rel D i ys (o::tl) H1->gM (gc H tl Rel) g tt te D i x (o::tl) H1)
  (hd:∀D ys H',H D=none->ah H H'->H' D=some (.lst ys)->ys.length=vs.length->(∀j y,ys[j]? = some y->Rel j y H')->Q (.ref D) H'):zG K g tt te src σ (.ref a) H Q:=by
 refine zs8 hx (gc H tl Rel) (λD H' n s e=>⟨⟨o0,hsrc⟩,n,s,e,rfl,λj y z=>by simp at z⟩) (λD i ys σ' H' h=>h.same.jx hx) ?_ λD ys σ' H' ⟨_,n,s,e,hl,r⟩=>hd D ys H' n s e hl r
 rintro D i x ys σ' H' hx' h;obtain⟨⟨o,rfl⟩,_⟩:=id h;exact hs D i x ys o H' hx' h
theorem zyB(h0:0<=n)(h1:n<1000000000)(hsrc:du src σ = o0::tl)(Rel:Nat->V->Hp->Prop)(hs:∀D (i:Nat) ys o H1,i<n.toNat->gc H tl Rel D i ys (o::tl) H1->gM (gc H tl Rel) g tt te D i (.int (i:Int)) (o::tl) H1)
  (hd:∀D ys H',H D=none->ah H H'->H' D=some (.lst ys)->ys.length=n.toNat->(∀j y,ys[j]? = some y->Rel j y H')->Q (.ref D) H'):Bg g tt te src σ [.int n] H Q:=by
 refine Jp (by omega) h1 (gc H tl Rel) (λD H' n s e=>⟨⟨o0,hsrc⟩,n,s,e,rfl,λj y z=>by simp at z⟩) ?_ λD ys σ' H' ⟨_,n,s,e,hl,r⟩=>hd D ys H' n s e hl r
 rintro D i ys σ' H' hi h;obtain⟨⟨o,rfl⟩,_⟩:=id h;exact hs D i ys o H' hi h
theorem eZ{xs:List Rat} : ∀(i:Nat)(v:V)(H1 H2:Hp),bG H1 H2->Is K H1 v (N (xs.getD i 0))->Is K H2 v (N (xs.getD i 0)):=λi v H1 H2 k h=>h.fH k
end
theorem iW{H H':Hp}{l:wf}(s:ah H H')(h:H' l=none):H l=none:=by
 cases e:H l with
 | none=>rfl
 | some o=>rw[s _ _ e]at h;cases h
def TZ(ns:List Int):wD:=.tuple (ns.map PyData.int)
def LL(rss:List (List Rat)):wD:=.list (rss.map LN)
theorem Mi:∀ns:List Int,bY (ns.map PyData.int)=true
 | []=>by simp[bY]
 | n::ns=>by rw[w9,bY,Mi ns];rfl
theorem U0(ns:List Int):cS (TZ ns)=true:=by rw[TZ,cS];exact Mi ns
section
variable{K:wb}{H H' H2:Hp}{Q:VK}{v w y:V}{p l:wf}{vs:List V}{ns:List Int}{rss:List (List Rat)}{m:Int}{σ : St}
theorem tM:∀{ns:List Int}{vs:List V},ak K H vs (ns.map PyData.int) ↔ vs=ns.map V.int
 | [],vs=>by rw[xh,fO];rfl
 | n::ns,vs=>by
  rw[w9,dC,w9]
  constructor
  ·rintro ⟨x,r,rfl,h,t⟩
   rw[cc.mp h,tM.mp t]
  ·rintro rfl
   exact⟨_,_,rfl,cc.mpr rfl,tM.mpr rfl⟩
theorem nZ:Is K H v (TZ ns) ↔ ∃a,v=.ref a/\aR K H a (ns.map V.int):=by
 unfold TZ;rw[bM]
 constructor
 ·rintro ⟨a,xs,e,h,t⟩
  rw[tM.mp t]at h;exact⟨a,e,h⟩
 ·rintro ⟨a,e,h⟩
  exact⟨a,_,e,h,tM.mpr rfl⟩
theorem Bt(h:Is K H v (TZ ns))(q:Q (.int ns.length) H):cN K [v] H Q:=jm h (by rw[wm];exact q)
theorem NT{i:Nat}(t:ak K H vs (rss.map LN))(h:i<rss.length):∃x,vs[i]? = some x/\Is K H x (LN (rss.getD i [])):=by
 refine t.get ?_;rw[wx,wa,wc h]
 rfl
theorem Mu(h:Is K H v (LL rss))(h0:0<=m)(h1:m<rss.length)(q:∀x,Is K H x (LN (rss.getD m.toNat []))->Q x H):cQ K v (.int m) H Q:=by
 obtain⟨a,vs,rfl,hs,t⟩:=cB.mp h;obtain⟨n,rfl⟩:∃n:Nat,m=(n:Int):=⟨m.toNat,by omega⟩;obtain⟨x,e,hx⟩:=NT (i:=n) t (by omega);exact gY hs (j5 e) (q x hx)
theorem ET{α : Type}{xs:List α}{x : α}(h:xs[xs.length-1]? = some x):gE xs (-1)=some x:=by
 have hl:0<xs.length:=by
  cases xs with
  | nil=>cases h
  | cons _ _=>simp
 unfold gE gG;rw[if_neg (by omega),if_pos (by omega)]
 show xs[((-1:Int)+(xs.length:Int)).toNat]? = some x
 rw[show((-1:Int)+(xs.length:Int)).toNat=xs.length-1 by omega];exact h
theorem Z1(h:Is K H v (LL rss))(h0:0<rss.length)(q:∀x,Is K H x (LN (rss.getD (rss.length-1) []))->Q x H):cQ K v (.int (-1)) H Q:=by
 obtain⟨a,vs,rfl,hs,t⟩:=cB.mp h;have hl:=t.length;rw[wm]at hl;obtain⟨x,e,hx⟩:=NT (i:=rss.length-1) t (by omega);rw[<- hl]at e;exact gY hs (ET e) (q x hx)
theorem Kt:∀{rss:List (List Rat)}{vs:List V},vs.length=rss.length->(∀i x,vs[i]? = some x->Is K H x (LN (rss.getD i [])))->ak K H vs (rss.map LN)
 | [],vs,hl,_=>by
  have:vs=[]:=Ve hl;subst this;exact .nil
 | x::xs,[],hl,_=>by cases hl
 | x::xs,u::vs,hl,h=>by
  rw[w9];exact .cons (h 0 u rfl) (Kt (by simpa using hl) λi y e=>h (i+1) y e)
end
def yN(K:wb):R2:=λx y H Q=>P9 K x y H Q \/ ∃a b ys,x=.ref a/\y=.ref b/\aR K H a []/\aR K H b ys/\Q (.ref b) H
theorem Nj{X:Cx} : aN X (WD .Add) (yN X.K):=by
 intro pins s σ H x y v u Q I rx ry h;rcases h with h | ⟨a,b,ys,rfl,rfl,ha,hb,q⟩
 ·exact ZS pins s σ H x y v u Q I rx ry h
 ·cases rx
  cases ry;obtain⟨its,r1,p1,_⟩:=I.tuple ha;cases r1;obtain⟨its2,r2,p2,_⟩:=I.tuple hb;obtain⟨⟨cls,dd,data,sl⟩,ho,hc,n,hd⟩:=id p1;obtain⟨⟨cls2,dd2,data2,sl2⟩,ho2,hc2,n2,hd2⟩:=id p2;simp only at hc hd hc2 hd2;subst hc hd hc2 hd2;exact concat_meets ⟨_,ho,rfl⟩ ⟨_,ho2,rfl⟩ noFill_tuple_add seq_tuple_add Ql Qg (qR _ _) (tuple_addW0 a b _ its2.toArray n n2 dd dd2 sl sl2 rfl) ⟨ho,ho2,⟨.ref b,H,I,rfl,q⟩⟩
theorem LO{K:wb}{H:Hp}{Q:VK}{v w:V}{ds es:List wD}(h1:Is K H v (.tuple ds))(h2:Is K H w (.tuple es))(z:ds.length+es.length<=1000)(q:∀u H',ah H H'->Is K H' u (.tuple (ds++es))->Q u H'):yN K v w H Q:=by
 obtain⟨a,xs,rfl,ha,ta⟩:=bM.mp h1;obtain⟨b,ys,rfl,hb,tb⟩:=bM.mp h2;have la:=ta.length;have lb:=tb.length;cases xs with
 | nil =>
  obtain rfl:ds=[]:=Ve (by simpa using la.symm);exact .inr ⟨a,b,ys,rfl,rfl,ha,hb,q _ H (ah.refl _) h2⟩
 | cons x xs =>
  refine .inl ⟨a,b,x::xs,ys,rfl,rfl,ha,hb,by simp,Va (iO (by omega)),λhy=>?_,λhy p hp=>?_⟩
  ·obtain rfl:es=[]:=Ve (by rw[hy]at lb;simpa using lb.symm)
   exact q _ H (ah.refl _) (by rw[We];exact h1)
  ·exact q _ _ (ah.upd hp) (bM.mpr ⟨p,_,rfl,.of cE,(ak.same (ah.upd hp) _ _ ta).append (ak.same (ah.upd hp) _ _ tb)⟩)
theorem Inv.rf{X:Cx}{pins:List (wf × Obj)}{σ : St}{H:Hp}{s:wl}{h':wF}{t':Nat}{ch:List wf}(I:Inv X pins σ H s)(k:∀b o,b ∉ ch->s.heap.get? b=some o->h'.get? b=some o)(hf:∀b∈ch,d8 X pins H b):Inv X pins σ H {s with heap:=h',toks:=t'}:=by
 have nit:∀b u,H b=some u->b ∉ ch:=λb u e z=>by rw[(hf b z).1]at e;cases e
 refine I.step (g':=s.gens) (d':=s.drawn) (ch:=ch) (λb hb=>⟨(hf b hb).2.2.2.1,(hf b hb).2.1,(hf b hb).2.2.2.2.1,(hf b hb).2.2.2.2.2⟩) (λb o _ _ hc e _=>k b o hc e)
  (λb o _ _ hc e _=>⟨o.slots,k b o hc e⟩) (λ_ _ _ _ n=>n) (λb o hc e=>⟨o,k b o hc e⟩) (λ_ _ e=>e) (λ_ _ _ e=>e) (λb ps e=>⟨#[],by rw[e];simp⟩) (λm hm=>?_) (λb u e=>?_) I.bare
 ·obtain⟨o,es,ep,ho,r⟩:=hm
  exact⟨o,es,ep,k _ o (λz=>(hf _ z).2.1 rfl) ho,r⟩
 ·refine(I.aG b u e).jS (λc v hc q=>k c v ?_ q) (λ_ q=>q) λ_ _ q=>q
  rcases hc with z | z
  ·rw[z];exact nit b u e
  ·exact nit c _ z
section
variable{prog:wH}{w:wI}{A:wY}{E:we->wl->Prop}{s:wl}
theorem zqi{it tu:wf}{i:Nat}{its:Array we}{x:we}{Q:we->wl->Prop}(ei:s.heap.IsTupleIter it tu i)(et:s.heap.IsTuple tu its)(ex:its[i]? = some x)
  (fin:∀h',h'.IsTupleIter it tu (i+1)->vi it s.heap h'->Q x {s with heap:=h'}):wt (model prog w) A (vH (.ref it)) Q E s:=by
 obtain⟨ob,eo,ec,ed⟩:=id ei;obtain⟨ot,eot,_,nt,edt⟩:=et;unfold vH;refine wg (wpAny_callSpecial?_slot (name:=vP "__next__") ei.typeIs VD (vZ VD ei.typeIs QT ?_ (QI _)))
 show wt _ _ (field (.ref it) 0 >>= _) _ _ s;refine wg (vA eo ed (x:=.ref tu) rfl ?_)
 show wt _ _ (if(Value.ref tu == Value.none)=true then _ else _) _ _ s;rw[if_neg (show ¬ ((Value.ref tu == Value.none)=true)from vC)]
 show wt _ _ (field (.ref it) 1 >>= _) _ _ s;refine wg (vA eo ed (x:=.int i 0) rfl ?_)
 show wt _ _ (seqItems? (.ref tu) >>= _) _ _ s;refine wg (Wd eot edt ?_)
 simp only[wP,ex];refine wg (wpAny_setField eo ed (by simp) (wp ⟨x,rfl,wp (fin _ ?_ (qI ..))⟩));exact⟨_,Vv _ eo (qx (qg ed _)),(XX ..).trans ec,by rw[qg ed];simp[VP]⟩
theorem Px{it tu:wf}{i:Nat}{its:Array we}{Q:we->wl->Prop}(hh:A.handled=none)(ei:s.heap.IsTupleIter it tu i)(et:s.heap.IsTuple tu its)(ex:its[i]? = none)
  (fin:∀h' e,Heap.ExtBut it s.heap h'->(∃o,h'.get? e=some o/\o.cls=.type "StopIteration")->E (.ref e) {s with heap:=h'}):wt (model prog w) A (vH (.ref it)) Q E s:=by
 obtain⟨ob,eo,ec,ed⟩:=id ei;obtain⟨ot,eot,_,nt,edt⟩:=et;unfold vH;refine wg (wpAny_callSpecial?_slot (name:=vP "__next__") ei.typeIs VD (vZ VD ei.typeIs QT ?_ (QI _)))
 show wt _ _ (field (.ref it) 0 >>= _) _ _ s;refine wg (vA eo ed (x:=.ref tu) rfl ?_)
 show wt _ _ (if(Value.ref tu == Value.none)=true then _ else _) _ _ s;rw[if_neg (show ¬ ((Value.ref tu == Value.none)=true)from vC)]
 show wt _ _ (field (.ref it) 1 >>= _) _ _ s;refine wg (vA eo ed (x:=.int i 0) rfl ?_)
 show wt _ _ (seqItems? (.ref tu) >>= _) _ _ s;refine wg (Wd eot edt ?_)
 simp only[wP,ex];refine wg (wpAny_rule (wg (wpAny_setField eo ed (by simp) ?_)))
 show wt _ _ (newExc (.type "StopIteration") [] >>= _) _ _ _;refine wg ?_;simp only[newExc,newTuple]
 refine wg (WC ?_ (by size_fits));refine wg (m:=firstArgMember _ _) (wpAny_of_eq (a:=Value.none) (by first | rfl | (simp only[firstArgMember];rfl)) ?_);refine WC ?_ (by size_fits);simp only[raiseNew];refine wg (wpAny_handled ?_)
 first | rw[hh] | rw[show A.in1.handled=none from hh]
 exact wg (wp (wpAny_throw (fin _ _ (((qI ..).extBut.push _).push _) ⟨_,wM _ rfl,rfl⟩)))
theorem iP(hh:A.handled=none)(it tu:wf)(hne:tu≠it)(its:Array we):Draws prog w A it [it,tu] its.size (λi v=>its[i]? = some v) (λi h=>h.IsTupleIter it tu i/\h.IsTuple tu its) where
 live:=λ_ _ st=>let ⟨o,ho,_⟩:=st.1;⟨o,ho⟩
 frame:=λ_ _ _ st hk=>⟨st.1.at λo e=>hk it (by simp) o e,st.2.at λo e=>hk tu (by simp) o e⟩
 item:=λi s Q E hi st hQ=>zqi st.1 st.2 (x:=its[i]) (by simp[hi]) λh' hit' hs'=>hQ _ h' s.toks (by simp[hi]) ⟨hit',st.2.extBut hs'.extBut hne⟩ hs'
 done:=λs Q E st hE=>Px hh st.1 st.2 (by simp) hE
open AutoSeq1 (wpAny_loadPart') in
theorem Zo(tu:wf)(its:Array we)(n:Nat)(dct:Option wf)(sl:Array (Option we)):Meets (Builtin.«enumerate.__new__» ⟨[.type "enumerate",.ref tu],[]⟩) (λ_ R s=>s.heap.get? tu=some {cls:=.type "tuple",dict:=dct,data:=.seq its n,slots:=sl} /\
  R (.ok (.ret (.ref (s.heap.push {cls:=.type "tuple_iterator",data:=.fields #[.ref tu,.int 0 0]}).objs.size))) {s with heap:=(s.heap.push {cls:=.type "tuple_iterator",data:=.fields #[.ref tu,.int 0 0]}).push {cls:=.type "enumerate",data:=.fields #[.none,.bool false,.ref s.heap.objs.size,VP 0,.none,.none]}}) :=
 .of_wp λprog w A R s h=>by
  obtain⟨hp,g,d,tk,os⟩:=s;obtain⟨et,h⟩:=h;have hsub:=sub_enumerate;have hT:XD (X6 ⟨hp,g,d,tk,os⟩) tu its:=⟨_,et,rfl,n,rfl⟩
  wp_walk using wpAny_loadPart' et
  refine wpAny_stack_any λst=>wp ?_
  split
  ·rename_i c _ _ _ _ _
   cases (c == Value.type "enumerate")<;>(wp_walk using wpAny_loadPart' et,W8 hT;exact⟨_,rfl,h⟩)
  ·wp_walk using wpAny_loadPart' et,W8 hT
   exact⟨_,rfl,h⟩
theorem zsC{tu:wf}{its:Array we}{Q:we->wl->Prop}(hT:s.heap.IsTuple tu its)(fin:∀h',IsEnum h' (s.heap.objs.size+1) s.heap.objs.size 0 .none->h'.IsTupleIter s.heap.objs.size tu 0->(∀b o,s.heap.get? b=some o->h'.get? b=some o)->Q (.ref (s.heap.objs.size+1)) {s with heap:=h'}) :
  wt (model prog w) A (call (.type "enumerate") [.ref tu]) Q E s:=by
 obtain⟨⟨c,dct,dt,sl⟩,et,hc,n,hd⟩:=hT;obtain rfl:c=.type "tuple":=hc;obtain rfl:dt=.seq its n:=hd;refine callType_new F.called_enumerate (by decide) (F.typeCall_enumerate_1 _) (F.newCall_enumerate_1 _) (λobj=>F.args_object_init_2 obj _) F.entry_enumerate_new (Zo tu its n dct sl) ⟨et,?_⟩;have hz:(s.heap.push {cls:=.type "tuple_iterator",data:=.fields #[.ref tu,.int 0 0]}).objs.size=s.heap.objs.size+1:=VY ..
 show _/\_
 rw[hz]
 have he:IsEnum ((s.heap.push {cls:=.type "tuple_iterator",data:=.fields #[.ref tu,.int 0 0]}).push {cls:=.type "enumerate",data:=.fields #[.none,.bool false,.ref s.heap.objs.size,VP 0,.none,.none]}) (s.heap.objs.size+1) s.heap.objs.size 0 .none:=by
  rw[<- hz];exact wM _ rfl
 exact⟨⟨_,he,rfl⟩,fin _ he ⟨_,wn _ (wM _ rfl),rfl,rfl⟩ λb o x=>wn _ (wn _ x)⟩
end
def m_(K:wb)(a:wf):It :=
 ⟨λi H=>∃xs x,aR K H a xs/\xs[i]? = some x,λi H y H'=>∃t x,y=.ref t/\H t=none/\(∀xs,aR K H a xs->xs[i]? = some x)/\H'=upd H t (.tup [.int (i:Int),x]),λi H=>∃xs,aR K H a xs/\xs.length<=i⟩
theorem zsR{P:wH}{w:wI}{K:wb}{elts:List Expr}{k1}{tpos:Pos}(a e it:wf)(hne:e≠it):iR P w K (.Tuple elts k1 tpos) (m_ K a) [e,it] e (λi h=>(∃old,IsEnum h e it (i:Int) old)/\h.IsTupleIter it a i) where
 mem:=by simp
 obj:=λi h st b hb=>by
  obtain⟨⟨old,he⟩,o,eo,c,d⟩:=st;rcases wK.mp hb with rfl | hb
  ·exact⟨_,he,λv z=>by cases (show Data.fields _=Data.cell v from z)⟩
  ·rw[vc.mp hb]
   exact⟨o,eo,λv z=>by rw[d]at z;cases z⟩
 keep:=λi h h' st k=>⟨let ⟨old,he⟩:=st.1;⟨old,k e (by simp) _ he⟩,st.2.at λo eo=>k it (by simp) o eo⟩
 item:=by
  intro X hP hw hK hc i pins s σ H E I hf st hg;subst hP hw hK;obtain⟨⟨old,he⟩,st⟩:=st;obtain⟨xs,x,hq,hx⟩:=hg;obtain⟨its,rv,p,hz⟩:=I.tuple hq;obtain⟨u,hu,ru⟩:=rv.get hx;have p':s.heap.IsTuple a its.toArray:=p
  have hai:a≠it:=λz=>by
   subst z;obtain⟨o,e1,c1,_⟩:=st;obtain⟨o',e2,c2,_⟩:=p';rw[e1]at e2;cases e2;rw[c1]at c2;exact absurd c2 (by decide)
  have hae:e≠a:=λz=>by
   subst z;obtain⟨o',e2,c2,_⟩:=p';rw[he]at e2;cases e2;exact absurd (show Value.type "enumerate"=Value.type "tuple" from c2) (by decide)
  have hlt:i<its.toArray.size:=by
   rcases wB i its.length with z | z
   ·simpa using z
   ·rw[wL z]at hu;cases hu
  refine wpAny_pyNext_enum_itemD (iP (A:=X.A.in1) (I.ok.hd hc) it a hai its.toArray) he ⟨st,p'⟩ hlt hne (by simp[hne,hae]) λv h1 tk hv ho hs1 hT hsz hk=>?_
  have hvu:v=u:=by
   have hv':its[i]? = some v:=by simpa using hv
   rw[hu]at hv';exact(wQ hv').symm
  subst hvu
  have I1:Inv X pins σ (upd H s.heap.objs.size (.tup [.int (i:Int),x])) {s with heap:=s.heap.push {cls:=.type "tuple",data:=.seq ([.int (i:Int) tk,v]:List we).toArray},toks:=tk+1} :=
   I.laid (λb o q=>wn _ q) (wo _) (show di X.prog X.w _ _ _ (.tup [.int (i:Int),x])from⟨lK (by simp),_,.cons ⟨_,rfl⟩ (.cons ru .nil),Qq _ _⟩)
  have lt1:∀b∈[e,it],b<s.heap.objs.size:=λb hb=>by
   rcases wK.mp hb with rfl | hb
   ·exact wA he
   ·rw[vc.mp hb]
    obtain⟨o,eo,_⟩:=st;exact wA eo
  have hf1:∀b∈[e,it],d8 X pins (upd H s.heap.objs.size (.tup [.int (i:Int),x])) b:=λb hb=>⟨by rw[dU (wO (lt1 b hb))];exact(hf b hb).1,(hf b hb).2⟩
  refine⟨_,rfl,wpAny_letOwnedTupleGo_enum ho λh2 he2 hs2=>?_⟩;refine⟨.ref s.heap.objs.size,_,Inv.rf (s:={s with heap:=s.heap.push {cls:=.type "tuple",data:=.seq ([.int (i:Int) tk,v]:List we).toArray},toks:=tk+1}) (ch:=[e,it]) I1 (λb o hb q=>?_) hf1,rfl,⟨_,x,rfl,I.aG.fresh (wo _),λys hy=>by rw[I.As hy hq];exact hx,rfl⟩,⟨⟨_,by simpa using he2⟩,hs1.1.at λo eo=>(hs2.2 it (WA hne)).trans eo⟩,λb hb=>(hf1 b hb).1⟩;have hbe:b≠e:=λz=>hb (by simp[z])
  have hbi:b≠it:=λz=>hb (by simp[z])
  refine(hs2.2 b hbe).trans ?_
  by_cases hb2:b=s.heap.objs.size
  ·subst hb2
   rw[wM _ rfl]at q;cases q;exact hT
  ·exact hk b o hbe hbi (by rw[Q5 _ _ _ hb2]at q;exact q)
 done:=by
  intro X hP hw hK hc i pins s σ H E I hf st hg;subst hP hw hK;obtain⟨⟨old,he⟩,st⟩:=st;obtain⟨xs,hq,hx⟩:=hg;obtain⟨its,rv,p,hz⟩:=I.tuple hq;have p':s.heap.IsTuple a its.toArray:=p
  have hai:a≠it:=λz=>by
   subst z;obtain⟨o,e1,c1,_⟩:=st;obtain⟨o',e2,c2,_⟩:=p';rw[e1]at e2;cases e2;rw[c1]at c2;exact absurd c2 (by decide)
  have hl:=rv.length;have hT:s.TypeIs (.ref e) "enumerate":=⟨_,he,rfl⟩;unfold VO;refine wg (VE (wpAny_callSpecial?_slot (name:=vP "__next__") hT qy (vZ qy hT xM ?_ (xq _))))
  show wt _ _ (field (.ref e) 2 >>= _) _ _ _;refine wg (vA he rfl (x:=.ref it) rfl ?_)
  refine wg (Px (A:=X.A.in1) (I.ok.hd hc) st p' (by simp;omega) λh' y he' hx'=>?_);obtain⟨o,ho,hcl⟩:=hx';refine wg (Vm (T:="StopIteration") (b:=true) ⟨o,ho,hcl⟩ isSubtype_stop (wp ⟨rfl,?_⟩));obtain⟨f0,f1,f2,f3,f4,f5⟩:=hf it (by simp);exact I.turned (t':=s.toks) (λb o hb e=>he' b o hb e) f0 f1 f3 f4 f5
 self:=λ_ _ _ _ _ st h=>let ⟨_,he⟩:=st.1;wpAny_pyIter_enum he h
def Dg(K:wb)(ta:TA):TI:=λσ H R=>ta σ H λvs H1=>∃a,vs=[.ref a]/\(∃xs,aR K H1 a xs)/\R (m_ K a) H1
theorem LI:vM "enumerate"=some (.type "enumerate"):=by decide +kernel
theorem JB{X:Cx}{elts:List Expr}{k1}{tpos p pos:Pos}{l:Expr}{ta:TA}(hg:Gl X "enumerate")(hm:X.mg "enumerate"=none)(ha:PA X [l] ta)(hs:w5 [l] X.env=[(false,eval l X.env)]:=by rfl) :
  PI X (.Tuple elts k1 tpos) (.Call (.Name "enumerate" p) [l] [] pos) (Dg X.K ta):=by
 intro pins s σ H R I h;refine Call_ (gf I hg hm LI (vx (aI (ha pos pins s σ H _ I h) λus s1 ⟨vs,H1,I1,r1,q1⟩=>?_) hs rfl));obtain⟨a,rfl,⟨xs,hq⟩,q⟩:=q1;obtain⟨u,rfl,ru⟩:=gq r1;cases ru;obtain⟨its,rv,p,hz⟩:=I1.tuple hq;refine zsC (show s1.heap.IsTuple a its.toArray from p) λh' he hit kp=>?_
 refine wpAny_pyIter_enum he ?_;refine⟨s1.heap.objs.size+1,[s1.heap.objs.size+1,s1.heap.objs.size],_,_,H1,rfl,I1.kept (t':=s1.toks) kp,zsR a (s1.heap.objs.size+1) s1.heap.objs.size (uo _),⟨⟨_,he⟩,hit⟩,λb hb=>?_,q⟩
 have hb':s1.heap.objs.size<=b:=by
  rcases wK.mp hb with rfl | hb
  ·omega
  ·rw[vc.mp hb];exact wo _
 exact I1.ji hb' (I1.aG.fresh hb')
def M7(K:wb)(g:TG)(tb:TS)(D:cj)(σ : St)(vs:List V)(H1:Hp):Prop:=∃a,vs=[.ref a]/\(∃xs,aR K H1 a xs) /\
 ∃W:Nat->Nat->St->Hp->Prop,(∃m,W 0 m σ H1) /\ ∀i m σ H,W i m σ H ->
  ((m_ K a).stop i H/\D.nx σ H)\/((m_ K a).go i H /\ ∃M:St->Hp->Prop,(∀σ' H',M σ' H'->∃m',m'<m/\W (i+1) m' σ' H') /\ ∀x H',(m_ K a).fD i H x H'->g x σ H' λσ2 H2=>tb {D with nx:=M,ct:=M,bk:=D.nx} σ2 H2)
section
variable{K:wb}{ta:TA}{g:TG}{tb:TS}{D:cj}{σ : St}{H:Hp}{a:wf}{xs:List V}
theorem zyr(h:ta σ H λvs H1=>M7 K g tb D σ vs H1):lJ (Dg K ta) g tb D σ H:=h
theorem zvp(hx:aR K H a xs)(Pv:Nat->St->Hp->Prop)(h0:Pv 0 σ H)(hl:∀i σ H,i<=xs.length->Pv i σ H->aR K H a xs)
  (hs:∀i x σ H t H',xs[i]? = some x->Pv i σ H->H t=none->ah H H'->H' t=some (.tup [.int (i:Int),x])->g (.ref t) σ H' λσ2 H2=>tb {D with nx:=Pv (i+1),ct:=Pv (i+1),bk:=D.nx} σ2 H2) (hd:∀σ H,Pv xs.length σ H->D.nx σ H):M7 K g tb D σ [.ref a] H:=by
 refine⟨a,rfl,⟨xs,hx⟩,λi m σ H=>i+m=xs.length/\Pv i σ H,⟨xs.length,by omega,h0⟩,?_⟩;rintro i m σ H ⟨him,hp⟩;have hq:=hl i σ H (by omega) hp
 by_cases hm:m=0
 ·have e:i=xs.length:=by omega
  subst e;exact .inl ⟨⟨xs,hq,wo _⟩,hd _ _ hp⟩
 ·have hi:i<xs.length:=by omega
  refine .inr ⟨⟨xs,xs[i],hq,by simp[hi]⟩,λσ' H'=>Pv (i+1) σ' H',λσ' H' h=>⟨m-1,by omega,by omega,h⟩,?_⟩;rintro y H' ⟨t,x,rfl,hn,hx',rfl⟩;exact hs i x σ H t _ (hx' xs hq) hp hn (ah.upd hn) cE
end
structure ZA(z TI TO i1 i2:wf)(f1 f2:List wf):Prop where
 a1:TI≠z
 a2:TO≠z
 a3:i1≠z
 a4:i2≠z
 a5:TI≠TO
 a6:TI≠i1
 a7:TI≠i2
 a8:TO≠i1
 a9:TO≠i2
 b0:i1≠i2
 b1:z ∉ f1
 b2:z ∉ f2
 b3:TO ∉ f1
 b4:TO ∉ f2
 b5:i1 ∉ f2
 b6:i2 ∉ f1
section
variable{prog:wH}{w:wI}{A:wY}{E:we->wl->Prop}{s:wl}{z TI TO i1 i2:wf}{f1 f2:List wf}{n1 n2 k:Nat}{P1 P2:Nat->we->Prop}{S1 S2:Nat->wF->Prop}{a b:we}
theorem Io{Q:we->wl->Prop}(D1:Draws prog w A i1 f1 n1 P1 S1)(D2:Draws prog w A i2 f2 n2 P2 S2)(ap:ZA z TI TO i1 i2 f1 f2)(hz:IsZip s.heap z TI TO .none)(hi:Wv s.heap TI (.ref i1) (.ref i2))(ho:Wv s.heap TO a b)
  (h1:S1 k s.heap) (h2:S2 k s.heap) (l1:k<n1) (l2:k<n2)
  (fin:∀x y h' tk,P1 k x->P2 k y->IsZip h' z TI TO (VP s.heap.objs.size)->Wv h' TO x y->S1 (k+1) h'->S2 (k+1) h'->Wv h' s.heap.objs.size x y ->
   (∀c o,c≠z->c≠TO->c≠i1->c≠i2->s.heap.get? c=some o->h'.get? c=some o)->Q (.ref s.heap.objs.size) {s with heap:=h',toks:=tk}) :
  wt (model prog w) A (Builtin.«zip.__next__» ⟨[.ref z],[]⟩) (λr s'=>∃v,r=.done (.ret v)/\Q v s') E s:=by
 show wt _ _ (field (.ref z) 2 >>= _) _ _ _;refine wg (vA hz rfl (x:=.bool false) rfl ?_)
 show wt _ _ (field (.ref z) 3 >>= _) _ _ _;refine wg (vA hz rfl (x:=.ref TI) rfl ?_)
 refine wg (Wd hi rfl ?_);show wt _ _ (vF (.ref z) >>= _) _ _ _
 refine wg ?_;unfold vF;refine wg (vA hz rfl (x:=.none) rfl (wp ?_));simp only[if_true];refine wg (wpAny_rule ?_);refine wg (vA hz rfl (x:=.ref TO) rfl ?_);refine wg (W9 hz (by simp) λg1 zz1 sb1=>?_);have zz1:IsZip g1 z TI TO .ellipsis:=zz1;refine wg ?_;simp only[ur,uL,qM,QJ];refine wg (wg (wpAny_onRaise ?_));show wt _ _ (vH (.ref i1) >>= _) _ _ _
 have h1a:S1 k g1:=D1.frame _ _ _ h1 λc hc o e=>sb1.extBut c o (λq=>ap.b1 (q ▸ hc)) e
 have h2a:S2 k g1:=D2.frame _ _ _ h2 λc hc o e=>sb1.extBut c o (λq=>ap.b2 (q ▸ hc)) e
 refine wg (D1.item k _ _ _ l1 h1a λx g2 t2 px h1b sb2=>wp ?_);have ho2:Wv g2 TO a b:=sb2.extBut _ _ ap.a8 (sb1.extBut _ _ ap.a2 ho);have h2b:S2 k g2:=D2.frame _ _ _ h2a λc hc o e=>sb2.extBut c o (λq=>ap.b5 (q ▸ hc)) e
 refine wg (Wd ho2 rfl ?_);refine wg (wpAny_updateSeq_pair ho2 λg3 ho3 sb3=>?_);have ho3:Wv g3 TO x b:=ho3;have sb3:vi TO g2 g3:=sb3;have h1c:S1 (k+1) g3:=D1.frame _ _ _ h1b λc hc o e=>sb3.extBut c o (λq=>ap.b3 (q ▸ hc)) e
 have h2c:S2 k g3:=D2.frame _ _ _ h2b λc hc o e=>sb3.extBut c o (λq=>ap.b4 (q ▸ hc)) e
 refine wg (wpAny_letGo (wp ?_));refine wg (wg (wpAny_onRaise ?_))
 show wt _ _ (vH (.ref i2) >>= _) _ _ _;refine wg (D2.item k _ _ _ l2 h2c λy g4 t4 py h2d sb4=>wp ?_)
 have sb4:vi i2 g3 g4:=sb4;have ho4:Wv g4 TO x b:=sb4.extBut _ _ ap.a9 ho3;have h1d:S1 (k+1) g4:=D1.frame _ _ _ h1c λc hc o e=>sb4.extBut c o (λq=>ap.b6 (q ▸ hc)) e
 refine wg (Wd ho4 rfl ?_);refine wg (wpAny_updateSeq_pair ho4 λg5 ho5 sb5=>?_);have ho5:Wv g5 TO x y:=ho5;have sb5:vi TO g4 g5:=sb5;have h1e:S1 (k+1) g5:=D1.frame _ _ _ h1d λc hc o e=>sb5.extBut c o (λq=>ap.b3 (q ▸ hc)) e
 have h2e:S2 (k+1) g5:=D2.frame _ _ _ h2d λc hc o e=>sb5.extBut c o (λq=>ap.b4 (q ▸ hc)) e
 refine wg (wpAny_letGo (wp (wp ?_)));refine wg (Wd ho5 rfl ?_);refine wg (wpAny_newTuple ?_);have sb2:vi i1 g1 g2:=sb2;have sb1:vi z s.heap g1:=sb1;have hsz:g5.objs.size=s.heap.objs.size:=by rw[sb5.1,sb4.1,sb3.1,sb2.1,sb1.1]
 have zz5:IsZip g5 z TI TO .ellipsis:=sb5.extBut _ _ ap.a2.symm (sb4.extBut _ _ ap.a4.symm (sb3.extBut _ _ ap.a2.symm (sb2.extBut _ _ ap.a3.symm zz1)));have kept:∀c o,c≠z->c≠TO->c≠i1->c≠i2->s.heap.get? c=some o->g5.get? c=some o:=λc o c1 c2 c3 c4 e=>sb5.extBut _ _ c2 (sb4.extBut _ _ c4 (sb3.extBut _ _ c2 (sb2.extBut _ _ c3 (sb1.extBut _ _ c1 e))))
 have zlt:z<g5.objs.size:=wA zz5
 show wt _ _ (qY (.ref z) (.ref g5.objs.size) >>= _) _ _ _;refine wg ?_;unfold qY
 have zz6:IsZip (g5.push {cls:=.type "tuple",data:=.seq #[x,y]}) z TI TO .ellipsis:=wn _ zz5;refine wg (W9 zz6 (by simp) λg7 zz7 sb7=>?_);have zz7:IsZip g7 z TI TO (VP g5.objs.size):=zz7;refine W9 zz7 (by simp) λg8 zz8 sb8=>?_
 have zz8:IsZip g8 z TI TO (VP g5.objs.size):=zz8;have sb7:vi z (g5.push {cls:=.type "tuple",data:=.seq #[x,y]}) g7:=sb7;have sb8:vi z g7 g8:=sb8;have up:∀c o,c≠z->g5.get? c=some o->g8.get? c=some o:=λc o c1 e=>sb8.extBut _ _ c1 (sb7.extBut _ _ c1 (wn _ e))
 have new8:Wv g8 g5.objs.size x y:=sb8.extBut _ _ (vg zlt) (sb7.extBut _ _ (vg zlt) (wM _ rfl));rw[hsz]at zz8 new8;refine wp ⟨_,rfl,?_⟩
 show Q (.ref g5.objs.size) _
 rw[hsz];exact fin x y g8 _ px py zz8 (up _ _ ap.a2 ho5) (D1.frame _ _ _ h1e λc hc o e=>up c o (λq=>ap.b1 (q ▸ hc)) e) (D2.frame _ _ _ h2e λc hc o e=>up c o (λq=>ap.b2 (q ▸ hc)) e) new8 λc o c1 c2 c3 c4 e=>up c o c1 (kept c o c1 c2 c3 c4 e)
theorem Ip{Q:Fin->wl->Prop}(D1:Draws prog w A i1 f1 n1 P1 S1)(D2:Draws prog w A i2 f2 n2 P2 S2)(ap:ZA z TI TO i1 i2 f1 f2)(hz:IsZip s.heap z TI TO .none)(hi:Wv s.heap TI (.ref i1) (.ref i2))(ho:Wv s.heap TO a b)
  (h1:S1 k s.heap) (h2:S2 k s.heap) (hk:k=n1\/(k<n1/\k=n2))
  (fin:∀h' e tk,(∀c o,c≠z->c≠TO->c≠i1->c≠i2->s.heap.get? c=some o->h'.get? c=some o)->(∃o,h'.get? e=some o/\o.cls=.type "StopIteration")->E (.ref e) {s with heap:=h',toks:=tk}) :
  wt (model prog w) A (Builtin.«zip.__next__» ⟨[.ref z],[]⟩) Q E s:=by
 show wt _ _ (field (.ref z) 2 >>= _) _ _ _;refine wg (vA hz rfl (x:=.bool false) rfl ?_)
 show wt _ _ (field (.ref z) 3 >>= _) _ _ _;refine wg (vA hz rfl (x:=.ref TI) rfl ?_)
 refine wg (Wd hi rfl ?_);show wt _ _ (vF (.ref z) >>= _) _ _ _
 refine wg ?_;unfold vF;refine wg (vA hz rfl (x:=.none) rfl (wp ?_));simp only[if_true];refine wg (wpAny_rule ?_);refine wg (vA hz rfl (x:=.ref TO) rfl ?_);refine wg (W9 hz (by simp) λg1 zz1 sb1=>?_);have zz1:IsZip g1 z TI TO .ellipsis:=zz1;have sb1:vi z s.heap g1:=sb1;refine wg ?_;simp only[ur,uL,qM,QJ];refine wg (wg (wpAny_onRaise ?_));show wt _ _ (vH (.ref i1) >>= _) _ _ _
 have h1a:S1 k g1:=D1.frame _ _ _ h1 λc hc o e=>sb1.extBut c o (λq=>ap.b1 (q ▸ hc)) e
 have h2a:S2 k g1:=D2.frame _ _ _ h2 λc hc o e=>sb1.extBut c o (λq=>ap.b2 (q ▸ hc)) e
 rcases hk with rfl | ⟨l1,rfl⟩
 ·refine wg (D1.done _ _ _ h1a λg2 e sb2 he=>?_)
  obtain⟨oe,hoe,hce⟩:=he;have zz2:IsZip g2 z TI TO .ellipsis:=sb2 _ _ ap.a3.symm zz1;have hez:e≠z:=λq=>by subst q;rw[zz2]at hoe;cases hoe;simp at hce
  exact W9 zz2 (by simp) λg3 _ sb3=>fin g3 e _ (λc o c1 _ c3 _ q=>sb3.extBut _ _ c1 (sb2 _ _ c3 (sb1.extBut _ _ c1 q))) ⟨oe,sb3.extBut _ _ hez hoe,hce⟩
 ·refine wg (D1.item k _ _ _ l1 h1a λx g2 t2 px h1b sb2=>wp ?_)
  have sb2:vi i1 g1 g2:=sb2;have ho2:Wv g2 TO a b:=sb2.extBut _ _ ap.a8 (sb1.extBut _ _ ap.a2 ho);have h2b:S2 k g2:=D2.frame _ _ _ h2a λc hc o e=>sb2.extBut c o (λq=>ap.b5 (q ▸ hc)) e
  refine wg (Wd ho2 rfl ?_);refine wg (wpAny_updateSeq_pair ho2 λg3 ho3 sb3=>?_);have sb3:vi TO g2 g3:=sb3;have h2c:S2 k g3:=D2.frame _ _ _ h2b λc hc o e=>sb3.extBut c o (λq=>ap.b4 (q ▸ hc)) e
  refine wg (wpAny_letGo (wp ?_));refine wg (wg (wpAny_onRaise ?_))
  show wt _ _ (vH (.ref i2) >>= _) _ _ _;refine wg (D2.done _ _ _ h2c λg4 e sb4 he=>?_)
  obtain⟨oe,hoe,hce⟩:=he;have zz4:IsZip g4 z TI TO .ellipsis:=sb4 _ _ ap.a4.symm (sb3.extBut _ _ ap.a2.symm (sb2.extBut _ _ ap.a3.symm zz1));have hez:e≠z:=λq=>by subst q;rw[zz4]at hoe;cases hoe;simp at hce
  exact W9 zz4 (by simp) λg5 _ sb5=>fin g5 e _ (λc o c1 c2 c3 c4 q=>sb5.extBut _ _ c1 (sb4 _ _ c4 (sb3.extBut _ _ c2 (sb2.extBut _ _ c3 (sb1.extBut _ _ c1 q))))) ⟨oe,sb5.extBut _ _ hez hoe,hce⟩
end
def dg(t:Bool)(K:wb)(H:Hp)(a:wf)(xs:List V):Prop:=match t with
 | true=>aR K H a xs
 | false=>aK K H a xs
def iE(t:Bool)(h:wF)(it a:wf)(i:Nat):Prop:=match t with
 | true=>h.IsTupleIter it a i
 | false=>h.IsListIter it a i
def ND(t:Bool)(h:wF)(a:wf)(its:Array we):Prop:=match t with
 | true=>h.IsTuple a its
 | false=>h.IsList a its
theorem nF{prog:wH}{w:wI}{A:wY}(t:Bool)(hh:A.handled=none)(it a:wf)(hne:a≠it)(its:Array we):Draws prog w A it [it,a] its.size (λi v=>its[i]? = some v) (λi h=>iE t h it a i/\ND t h a its):=by
 cases t
 ·exact Draws.list hh it a hne its
 ·exact iP hh it a hne its
theorem Inv.iD{X:Cx}{pins:List (wf × Obj)}{σ : L2.St}{H:Hp}{s:wl}{t:Bool}{a:wf}{xs:List V}(I:Inv X pins σ H s)(h:dg t X.K H a xs):∃its:List we,aM xs its/\ND t s.heap a its.toArray:=by
 cases t
 ·obtain⟨its,r,p,_⟩:=I.list h
  exact⟨its,r,p.isList⟩
 ·obtain⟨its,r,p,_⟩:=I.tuple h
  exact⟨its,r,p⟩
theorem Inv.Hx{X:Cx}{pins:List (wf × Obj)}{σ : L2.St}{H:Hp}{s:wl}{t:Bool}{a:wf}{xs ys:List V}(I:Inv X pins σ H s)(h:dg t X.K H a xs)(k:dg t X.K H a ys):xs=ys:=by
 cases t
 ·exact I.Az h k
 ·exact I.As h k
theorem iE.obj{t:Bool}{h:wF}{it a:wf}{i:Nat}(st:iE t h it a i):∃o,h.get? it=some o /\ ∀v,o.data≠.cell v:=by
 cases t
 ·obtain⟨o,e,_,d⟩:=st
  exact⟨o,e,λv z=>by rw[d]at z;cases z⟩
 ·obtain⟨o,e,_,d⟩:=st
  exact⟨o,e,λv z=>by rw[d]at z;cases z⟩
theorem iE.at{t:Bool}{h h':wF}{it a:wf}{i:Nat}(st:iE t h it a i)(k:∀o,h.get? it=some o->h'.get? it=some o):iE t h' it a i:=by
 cases t
 ·exact Heap.IsListIter.at st k
 ·exact Heap.IsTupleIter.at st k
def rW(t u:Bool)(K:wb)(a b:wf):It :=
 ⟨λi H=>∃xs x ys y,dg t K H a xs/\xs[i]? = some x/\dg u K H b ys/\ys[i]? = some y,
  λi H v H'=>∃(c:wf)(x y:V),v=.ref c/\H c=none/\(∀xs,dg t K H a xs->xs[i]? = some x)/\(∀ys,dg u K H b ys->ys[i]? = some y)/\H'=upd H c (.tup [x,y]),
  λi H=>∃xs ys,dg t K H a xs/\dg u K H b ys/\(xs.length=i\/(i<xs.length/\ys.length=i))⟩
theorem Y_{P:wH}{w:wI}{K:wb}{elts:List Expr}{k1}{tpos:Pos}{t u:Bool}(a b z TI TO i1 i2:wf)(ap:ZA z TI TO i1 i2 [i1,a] [i2,b])(na:a≠i1)(nb:b≠i2) :
  iR P w K (.Tuple elts k1 tpos) (rW t u K a b) [z,TI,TO,i1,i2] z (λi h=>IsZip h z TI TO .none/\Wv h TI (.ref i1) (.ref i2)/\(∃p q,Wv h TO p q)/\iE t h i1 a i/\iE u h i2 b i) where
 mem:=by simp
 obj:=λi h st c hc=>by
  obtain⟨hz,hi,⟨p,q,ho⟩,s1,s2⟩:=st;simp only[wK,qD,or_false]at hc;rcases hc with rfl | rfl | rfl | rfl | rfl
  ·exact⟨_,hz,λv z=>by cases (show Data.fields _=Data.cell v from z)⟩
  ·exact⟨_,hi,λv z=>by cases (show Data.seq _ _=Data.cell v from z)⟩
  ·exact⟨_,ho,λv z=>by cases (show Data.seq _ _=Data.cell v from z)⟩
  ·exact s1.obj
  ·exact s2.obj
 keep:=λi h h' st k=>by
  obtain⟨hz,hi,⟨p,q,ho⟩,s1,s2⟩:=st;exact⟨k z (by simp) _ hz,k TI (by simp) _ hi,⟨p,q,k TO (by simp) _ ho⟩,s1.at λo e=>k i1 (by simp) o e,s2.at λo e=>k i2 (by simp) o e⟩
 item:=by
  intro X hP hw hK hc i pins s σ H E I hf st hg;subst hP hw hK;obtain⟨hz,hi,⟨p,q,ho⟩,s1,s2⟩:=st;obtain⟨xs,x,ys,y,hq1,hx,hq2,hy⟩:=hg;obtain⟨its,r1,p1⟩:=I.iD hq1;obtain⟨jts,r2,p2⟩:=I.iD hq2;obtain⟨ux,hux,rux⟩:=r1.get hx;obtain⟨uy,huy,ruy⟩:=r2.get hy
  have lt1:i<its.toArray.size:=by
   rcases wB i its.length with q | q
   ·simpa using q
   ·rw[wL q]at hux;cases hux
  have lt2:i<jts.toArray.size:=by
   rcases wB i jts.length with q | q
   ·simpa using q
   ·rw[wL q]at huy;cases huy
  have hT:s.TypeIs (.ref z) "zip":=⟨_,hz,rfl⟩;unfold VO
  refine wg (VE (wpAny_callSpecial?_slot (name:=vP "__next__") hT Wl (vZ Wl hT V6
   (Io (nF (A:=X.A.in1) t (I.ok.hd hc) i1 a na its.toArray) (nF (A:=X.A.in1) u (I.ok.hd hc) i2 b nb jts.toArray) ap hz hi ho ⟨s1,p1⟩ ⟨s2,p2⟩ lt1 lt2 λv1 v2 h1 tk e1 e2 hz1 ho1 st1 st2 hT1 hk=>wp ?_) (VM _))))
  have ev1:v1=ux:=by
   have e1':its[i]? = some v1:=by simpa using e1
   rw[hux]at e1';exact(wQ e1').symm
  have ev2:v2=uy:=by
   have e2':jts[i]? = some v2:=by simpa using e2
   rw[huy]at e2';exact(wQ e2').symm
  subst ev1 ev2
  have I1:Inv X pins σ (upd H s.heap.objs.size (.tup [x,y])) {s with heap:=s.heap.push {cls:=.type "tuple",data:=.seq ([v1,v2]:List we).toArray},toks:=tk} :=
   I.laid (λc o q=>wn _ q) (wo _) (show di X.prog X.w _ _ _ (.tup [x,y])from⟨lK (by simp),_,.cons rux (.cons ruy .nil),Qq _ _⟩)
  have ltf:∀c∈[z,TI,TO,i1,i2],c<s.heap.objs.size:=λc hc=>by
   simp only[wK,qD,or_false]at hc;rcases hc with rfl | rfl | rfl | rfl | rfl
   ·exact wA hz
   ·exact wA hi
   ·exact wA ho
   ·obtain⟨o,e,_⟩:=s1.obj;exact wA e
   ·obtain⟨o,e,_⟩:=s2.obj;exact wA e
  have hf1:∀c∈[z,TI,TO,i1,i2],d8 X pins (upd H s.heap.objs.size (.tup [x,y])) c:=λc hc=>⟨by rw[dU (wO (ltf c hc))];exact(hf c hc).1,(hf c hc).2⟩
  refine⟨_,rfl,wpAny_letOwnedTupleGo_zip hz1 λh2 hz2 hs2=>?_⟩;have hs2:vi z h1 h2:=hs2
  refine⟨.ref s.heap.objs.size,_,Inv.rf (s:={s with heap:=s.heap.push {cls:=.type "tuple",data:=.seq ([v1,v2]:List we).toArray},toks:=tk}) (ch:=[z,TI,TO,i1,i2]) I1 (λc o hc q=>?_) hf1,rfl,
   ⟨_,x,y,rfl,I.aG.fresh (wo _),λzs hzs=>by rw[I.Hx hzs hq1];exact hx,λzs hzs=>by rw[I.Hx hzs hq2];exact hy,rfl⟩,
   ⟨hz2,hs2.extBut _ _ ap.a1 (hk _ _ ap.a1 ap.a5 ap.a6 ap.a7 hi),⟨_,_,hs2.extBut _ _ ap.a2 ho1⟩,st1.1.at λo e=>hs2.extBut _ _ ap.a3 e,st2.1.at λo e=>hs2.extBut _ _ ap.a4 e⟩,λc hc=>(hf1 c hc).1⟩
  have c1:c≠z:=λq=>hc (by simp[q])
  have c2:c≠TO:=λq=>hc (by simp[q])
  have c3:c≠i1:=λq=>hc (by simp[q])
  have c4:c≠i2:=λq=>hc (by simp[q])
  refine hs2.extBut _ _ c1 ?_
  by_cases hcs:c=s.heap.objs.size
  ·subst hcs
   rw[wM _ rfl]at q;cases q;exact hT1
  ·exact hk c o c1 c2 c3 c4 (by rw[Q5 _ _ _ hcs]at q;exact q)
 done:=by
  intro X hP hw hK hc i pins s σ H E I hf st hg;subst hP hw hK;obtain⟨hz,hi,⟨p,q,ho⟩,s1,s2⟩:=st;obtain⟨xs,ys,hq1,hq2,hend⟩:=hg;obtain⟨its,r1,p1⟩:=I.iD hq1;obtain⟨jts,r2,p2⟩:=I.iD hq2;have e1:=r1.length;have e2:=r2.length;have hT:s.TypeIs (.ref z) "zip":=⟨_,hz,rfl⟩;unfold VO
  refine wg (VE (wpAny_callSpecial?_slot (name:=vP "__next__") hT Wl (vZ Wl hT V6
   (Ip (k:=i) (nF (A:=X.A.in1) t (I.ok.hd hc) i1 a na its.toArray) (nF (A:=X.A.in1) u (I.ok.hd hc) i2 b nb jts.toArray) ap hz hi ho ⟨s1,p1⟩ ⟨s2,p2⟩ (by simp only[wN];omega) λh' y tk hk hx'=>?_) (VM _))))
  obtain⟨o,ho',hcl⟩:=hx';refine wg (Vm (T:="StopIteration") (b:=true) ⟨o,ho',hcl⟩ isSubtype_stop (wp ⟨rfl,?_⟩));exact Inv.rf (ch:=[z,TI,TO,i1,i2]) I (λc o hc e=>hk c o (λq=>hc (by simp[q])) (λq=>hc (by simp[q])) (λq=>hc (by simp[q])) (λq=>hc (by simp[q])) e) hf
 self:=λ_ _ _ _ _ st h=>wpAny_pyIter_zip st.1 h
abbrev zF(h:wF)(a:wf):wF:=h.push {cls:=.type "tuple_iterator",data:=.fields #[.ref a,.int 0 0]}
abbrev yg(h:wF)(a b:wf):wF:=(zF h a).push {cls:=.type "tuple_iterator",data:=.fields #[.ref b,.int 0 0]}
abbrev tF(h:wF)(a b:wf):wF:=(yg h a b).push {cls:=.type "tuple",data:=.seq #[.ref h.objs.size,.ref (zF h a).objs.size]}
abbrev tV(h:wF)(a b:wf):wF:=(tF h a b).push {cls:=.type "tuple",data:=.seq #[.none,.none]}
abbrev mh(h:wF)(a b:wf):wF:=(tV h a b).push {cls:=.type "zip",data:=.fields #[.none,.bool false,.bool false,.ref (yg h a b).objs.size,.ref (tF h a b).objs.size]}
theorem TX(a b:wf)(xs ys:Array we):Meets (Builtin.«zip.__new__» ⟨[.type "zip",.ref a,.ref b],[]⟩) (λ_ R s=>s.heap.IsTuple a xs/\s.heap.IsTuple b ys/\R (.ok (.ret (.ref (tV s.heap a b).objs.size))) {s with heap:=mh s.heap a b}) :=
 .of_wp λprog w A R s h=>by
  obtain⟨hp,g,d,tk,os⟩:=s;obtain⟨ha,hb,h⟩:=h;have hsub:=sub_zip;have hA:XD (X6 ⟨hp,g,d,tk,os⟩) a xs:=ha;have hB:XD (X6 ⟨hp.push {cls:=.type "tuple_iterator",data:=.fields #[.ref a,.int 0 0]},g,d,tk,os⟩) b ys:=hb.at λo e=>wn _ e
  wp_walk using W8 hA,W8 hB
  exact⟨_,rfl,h⟩
section
variable{prog:wH}{w:wI}{A:wY}{E:we->wl->Prop}{s:wl}
theorem PC{a b:wf}{xs ys:Array we}{Q:we->wl->Prop}(ha:s.heap.IsTuple a xs)(hb:s.heap.IsTuple b ys)
  (fin:∀h',IsZip h' (s.heap.objs.size+4) (s.heap.objs.size+2) (s.heap.objs.size+3) .none->Wv h' (s.heap.objs.size+2) (.ref s.heap.objs.size) (.ref (s.heap.objs.size+1))->Wv h' (s.heap.objs.size+3) .none .none ->
   h'.IsTupleIter s.heap.objs.size a 0->h'.IsTupleIter (s.heap.objs.size+1) b 0->(∀c o,s.heap.get? c=some o->h'.get? c=some o)->Q (.ref (s.heap.objs.size+4)) {s with heap:=h'}):wt (model prog w) A (call (.type "zip") [.ref a,.ref b]) Q E s:=by
 refine callType_new F.called_zip (by decide) (F.typeCall_zip_2 _ _) (F.newCall_zip_2 _ _) (λobj=>F.args_object_init_3 obj _ _) F.entry_zip_new (TX a b xs ys) ⟨ha,hb,?_⟩;have z1:(zF s.heap a).objs.size=s.heap.objs.size+1:=VY ..;have z2:(yg s.heap a b).objs.size=s.heap.objs.size+2:=by rw[VY,z1]
 have z3:(tF s.heap a b).objs.size=s.heap.objs.size+3:=by rw[VY,z2]
 have z4:(tV s.heap a b).objs.size=s.heap.objs.size+4:=by rw[VY,z3]
 have g5:(mh s.heap a b).get? (tV s.heap a b).objs.size=some _:=wM _ rfl;have g4:(mh s.heap a b).get? (tF s.heap a b).objs.size=some _:=wn _ (wM _ rfl);have g3:(mh s.heap a b).get? (yg s.heap a b).objs.size=some _:=wn _ (wn _ (wM _ rfl));have g2:(mh s.heap a b).get? (zF s.heap a).objs.size=some _:=wn _ (wn _ (wn _ (wM _ rfl)));have g1:(mh s.heap a b).get? s.heap.objs.size=some _:=wn _ (wn _ (wn _ (wn _ (wM _ rfl))))
 show _/\_
 rw[z2,z3,z4]at g5;rw[z1,z2]at g3;rw[z3]at g4;rw[z1]at g2;rw[z4];exact⟨⟨_,g5,rfl⟩,fin _ g5 g3 g4 ⟨_,g1,rfl,rfl⟩ ⟨_,g2,rfl,rfl⟩ λc o x=>wn _ (wn _ (wn _ (wn _ (wn _ x))))⟩
end
def DC(t u:Bool)(K:wb)(ta:TA):TI:=λσ H R=>ta σ H λvs H1=>∃a b,vs=[.ref a,.ref b]/\(∃xs,dg t K H1 a xs)/\(∃ys,dg u K H1 b ys)/\R (rW t u K a b) H1
theorem CS:vM "zip"=some (.type "zip"):=by decide +kernel
theorem mR{x a b:wf}(h:x≠a)(k:x≠b):x ∉ [a,b]:=by simp[h,k]
theorem J_{n a b:Nat}(la:a<n)(lb:b<n):ZA (n+4) (n+2) (n+3) n (n+1) [n,a] [n+1,b] where
 a1:=wO (by omega)
 a2:=wO (by omega)
 a3:=wO (by omega)
 a4:=wO (by omega)
 a5:=wO (by omega)
 a6:=vg (by omega)
 a7:=vg (by omega)
 a8:=vg (by omega)
 a9:=vg (by omega)
 b0:=wO (by omega)
 b1:=mR (vg (by omega)) (vg (by omega))
 b2:=mR (vg (by omega)) (vg (by omega))
 b3:=mR (vg (by omega)) (vg (by omega))
 b4:=mR (vg (by omega)) (vg (by omega))
 b5:=mR (wO (by omega)) (vg (by omega))
 b6:=mR (vg (by omega)) (vg (by omega))
theorem Rb{X:Cx}{elts:List Expr}{k1}{tpos:Pos}{pins:List (wf × Obj)}{σ : L2.St}{H:Hp}{s:wl}{R:It->Hp->Prop}{h':wF}{E:we->wl->Prop}{t u:Bool}{a b:wf}(I:Inv X pins σ H s)(la:a<s.heap.objs.size)(lb:b<s.heap.objs.size)
  (hz:IsZip h' (s.heap.objs.size+4) (s.heap.objs.size+2) (s.heap.objs.size+3) .none) (hi:Wv h' (s.heap.objs.size+2) (.ref s.heap.objs.size) (.ref (s.heap.objs.size+1))) (ho:Wv h' (s.heap.objs.size+3) .none .none)
  (s1:iE t h' s.heap.objs.size a 0) (s2:iE u h' (s.heap.objs.size+1) b 0) (kp:∀c o,s.heap.get? c=some o->h'.get? c=some o) (q:R (rW t u X.K a b) H):wt (model X.prog X.w) X.A (pyIter (.ref (s.heap.objs.size+4))) (DK X pins σ (.Tuple elts k1 tpos) R) E {s with heap:=h'}:=by
 refine wpAny_pyIter_zip hz ?_;refine⟨s.heap.objs.size+4,[s.heap.objs.size+4,s.heap.objs.size+2,s.heap.objs.size+3,s.heap.objs.size,s.heap.objs.size+1],_,_,H,rfl,I.kept (t':=s.toks) kp,Y_ a b _ (s.heap.objs.size+2) (s.heap.objs.size+3) s.heap.objs.size (s.heap.objs.size+1) (J_ la lb) (wO la) (wO (VL lb)),⟨hz,hi,⟨_,_,ho⟩,s1,s2⟩,λc hc=>?_,q⟩
 ·have hb':s.heap.objs.size<=c:=by
   simp only[wK,qD,or_false]at hc;rcases hc with rfl | rfl | rfl | rfl | rfl
   ·exact WJ _ 4
   ·exact WJ _ 2
   ·exact WJ _ 3
   ·exact wo _
   ·exact WJ _ 1
  exact I.ji hb' (I.aG.fresh hb')
theorem Tt{X:Cx}{elts:List Expr}{k1}{tpos p pos:Pos}{l m:Expr}{ta:TA}(hg:Gl X "zip")(hm:X.mg "zip"=none)(ha:PA X [l,m] ta)(hs:w5 [l,m] X.env=[(false,eval l X.env),(false,eval m X.env)]:=by rfl)(hs2:w5 [m] X.env=[(false,eval m X.env)]:=by rfl) :
  PI X (.Tuple elts k1 tpos) (.Call (.Name "zip" p) [l,m] [] pos) (DC true true X.K ta):=by
 intro pins s σ H R I h;refine Call_ (gf I hg hm CS (vx (aI (ha pos pins s σ H _ I h) λus s1 ⟨vs,H1,I1,r1,q1⟩=>?_) (by rw[hs,hs2]) (by rw[hs2];rfl)));obtain⟨a,b,rfl,⟨xs,hq1⟩,⟨ys,hq2⟩,q⟩:=q1;obtain⟨u,v,rfl,ru,rv⟩:=kN r1;cases ru;cases rv;obtain⟨its,_,p1⟩:=I1.iD hq1;obtain⟨jts,_,p2⟩:=I1.iD hq2;have la:a<s1.heap.objs.size:=by obtain⟨o,e,_⟩:=(show s1.heap.IsTuple a its.toArray from p1);exact wA e
 have lb:b<s1.heap.objs.size:=by obtain⟨o,e,_⟩:=(show s1.heap.IsTuple b jts.toArray from p2);exact wA e
 exact PC p1 p2 λh' hz hi ho t1 t2 kp=>Rb (t:=true) (u:=true) I1 la lb hz hi ho t1 t2 kp q
theorem zyw{X:Cx}{elts:List Expr}{k1}{tpos p pos:Pos}{l m:Expr}{ta:TA}(hg:Gl X "zip")(hm:X.mg "zip"=none)(ha:PA X [l,m] ta)(hs:w5 [l,m] X.env=[(false,eval l X.env),(false,eval m X.env)]:=by rfl)(hs2:w5 [m] X.env=[(false,eval m X.env)]:=by rfl) :
  PI X (.Tuple elts k1 tpos) (.Call (.Name "zip" p) [l,m] [] pos) (DC false false X.K ta):=by
 intro pins s σ H R I h;refine Call_ (gf I hg hm CS (vx (aI (ha pos pins s σ H _ I h) λus s1 ⟨vs,H1,I1,r1,q1⟩=>?_) (by rw[hs,hs2]) (by rw[hs2];rfl)));obtain⟨a,b,rfl,⟨xs,hq1⟩,⟨ys,hq2⟩,q⟩:=q1;obtain⟨u,v,rfl,ru,rv⟩:=kN r1;cases ru;cases rv;obtain⟨its,_,p1⟩:=I1.iD hq1;obtain⟨jts,_,p2⟩:=I1.iD hq2;have la:a<s1.heap.objs.size:=by obtain⟨o,e,_⟩:=(show s1.heap.IsList a its.toArray from p1);exact wA e
 have lb:b<s1.heap.objs.size:=by obtain⟨o,e,_⟩:=(show s1.heap.IsList b jts.toArray from p2);exact wA e
 exact call_zip_2 p1 p2 λh' hz hi ho t1 t2 _ kp=>Rb (t:=false) (u:=false) I1 la lb hz hi ho t1 t2 kp q
theorem dg.same{t:Bool}{K:wb}{H H':Hp}{a:wf}{xs:List V}(s:ah H H')(h:dg t K H a xs):dg t K H' a xs:=by
 cases t
 ·exact s.seq h
 ·exact s.jx h
def Dk(t u:Bool)(K:wb)(g:TG)(tt:TT)(te:TE)(src:List (Option Nat))(σ : L2.St)(vs:List V)(H1:Hp)(Q:VK):Prop:=∃a b,vs=[.ref a,.ref b]/\(∃xs,dg t K H1 a xs)/\(∃ys,dg u K H1 b ys) /\
 ∀D,H1 D=none->ju g tt te (rW t u K a b) D (du src σ) (upd H1 D (.lst [])) (λH'=>Q (.ref D) H')
section
variable{t u:Bool}{K:wb}{ta:TA}{g:TG}{tb:TS}{tt:TT}{te:TE}{D:cj}{σ : L2.St}{H:Hp}{Q:VK}{a b:wf}{xs ys:List V}{src:List (Option Nat)}{o0 o0':Option V}{tl:L2.St}
theorem zxo(h:ta σ H λvs H1=>Dk t u K g tt te src σ vs H1 Q):jq src (DC t u K ta) g tt te σ H Q:=h
def fR(H:Hp)(tl:L2.St)(Rel:Nat->V->Hp->Prop)(D:wf)(i:Nat)(zs:List V)(σ':L2.St)(H':Hp):Prop :=
 (∃o1 o2,σ'=o1::o2::tl)/\H D=none/\ah H H'/\H' D=some (.lst zs)/\zs.length=i /\ ∀j y,zs[j]? = some y->Rel j y H'
theorem yt{Rel:Nat->V->Hp->Prop}{D:wf}{i:Nat}{zs:List V}{σ' σ3:L2.St}{H1 H5:Hp}{y:V}(inv:fR H tl Rel D i zs σ' H1)(hi:i<=1000)(hk:∀i v H1 H2,bG H1 H2->Rel i v H1->Rel i v H2)(hσ : ∃o1 o2,σ3=o1::o2::tl)(s:ah H1 H5)(r:Rel i y H5):pZ (fR H tl Rel) D i σ3 y H5:=by
 obtain⟨_,hn,s1,hD,hl,hr⟩:=inv;have hD5:=s _ _ hD;refine kQ hD5 (by omega) λH6 E6 e6=>⟨hσ,hn,(s1.trans s).grow hn E6,e6,by simp[hl],λj z hz=>?_⟩
 have k6:bG H5 H6:=E6.keep hD5;rcases wB j zs.length with hj | hj
 ·rw[vR hj]at hz
  exact hk _ _ _ _ (s.keep.trans k6) (hr j z hz)
 ·have hj':j=zs.length:=by
   rcases wB zs.length j with q | q
   ·rw[wL (by simp;omega)]at hz;cases hz
   ·omega
  subst hj';rw[vv (wo _),Vs]at hz;cases hz;rw[hl];exact hk _ _ _ _ k6 r
theorem zyz(hx:dg t K H a xs)(hy:dg u K H b ys)(hxy:xs.length=ys.length)(hsrc:du src σ = o0::o0'::tl)(Rel:Nat->V->Hp->Prop)(hk:∀i v H1 H2,bG H1 H2->Rel i v H1->Rel i v H2)
  (hs:∀D i x y zs o1 o2 H1 c,xs[i]? = some x->ys[i]? = some y->fR H tl Rel D i zs (o1::o2::tl) H1->H1 c=some (.tup [x,y])->gM (fR H tl Rel) g tt te D i (.ref c) (o1::o2::tl) H1)
  (hd:∀D zs H',H D=none->ah H H'->H' D=some (.lst zs)->zs.length=xs.length->(∀j y,zs[j]? = some y->Rel j y H')->Q (.ref D) H'):Dk t u K g tt te src σ [.ref a,.ref b] H Q:=by
 refine⟨a,b,rfl,⟨xs,hx⟩,⟨ys,hy⟩,λD hD=>⟨λi m σ' H'=>i+m=xs.length /\ ∃zs,fR H tl Rel D i zs σ' H',⟨xs.length,by omega,[],⟨o0,o0',hsrc⟩,hD,ah.upd hD,cE,rfl,λj y z=>by simp at z⟩,?_⟩⟩;rintro i m σ' H' ⟨him,zs,inv⟩;have hq1:=dg.same inv.2.2.1 hx;have hq2:=dg.same inv.2.2.1 hy
 by_cases hm:m=0
 ·have e:i=xs.length:=by omega
  subst e;obtain⟨_,n,s,e,hl,r⟩:=inv;exact .inl ⟨⟨xs,ys,hq1,hq2,.inl rfl⟩,hd D zs H' n s e hl r⟩
 ·have hi:i<xs.length:=by omega
  have hj:i<ys.length:=by omega
  refine .inr ⟨⟨xs,xs[i],ys,ys[i],hq1,by simp[hi],hq2,by simp[hj]⟩,λσ2 H2=>∃zs,fR H tl Rel D (i+1) zs σ2 H2,λσ2 H2 h=>⟨m-1,by omega,by omega,h⟩,?_⟩;rintro v H2 ⟨c,x,y,rfl,hn,hx',hy',rfl⟩;obtain⟨⟨o1,o2,rfl⟩,n,s,e,hl,r⟩:=inv;have su:=ah.upd (o:=.tup [x,y]) hn;exact hs D i x y zs o1 o2 _ c (hx' xs hq1) (hy' ys hq2) ⟨⟨o1,o2,rfl⟩,n,s.trans su,su _ _ e,hl,λj y hy=>hk _ _ _ _ su.keep (r j y hy)⟩ cE
end
def Ce(K:wb):List V->Hp->VK->Prop:=λxs H Q=>∃(p:wf)(ns:List Int),xs=[.ref p]/\aR K H p (ns.map V.int)/\Q (.int ns.sum) H
theorem JR:vM "sum"=some (.builtin "sum"):=by decide +kernel
open PyProof.V PySem.Calls in
theorem Yi{X:Cx}(hc:X.calm=true):aO X (.builtin "sum") (Ce X.K):=by
 intro pins s σ H xs us Q I r h;obtain⟨p,ns,rfl,hq,q⟩:=h;obtain⟨u,rfl,rx⟩:=gq r;cases rx;obtain⟨its,r',pl,hz⟩:=I.tuple hq;have hI:=yG r';have hT:s.heap.IsTuple p its.toArray:=pl;obtain⟨zs,hx⟩:=hI.allInts.items;have hn:numsOf its.toArray.toList=ns:=by rw[show its.toArray.toList=its from rfl,hI.numsOf]
 rw[hx]at hT hn;rw[nums_intItems]at hn;refine PySem.W.ktm_sumG (I.ok.hd hc) hT λh' tk t' hk=>?_
 rw[preSum_eq,WR (by simp),hn];exact⟨.int ns.sum,H,I.kept (t':=tk) hk,⟨_,rfl⟩,q⟩
theorem zvY{K:wb}{H:Hp}{Q:VK}{v:V}{ns:List Int}(h:Is K H v (TZ ns))(q:Q (.int ns.sum) H):Ce K [v] H Q:=by
 obtain⟨a,rfl,hs⟩:=nZ.mp h;exact⟨a,ns,rfl,hs,q⟩
theorem Te{α : Type}(xs:List α)(k:Nat)(h:k<=xs.length):iJ xs (some (k:Int)) none=xs.drop k:=by
 unfold iJ;rw[HT.Si,HT.Sm,xy h];exact WR (by rw[vU];omega)
def mJ(K:wb):List V->Hp->VK->Prop:=λxs H Q=>∃(p:wf)(bs:List Bool),xs=[.ref p]/\aK K H p (bs.map V.bl)/\Q (.bl (bs.all id)) H
theorem sN:vM "all"=some (.builtin "all"):=by decide +kernel
theorem Nb{bs:List Bool} : ∀{us:List we},aM (bs.map V.bl) us->us=bs.map Value.bool:=by
 induction bs with
 | nil=>intro us r;rw[xh]at r;cases r;rfl
 | cons b bs ih =>
  intro us r;rw[w9]at r;cases r with
  | cons r1 r2 =>
   cases r1;rw[w9,ih r2]
theorem zrZ(bs:List Bool):((wq bs.length).all λi=>(bs[i]?).getD true)=bs.all id:=by
 rw[vI,WI,WI]
 constructor
 ·intro h b hb
  obtain⟨i,hi,rfl⟩:=wX hb;have:=h i (wG.mpr hi);rw[wc hi]at this;exact this
 ·intro h i hi
  rw[wG]at hi;rw[wc hi];exact h _ (vJ hi)
open PyProof.V PySem.Calls in
theorem tP{X:Cx}(hc:X.calm=true):aO X (.builtin "all") (mJ X.K):=by
 intro pins s σ H xs us Q I r h;obtain⟨p,bs,rfl,hq,q⟩:=h;obtain⟨u,rfl,rx⟩:=gq r;cases rx;obtain⟨its,r',pl,hz⟩:=I.list hq;have hi:its=bs.map Value.bool:=Nb r';have hl:s.heap.IsList p its.toArray:=pl.isList;have hlt:p<s.heap.objs.size:=by obtain⟨_,e,_⟩:=hl;exact wA e
 refine call_all_walk (qq hl ?_)
 refine⟨s.heap.objs.size,[s.heap.objs.size,p],[s.heap.objs.size],its.toArray.size,_,_,λi=>(bs[i]?).getD true,rfl,uM (A:=X.A.in1) (I.ok.hd hc) _ p (wO hlt) its.toArray,
  ⟨⟨_,wM _ rfl,rfl,rfl⟩,hl.push _⟩,λi v s' Q' E' hP hQ=>?_,λh' tk hk=>?_⟩
 ·have hP:its.toArray[i]? = some v:=hP
  rw[hi]at hP;simp only[xV,wx,Vn]at hP;obtain⟨b,e,rfl⟩:=hP;simp only[e,Qp]at hQ;exact Wq hQ
 ·have e:((wq its.toArray.size).all λi=>(bs[i]?).getD true)=bs.all id:=by
   rw[wN,hi,wm];exact zrZ bs
  rw[e];exact⟨.bl (bs.all id),H,I.kept (t':=tk) (λb x e=>hk b x (λhm=>by rw[vc.mp hm]at e;exact Vc _ (wA e)) (wn _ e)),rfl,q⟩
theorem oY{K:wb}{H:Hp}{Q:VK}{p:wf}{bs:List Bool}(h:aK K H p (bs.map V.bl))(q:Q (.bl (bs.all id)) H):mJ K [.ref p] H Q:=⟨p,bs,rfl,h,q⟩
section
variable{t u:Bool}{K:wb}{g:TG}{tt:TT}{te:TE}{σ : L2.St}{H:Hp}{Q:VK}{a b:wf}{xs ys:List V}{src:List (Option Nat)}{o0 o0':Option V}{tl:L2.St}
theorem zxL(hx:dg t K H a xs)(hy:dg u K H b ys)(hxy:ys.length<xs.length)(hsrc:du src σ = o0::o0'::tl)(Rel:Nat->V->Hp->Prop)(hk:∀i v H1 H2,bG H1 H2->Rel i v H1->Rel i v H2)
  (hs:∀D i x y zs o1 o2 H1 c,xs[i]? = some x->ys[i]? = some y->fR H tl Rel D i zs (o1::o2::tl) H1->H1 c=some (.tup [x,y])->gM (fR H tl Rel) g tt te D i (.ref c) (o1::o2::tl) H1)
  (hd:∀D zs H',H D=none->ah H H'->H' D=some (.lst zs)->zs.length=ys.length->(∀j y,zs[j]? = some y->Rel j y H')->Q (.ref D) H'):Dk t u K g tt te src σ [.ref a,.ref b] H Q:=by
 refine⟨a,b,rfl,⟨xs,hx⟩,⟨ys,hy⟩,λD hD=>⟨λi m σ' H'=>i+m=ys.length /\ ∃zs,fR H tl Rel D i zs σ' H',⟨ys.length,by omega,[],⟨o0,o0',hsrc⟩,hD,ah.upd hD,cE,rfl,λj y z=>by simp at z⟩,?_⟩⟩;rintro i m σ' H' ⟨him,zs,inv⟩;have hq1:=dg.same inv.2.2.1 hx;have hq2:=dg.same inv.2.2.1 hy
 by_cases hm:m=0
 ·have e:i=ys.length:=by omega
  subst e;obtain⟨_,n,s,e,hl,r⟩:=inv;exact .inl ⟨⟨xs,ys,hq1,hq2,.inr ⟨hxy,rfl⟩⟩,hd D zs H' n s e hl r⟩
 ·have hi:i<xs.length:=by omega
  have hj:i<ys.length:=by omega
  refine .inr ⟨⟨xs,xs[i],ys,ys[i],hq1,by simp[hi],hq2,by simp[hj]⟩,λσ2 H2=>∃zs,fR H tl Rel D (i+1) zs σ2 H2,λσ2 H2 h=>⟨m-1,by omega,by omega,h⟩,?_⟩;rintro v H2 ⟨c,x,y,rfl,hn,hx',hy',rfl⟩;obtain⟨⟨o1,o2,rfl⟩,n,s,e,hl,r⟩:=inv;have su:=ah.upd (o:=.tup [x,y]) hn;exact hs D i x y zs o1 o2 _ c (hx' xs hq1) (hy' ys hq2) ⟨⟨o1,o2,rfl⟩,n,s.trans su,su _ _ e,hl,λj y hy=>hk _ _ _ _ su.keep (r j y hy)⟩ cE
end
def NQ(g:TG)(tb:TS)(D:cj)(σ : L2.St)(vs:List V)(H1:Hp):Prop:=∃i j:Int,vs=[.int i,.int j]/\(-(2^62)<=i/\i<2^62 /\ -(2^62)<=j/\j<2^62) /\
 ∃W:Nat->Nat->L2.St->Hp->Prop,(∃m,W 0 m σ H1) /\ ∀k m σ H,W k m σ H ->
  ((fT i (j-i).toNat).stop k H/\D.nx σ H)\/((fT i (j-i).toNat).go k H /\ ∃M:L2.St->Hp->Prop,(∀σ' H',M σ' H'->∃m',m'<m/\W (k+1) m' σ' H') /\ ∀x H',(fT i (j-i).toNat).fD k H x H'->g x σ H' λσ2 H2=>tb {D with nx:=M,ct:=M,bk:=D.nx} σ2 H2)
theorem zwG{ta:TA}{g:TG}{tb:TS}{D:cj}{σ : L2.St}{H:Hp}(h:ta σ H λvs H1=>NQ g tb D σ vs H1):lJ (Ny ta) g tb D σ H:=h
theorem Y7{g:TG}{tb:TS}{D:cj}{σ : L2.St}{H:Hp}{lo hi:Int}(h0 : -1000000000<=lo)(h1:lo<1000000000)(h2 : -1000000000<=hi)(h3:hi<1000000000)(Pv:Nat->L2.St->Hp->Prop)(p:Pv 0 σ H)
  (hs:∀(i:Nat) σ H,i<(hi-lo).toNat->Pv i σ H->g (.int (lo+(i:Int))) σ H λσ2 H2=>tb {D with nx:=Pv (i+1),ct:=Pv (i+1),bk:=D.nx} σ2 H2)
  (hd:∀σ H,Pv (hi-lo).toNat σ H->D.nx σ H):NQ g tb D σ [.int lo,.int hi] H :=
 ⟨lo,hi,rfl,⟨by omega,by omega,by omega,by omega⟩,II (lo:=lo) Pv p hs hd⟩
def CM(K:wb):List V->Hp->VK->Prop:=λxs H Q=>∃x tp S T d b,xs=[x,.ref tp]/\aR K H tp [.ty S,.ty T]/\Is K H x d/\u3 K (.type (kindOf d)) [.type S,.type T]=some b/\Q (.bl b) H
theorem zta{X:Cx} : aO X (.builtin "isinstance") (CM X.K):=by
 intro pins s σ H xs us Q I r h;obtain⟨x,tp,S,T,d,b,rfl,ht,hd,e,q⟩:=h;obtain⟨u,w',rfl,rx,rt⟩:=kN r;cases (show w'=Value.ref tp from rt);obtain⟨tts,rv,⟨ot,ht1,ht2,n,ht3⟩,_⟩:=I.tuple ht;obtain⟨t1,t2,rfl,r1,r2⟩:=kN rv;cases (show t1=Value.type S from r1);cases (show t2=Value.type T from r2);obtain⟨c,dd,da,sl⟩:=ot;cases ht2;cases ht3;have fin:∀tk,EP X pins σ Q (.bool b) {s with toks:=tk}:=λtk=>⟨.bl b,H,I.tok _,rfl,q⟩
 cases d with
 | none =>
  cases l_.mp hd;cases (show u=Value.none from rx);exact Vz XT I.dk True.intro ht1 e (λz=>nomatch z) fin
 | bool y =>
  cases kf.mp hd;cases (show u=Value.bool y from rx);exact Vz XU I.dk True.intro ht1 e (λz=>nomatch z) fin
 | int i =>
  cases cc.mp hd;obtain⟨t,q⟩:=(show ∃t,u=Value.int i t from rx);cases q;exact Vz uj I.dk True.intro ht1 e (λz=>nomatch z) fin
 | str y =>
  cases iU.mp hd;obtain⟨t,q⟩:=(show ∃t,u=Value.str y t from rx);cases q;exact Vz uk I.dk True.intro ht1 e (λz=>nomatch z) fin
 | tuple ds =>
  obtain⟨a,xs,e1,hq,_⟩:=bM.mp hd;subst e1;cases (show u=Value.ref a from rx);obtain⟨its,_,⟨o,h1,h2,_⟩,_⟩:=I.tuple hq;exact Vz XB I.dk ⟨o,h1,h2⟩ ht1 e (λz=>nomatch z) fin
 | list ds =>
  obtain⟨a,xs,e1,hq,_⟩:=cB.mp hd;subst e1;cases (show u=Value.ref a from rx);obtain⟨its,_,⟨o,n,h1,h2,_⟩,_⟩:=I.list hq;exact Vz XV I.dk ⟨o,h1,h2⟩ ht1 e (λz=>nomatch z) fin
 | dict kv =>
  obtain⟨a,kvs,e1,hq⟩:=zZ.mp hd;subst e1;cases (show u=Value.ref a from rx);obtain⟨_,_,vs,_,o,es,ep,h1,h2,_⟩:=(show di X.prog X.w H s.heap a (.dK kvs)from I.aG a _ hq);exact Vz XW I.dk ⟨o,h1,h2.1⟩ ht1 e (λz=>nomatch z) fin
theorem Tx{K:wb}(d:wD):u3 K (.type (kindOf d)) [.type "list",.type "tuple"]=some (nV d || hJ d):=by cases d<;>rfl
theorem C2{K:wb}{H:Hp}{Q:VK}{v:V}{tp:wf}{d:wD}(h:Is K H v d)(t:H tp=some (.tup [.ty "list",.ty "tuple"]))(q:Q (.bl (nV d || hJ d)) H):CM K [v,.ref tp] H Q :=
 ⟨v,tp,"list","tuple",d,_,rfl,.of t,h,Tx d,q⟩
section
variable{X:Cx}{tg:Expr}
def A0(K:wb)(tl:TE):TI:=λσ H R=>tl σ H λx H1=>(∃a,x=.ref a/\(∃xs,aK K H1 a xs)/\R (iY K a) H1)\/(∃a,x=.ref a/\(∃xs,aR K H1 a xs)/\R (iM K a) H1)
theorem RT{l:Expr}{tl:TE}(hl:PE X l tl):PI X tg l (A0 X.K tl):=by
 intro pins s σ H R I h;refine aI (hl pins s σ H _ I h) λv s1 ⟨x,H1,I1,r1,q1⟩=>?_
 rcases q1 with⟨a,e,⟨xs,hq⟩,q⟩ | ⟨a,e,⟨xs,hq⟩,q⟩
 ·subst e
  cases r1;obtain⟨its,rv,p,hz⟩:=I1.list hq;refine qq p.isList ?_;refine⟨s1.heap.objs.size,[s1.heap.objs.size],_,_,H1,rfl,I1.kept (t':=s1.toks) λb o e=>wn _ e,LJ a _,⟨_,wM _ rfl,rfl,rfl⟩,λb hb=>?_,q⟩;have e:b=s1.heap.objs.size:=by simpa using hb
  subst e;exact I1.ji (wo _) (I1.aG.fresh (wo _))
 ·subst e
  cases r1;obtain⟨its,rv,p,hz⟩:=I1.tuple hq;refine W8 (show s1.heap.IsTuple a its.toArray from p) ?_;refine⟨s1.heap.objs.size,[s1.heap.objs.size],_,_,H1,rfl,I1.kept (t':=s1.toks) λb o e=>wn _ e,L0 a _,⟨_,wM _ rfl,rfl,rfl⟩,λb hb=>?_,q⟩;have e:b=s1.heap.objs.size:=by simpa using hb
  subst e;exact I1.ji (wo _) (I1.aG.fresh (wo _))
end
section
variable{K:wb}{g:TG}{tt:TT}{te ta tb' tc:TE}{tb:TS}{D:cj}{src:List (Option Nat)}{σ : St}{H:Hp}{Q:VK}{r r':R2}
theorem U3(h:ta σ H λx H1=>Af K g tt te src σ x H1 Q\/zG K g tt te src σ x H1 Q):jq src (A0 K ta) g tt te σ H Q:=h
theorem zx3(h:te σ H λx H1=>Cc K g tb D σ x H1\/KU K g tb D σ x H1):lJ (A0 K te) g tb D σ H:=h
theorem YL(h:ta σ H λx H1=>tb' σ H1 λy H2=>r x y H2 λz H3=>∃k,z=.bl k/\(if k=true then tc σ H3 λw' H4=>r' y w' H4 Q else Q (.bl false) H3)):JH r r' ta tb' tc σ H Q:=h
theorem zBi{b:Bool}{P:Bool->Prop}(h:P b):∃k,V.bl b=.bl k/\P k:=⟨b,rfl,h⟩
end
def bD(a b:Rat)(xs:List Rat):wD:=.tuple [R a b,TN xs]
theorem S0(a b:Rat)(xs:List Rat):cS (bD a b xs)=true:=by rw[bD,cS,bY,bY,bY,Bs,sZ];rfl
theorem Yw{x y:Rat}(h:N x=N y):x=y:=by
 have h':PyData.tuple [.int x.num,.int (x.den:Int)]=PyData.tuple [.int y.num,.int (y.den:Int)]:=h
 injection h' with h1
 injection h1 with h2 h3
 injection h2 with h4
 injection h3 with h5 _
 injection h5 with h6
 exact uZ h4 (by omega)
theorem kB{K:wb}{H:Hp}{us:List V}{ds:List wD}{i:Nat}{x:V}(t:ak K H us ds)(h:us[i]? = some x):i<ds.length/\Is K H x (ds.getD i .none):=by
 have hl:=t.length
 have hi:i<ds.length:=by
  rcases wB i ds.length with z | z
  ·exact z
  ·rw[wL (by omega)]at h;cases h
 obtain⟨y,e,k⟩:=t.get (i:=i) (d:=ds.getD i .none) (by rw[wa,wc hi];rfl);rw[e]at h;cases h;exact⟨hi,k⟩
def Bm:List V->Hp->VK->Prop:=λxs H Q=>∃i j,xs=[.int i,.int j]/\Q (.int (if j<i then j else i)) H
theorem zva{X:Cx}(hc:X.calm=true):aO X (.builtin "min") Bm:=Uz hc
theorem zA7:vM "min"=some (.builtin "min"):=by decide +kernel
theorem zyD{i j:Int}{H:Hp}{Q:VK}(q:∀m:Int,m<=i->m<=j->(m=i\/m=j)->Q (.int m) H):Bm [.int i,.int j] H Q:=⟨i,j,rfl,by
 split
 ·exact q j (by omega) (by omega) (.inr rfl)
 ·exact q i (by omega) (by omega) (.inl rfl)⟩
def BB(K:wb)(a:wf):It :=
 ⟨λi H=>∃xs x,aK K H a xs/\xs[i]? = some x,λi H y H'=>∃t x,y=.ref t/\H t=none/\(∀xs,aK K H a xs->xs[i]? = some x)/\H'=upd H t (.tup [.int (i:Int),x]),λi H=>∃xs,aK K H a xs/\xs.length<=i⟩
theorem zr1{P:wH}{w:wI}{K:wb}{elts:List Expr}{k1}{tpos:Pos}(a e it:wf)(hne:e≠it):iR P w K (.Tuple elts k1 tpos) (BB K a) [e,it] e (λi h=>(∃old,IsEnum h e it (i:Int) old)/\h.IsListIter it a i) where
 mem:=by simp
 obj:=λi h st b hb=>by
  obtain⟨⟨old,he⟩,o,eo,c,d⟩:=st;rcases wK.mp hb with rfl | hb
  ·exact⟨_,he,λv z=>by cases (show Data.fields _=Data.cell v from z)⟩
  ·rw[vc.mp hb]
   exact⟨o,eo,λv z=>by rw[d]at z;cases z⟩
 keep:=λi h h' st k=>⟨let ⟨old,he⟩:=st.1;⟨old,k e (by simp) _ he⟩,st.2.at λo eo=>k it (by simp) o eo⟩
 item:=by
  intro X hP hw hK hc i pins s σ H E I hf st hg;subst hP hw hK;obtain⟨⟨old,he⟩,st⟩:=st;obtain⟨xs,x,hq,hx⟩:=hg;obtain⟨its,rv,p,hz⟩:=I.list hq;obtain⟨u,hu,ru⟩:=rv.get hx;have p':s.heap.IsList a its.toArray:=p.isList
  have hai:a≠it:=λz=>by
   subst z;obtain⟨o,e1,c1,_⟩:=st;obtain⟨o',e2,c2,_⟩:=p';rw[e1]at e2;cases e2;rw[c1]at c2;exact absurd c2 (by decide)
  have hae:e≠a:=λz=>by
   subst z;obtain⟨o',e2,c2,_⟩:=p';rw[he]at e2;cases e2;exact absurd (show Value.type "enumerate"=Value.type "list" from c2) (by decide)
  have hlt:i<its.toArray.size:=by
   rcases wB i its.length with z | z
   ·simpa using z
   ·rw[wL z]at hu;cases hu
  refine wpAny_pyNext_enum_itemD (Draws.list (A:=X.A.in1) (I.ok.hd hc) it a hai its.toArray) he ⟨st,p'⟩ hlt hne (by simp[hne,hae]) λv h1 tk hv ho hs1 hT hsz hk=>?_
  have hvu:v=u:=by
   have hv':its[i]? = some v:=by simpa using hv
   rw[hu]at hv';exact(wQ hv').symm
  subst hvu
  have I1:Inv X pins σ (upd H s.heap.objs.size (.tup [.int (i:Int),x])) {s with heap:=s.heap.push {cls:=.type "tuple",data:=.seq ([.int (i:Int) tk,v]:List we).toArray},toks:=tk+1} :=
   I.laid (λb o q=>wn _ q) (wo _) (show di X.prog X.w _ _ _ (.tup [.int (i:Int),x])from⟨lK (by simp),_,.cons ⟨_,rfl⟩ (.cons ru .nil),Qq _ _⟩)
  have lt1:∀b∈[e,it],b<s.heap.objs.size:=λb hb=>by
   rcases wK.mp hb with rfl | hb
   ·exact wA he
   ·rw[vc.mp hb]
    obtain⟨o,eo,_⟩:=st;exact wA eo
  have hf1:∀b∈[e,it],d8 X pins (upd H s.heap.objs.size (.tup [.int (i:Int),x])) b:=λb hb=>⟨by rw[dU (wO (lt1 b hb))];exact(hf b hb).1,(hf b hb).2⟩
  refine⟨_,rfl,wpAny_letOwnedTupleGo_enum ho λh2 he2 hs2=>?_⟩;refine⟨.ref s.heap.objs.size,_,Inv.rf (s:={s with heap:=s.heap.push {cls:=.type "tuple",data:=.seq ([.int (i:Int) tk,v]:List we).toArray},toks:=tk+1}) (ch:=[e,it]) I1 (λb o hb q=>?_) hf1,rfl,⟨_,x,rfl,I.aG.fresh (wo _),λys hy=>by rw[I.Az hy hq];exact hx,rfl⟩,⟨⟨_,by simpa using he2⟩,hs1.1.at λo eo=>(hs2.2 it (WA hne)).trans eo⟩,λb hb=>(hf1 b hb).1⟩;have hbe:b≠e:=λz=>hb (by simp[z])
  have hbi:b≠it:=λz=>hb (by simp[z])
  refine(hs2.2 b hbe).trans ?_
  by_cases hb2:b=s.heap.objs.size
  ·subst hb2
   rw[wM _ rfl]at q;cases q;exact hT
  ·exact hk b o hbe hbi (by rw[Q5 _ _ _ hb2]at q;exact q)
 done:=by
  intro X hP hw hK hc i pins s σ H E I hf st hg;subst hP hw hK;obtain⟨⟨old,he⟩,st⟩:=st;obtain⟨xs,hq,hx⟩:=hg;obtain⟨its,rv,p,hz⟩:=I.list hq;have p':s.heap.IsList a its.toArray:=p.isList;have hl:=rv.length;have hT:s.TypeIs (.ref e) "enumerate":=⟨_,he,rfl⟩;unfold VO;refine wg (VE (wpAny_callSpecial?_slot (name:=vP "__next__") hT qy (vZ qy hT xM ?_ (xq _))))
  show wt _ _ (field (.ref e) 2 >>= _) _ _ _;refine wg (vA he rfl (x:=.ref it) rfl ?_)
  refine wg (wpAny_nextOf_list_end (A:=X.A.in1) (I.ok.hd hc) st p' (by simp;omega) λh' y he' hx'=>?_);obtain⟨o,ho,hcl⟩:=hx';refine wg (Vm (T:="StopIteration") (b:=true) ⟨o,ho,hcl⟩ isSubtype_stop (wp ⟨rfl,?_⟩));obtain⟨f0,f1,f2,f3,f4,f5⟩:=hf it (by simp);exact I.turned (t':=s.toks) (λb o hb e=>he' b o hb e) f0 f1 f3 f4 f5
 self:=λ_ _ _ _ _ st h=>let ⟨_,he⟩:=st.1;wpAny_pyIter_enum he h
def Ms(K:wb)(ta:TA):TI:=λσ H R=>ta σ H λvs H1=>∃a,vs=[.ref a]/\(∃xs,aK K H1 a xs)/\R (BB K a) H1
theorem zww{X:Cx}{elts:List Expr}{k1}{tpos p pos:Pos}{l:Expr}{ta:TA}(hg:Gl X "enumerate")(hm:X.mg "enumerate"=none)(ha:PA X [l] ta)(hs:w5 [l] X.env=[(false,eval l X.env)]:=by rfl) :
  PI X (.Tuple elts k1 tpos) (.Call (.Name "enumerate" p) [l] [] pos) (Ms X.K ta):=by
 intro pins s σ H R I h;refine Call_ (gf I hg hm LI (vx (aI (ha pos pins s σ H _ I h) λus s1 ⟨vs,H1,I1,r1,q1⟩=>?_) hs rfl));obtain⟨a,rfl,⟨xs,hq⟩,q⟩:=q1;obtain⟨u,rfl,ru⟩:=gq r1;cases ru;obtain⟨its,rv,p,hz⟩:=I1.list hq;refine call_enumerate_list p.isList λh' he hit _ kp=>?_
 refine wpAny_pyIter_enum he ?_;refine⟨s1.heap.objs.size+1,[s1.heap.objs.size+1,s1.heap.objs.size],_,_,H1,rfl,I1.kept (t':=s1.toks) kp,zr1 a (s1.heap.objs.size+1) s1.heap.objs.size (uo _),⟨⟨_,he⟩,hit⟩,λb hb=>?_,q⟩
 have hb':s1.heap.objs.size<=b:=by
  rcases wK.mp hb with rfl | hb
  ·omega
  ·rw[vc.mp hb];exact wo _
 exact I1.ji hb' (I1.aG.fresh hb')
def LP(K:wb)(g:TG)(tt:TT)(te:TE)(src:List (Option Nat))(σ : St)(vs:List V)(H1:Hp)(Q:VK):Prop:=∃a,vs=[.ref a]/\(∃xs,aK K H1 a xs) /\
 ∀D,H1 D=none->ju g tt te (BB K a) D (du src σ) (upd H1 D (.lst [])) (λH'=>Q (.ref D) H')
section
variable{K:wb}{ta:TA}{g:TG}{tb:TS}{tt c:TT}{te:TE}{D:cj}{σ : St}{H:Hp}{Q:VK}{a:wf}{xs:List V}{src:List (Option Nat)}{o0 o0':Option V}{tl:St}
theorem zuz(h:ta σ H λvs H1=>LP K g tt te src σ vs H1 Q):jq src (Ms K ta) g tt te σ H Q:=h
theorem zwq(hx:aK K H a xs)(hsrc:du src σ = o0::o0'::tl)(Rel:Nat->V->Hp->Prop)(hk:∀i v H1 H2,bG H1 H2->Rel i v H1->Rel i v H2)
  (hs:∀D i x zs o1 o2 H1 c,xs[i]? = some x->fR H tl Rel D i zs (o1::o2::tl) H1->H1 c=some (.tup [.int (i:Int),x])->gM (fR H tl Rel) g tt te D i (.ref c) (o1::o2::tl) H1)
  (hd:∀D zs H',H D=none->ah H H'->H' D=some (.lst zs)->zs.length=xs.length->(∀j y,zs[j]? = some y->Rel j y H')->Q (.ref D) H'):LP K g tt te src σ [.ref a] H Q:=by
 refine⟨a,rfl,⟨xs,hx⟩,λD hD=>⟨λi m σ' H'=>i+m=xs.length /\ ∃zs,fR H tl Rel D i zs σ' H',⟨xs.length,by omega,[],⟨o0,o0',hsrc⟩,hD,ah.upd hD,cE,rfl,λj y z=>by simp at z⟩,?_⟩⟩;rintro i m σ' H' ⟨him,zs,inv⟩;have hq1:=inv.2.2.1.seq hx
 by_cases hm:m=0
 ·have e:i=xs.length:=by omega
  subst e;obtain⟨_,n,s,e,hl,r⟩:=inv;exact .inl ⟨⟨xs,hq1,wo _⟩,hd D zs H' n s e hl r⟩
 ·have hi:i<xs.length:=by omega
  refine .inr ⟨⟨xs,xs[i],hq1,by simp[hi]⟩,λσ2 H2=>∃zs,fR H tl Rel D (i+1) zs σ2 H2,λσ2 H2 h=>⟨m-1,by omega,by omega,h⟩,?_⟩;rintro v H2 ⟨c,x,rfl,hn,hx',rfl⟩;obtain⟨⟨o1,o2,rfl⟩,n,s,e,hl,r⟩:=inv;have su:=ah.upd (o:=.tup [.int (i:Int),x]) hn;exact hs D i x zs o1 o2 _ c (hx' xs hq1) ⟨⟨o1,o2,rfl⟩,n,s.trans su,su _ _ e,hl,λj y hy=>hk _ _ _ _ su.keep (r j y hy)⟩ cE
def Pr(Pv:Nat->St->Hp->Prop)(m:Nat)(tb:TS)(D:cj)(σ':St)(H1:Hp):Prop :=
 ∃M:St->Hp->Prop,(∀σ2 H2,M σ2 H2->∃m',m'<m/\Pv m' σ2 H2)/\tb {D with nx:=M,ct:=M,bk:=D.nx} σ' H1
theorem sy(Pv:Nat->St->Hp->Prop)(m0:Nat)(h0:Pv m0 σ H)(hs:∀m σ' H',Pv m σ' H'->c σ' H' λb H1=>if b=true then Pr Pv m tb D σ' H1 else D.nx σ' H1):BP c tb D σ H:=⟨Pv,⟨m0,h0⟩,hs⟩
theorem yM{Pv:Nat->St->Hp->Prop}{m:Nat}{σ':St}{H1:Hp}(h:tb {D with nx:=λσ2 H2=>∃m',m'<m/\Pv m' σ2 H2,ct:=λσ2 H2=>∃m',m'<m/\Pv m' σ2 H2,bk:=D.nx} σ' H1):Pr Pv m tb D σ' H1:=⟨_,λ_ _ q=>q,h⟩
def sV(K:wb)(x:V)(H:Hp)(Q:Bool->Hp->Prop):Prop:=∃k,C5 K x H k/\Q k H
def Ly(K:wb)(te:TE):TT:=λσ H Q=>te σ H λx H'=>sV K x H' Q
theorem Cj{X:Cx}{e:Expr}{t:TE}(h:PE X e t)(he:∀whole,isTrue e X.env whole=(do let v <- whole;standAt e.pos;holding [v] (truthy v)):=by intro _;rfl):PT X e (Ly X.K t):=ZR h he
theorem zA4{QB:Bool->Hp->Prop}(h:te σ H λx H'=>sV K x H' QB):Ly K te σ H QB:=h
theorem Yt{QB:Bool->Hp->Prop}{v:V}{ds:List wD}(h:Is K H v (.tuple ds))(q:QB (!ds.isEmpty) H):sV K v H QB:=by
 obtain⟨p,us,rfl,hs,t⟩:=bM.mp h;have hl:=t.length;refine⟨_,.inr (.inl ⟨us,hs,rfl⟩),?_⟩
 have e:us.isEmpty=ds.isEmpty:=by
  cases us<;>cases ds<;>simp_all
 rw[e];exact q
theorem Rh{QB:Bool->Hp->Prop}{v:V}{ds:List wD}(h:Is K H v (.list ds))(q:QB (!ds.isEmpty) H):sV K v H QB:=by
 obtain⟨p,us,rfl,hs,t⟩:=cB.mp h;have hl:=t.length;refine⟨_,.inl ⟨us,hs,rfl⟩,?_⟩
 have e:us.isEmpty=ds.isEmpty:=by
  cases us<;>cases ds<;>simp_all
 rw[e];exact q
end
theorem PX:∀(ys:List V)(us:List we),ys.length=us.length->(∀(i:Nat) y u,ys[i]? = some y->us[i]? = some u->aW y u)->aM ys us
 | [],[],_,_=>.nil
 | [],_::_,h,_=>by simp at h
 | _::_,[],h,_=>by simp at h
 | y::ys,u::us,h,r=>.cons (r 0 y u rfl rfl) (PX ys us (by simpa using h) λi y u h1 h2=>r (i+1) y u h1 h2)
def vz(l:List Nat):List V:=l.map λ(w:Nat)=>V.int (w:Int)
theorem jo(l:List Nat):(vz l).length=l.length:=wm ..
def EL(vs:List V)(H1:Hp)(Q:VK):Prop:=∃j:Int,vs=[.int j]/\0<=j/\j<=1000 /\ ∀l,H1 l=none->Q (.ref l) (upd H1 l (.lst (vz (wq j.toNat))))
def OM(ta:TA):TE:=λσ H Q=>ta σ H λvs H1=>EL vs H1 Q
theorem zpG{X:Cx}{a:Expr}{ta:TA}{p p2 pos pos2:Pos}(hc:X.calm=true)(hg:Gl X "list")(hm:X.mg "list"=none)(hg2:Gl X "range")(hm2:X.mg "range"=none)(ha:PA X [a] ta)(hs:w5 [a] X.env=[(false,eval a X.env)]:=by rfl)
  (hs2:w5 [Expr.Call (.Name "range" p2) [a] [] pos2] X.env=[(false,eval (.Call (.Name "range" p2) [a] [] pos2) X.env)]:=by rfl):PE X (.Call (.Name "list" p) [.Call (.Name "range" p2) [a] [] pos2] [] pos) (OM ta):=by
 intro pins s σ H Q I h;refine Call_ (gf I hg hm mG ?_);refine vx ?_ hs2 rfl;rw[hs2]
 show wt _ _ (spliced ((false,eval _ X.env)::Vh pos [])) _ _ s
 refine QP ?_;refine Call_ (gf I hg2 hm2 boot_range (vx (aI (ha pos2 pins s σ H _ I h) λus s1 ⟨vs,H1,I1,r1,q1⟩=>?_) hs rfl));obtain⟨j,e,j0,j1,q⟩:=q1;subst e;obtain⟨u,rfl,ru⟩:=gq r1;obtain⟨t,rfl⟩:=ru;refine call_range_1 ?_;refine Q3 ?_;have I2:Inv X pins σ H1 {s1 with heap:=s1.heap.push {cls:=.type "range",data:=.fields #[.int 0 s1.toks,.int j t,.int 1 (s1.toks+1)]},toks:=s1.toks+1+1}:=I1.kept λb o e=>wn _ e
 refine call_list_range (n:=j.toNat) (I1.ok.hd hc) (Us ..) (small_one (by omega) (by omega) (by omega) (by omega)) (by rw[rangeSize_one];split<;>omega) (by omega) λh' tk acc c hk hD hI=>?_
 refine⟨.ref _,_,I2.laid (t':=tk) hk (wo _) ?_,rfl,q _ (I2.aG.fresh (wo _))⟩;refine⟨lK (by rw[jo,vk];omega),acc.toList,c,PX _ _ (by rw[jo,vk,wJ,hI.1]) λi y u hy hu=>?_,by simpa using hD⟩;have hu':acc[i]? = some u:=by simpa using hu
 obtain⟨t',e'⟩:=hI.2 i u hu'
 have hi:i<j.toNat:=by
  have:=(WV.mp hu').1;rw[hI.1]at this;exact this
 have hy':y=V.int (i:Int):=by
  unfold vz at hy;rw[wx,vQ hi]at hy;exact(wQ hy).symm
 subst hy';exact⟨t',by rw[e'];congr 1;omega⟩
theorem zoK{ta:TA}{σ : St}{H:Hp}{Q:VK}(h:ta σ H λvs H1=>EL vs H1 Q):OM ta σ H Q:=h
theorem Tc{n:Nat}{H:Hp}{Q:VK}(hn:n<=1000)(q:∀l H',H l=none->ah H H'->H' l=some (.lst (vz (wq n)))->Q (.ref l) H'):EL [V.int (n:Int)] H Q :=
 ⟨_,rfl,by omega,by omega,λl hl=>q l _ hl (ah.upd hl) (by rw[wP];exact cE)⟩
theorem Og(w:Nat)(l:List Nat):yb (.int (w:Int)) (vz l)=decide (w∈l):=by
 unfold yb vz
 induction l with
 | nil=>rfl
 | cons x l ih =>
  rw[w9,QX,ih]
  show((x:Int) == (w:Int) || _)=_
  by_cases h:w=x
  ·subst h;simp
  ·have h':¬ (x:Int)=(w:Int):=λz=>h (by omega)
   simp[h,h']
theorem IZ(l:List Nat):(vz l).all jt=true:=by
 unfold vz;rw[WI];intro y hy;obtain⟨w,_,rfl⟩:=wW.mp hy
 rfl
section
variable{K:wb}{H H':Hp}{Q:VK}{v:V}{p:wf}{l:List Nat}{w:Nat}
theorem zsH(h:aR K H p (vz l))(q:Q (.bl (!decide (w∈l))) H):j9 K true (.int (w:Int)) (.ref p) H Q:=⟨p,vz l,rfl,.inr h,rfl,IZ l,by rw[Og];exact q⟩
theorem ZZ(h:aK K H p (vz l))(q:Q (.bl (decide (w∈l))) H):j9 K false (.int (w:Int)) (.ref p) H Q:=⟨p,vz l,rfl,.inl h,rfl,IZ l,by rw[Og];exact q⟩
def TW(l:List Nat):wD:=TZ (l.map λ(w:Nat)=>(w:Int))
theorem CK:Is K H v (TW l) ↔ ∃a,v=.ref a/\aR K H a (vz l):=by
 unfold TW vz;rw[nZ,V4];exact Iff.rfl
theorem CA(l:List Nat):cS (TW l)=true:=U0 _
def kH(ws:List (List Nat)):wD:=.tuple (ws.map TW)
theorem tN:∀ws:List (List Nat),bY (ws.map TW)=true
 | []=>rfl
 | w::ws=>by rw[w9,bY,CA,tN ws];rfl
theorem zyM(ws:List (List Nat)):cS (kH ws)=true:=by rw[kH,cS];exact tN ws
theorem BZ{i:Nat}{x:V}(h:(vz l)[i]? = some x):∃hi:i<l.length,x=.int ((l[i]:Nat):Int):=by
 have hi:i<l.length:=by
  rcases wB i l.length with z | z
  ·exact z
  ·rw[wL (by rw[jo];exact z)]at h;cases h
 refine⟨hi,?_⟩;unfold vz at h;rw[wx,wc hi]at h;exact(wQ h).symm
def GD(a b:Rat)(xs:List Rat):wD:=.tuple [N (1-bV xs),kH (cf a b xs),bD a b (cX a b xs)]
def ml(h:Rat)(ws:List (List Nat))(xs:List Rat):wD:=.tuple [N h,kH ws,TN xs]
theorem KW(h:Rat)(ws:List (List Nat))(xs:List Rat):cS (ml h ws xs)=true:=by rw[ml,cS,bY,bY,bY,bY,j8,zyM,sZ];rfl
def pk(a b:Rat)(xs:List Rat)(k:Nat):wD:=ml (aP a b xs (k+1)) (cf a b (aj a b xs k)) (aj a b xs (k+1))
def fW(a b:Rat)(xs:List Rat)(n:Nat):List wD:=(wq n).map (pk a b xs)
theorem pM{α : Type}(f : α -> wD)(hf:∀x,cS (f x)=true):∀l:List α,bY (l.map f)=true
 | []=>rfl
 | x::l=>by rw[w9,bY,hf,pM f hf l];rfl
theorem ak.snoc{vs:List V}{ds:List wD}{d:wD}(h:ak K H vs ds)(k:Is K H v d):ak K H (vs++[v]) (ds++[d]):=h.append (.cons k .nil)
theorem ox{l:List Nat}{i:Nat}(h:i<l.length):l.take (i+1)=l.take i++[l[i]]:=by
 rw[Qj,wc h];rfl
theorem zzb{ds:List wD}{d:wD}{j:Nat}(h:Is K H v (.list ds))(e:ds[j]? = some d)(q:∀x,Is K H x d->Q x H):cQ K v (.int (j:Int)) H Q:=by
 obtain⟨a,xs,rfl,h,t⟩:=cB.mp h;obtain⟨x,e1,hx⟩:=t.get e;exact gY h (j5 e1) (q x hx)
theorem Bu(h:Is K H v (TW l))(q:Q (.int (l.length:Int)) H):cN K [v] H Q:=Bt h (by rw[wm];exact q)
end
theorem AS(a b:Rat)(xs:List Rat)(n:Nat):(fW a b xs n).length=n:=by simp[fW]
theorem Kr{a b:Rat}{xs:List Rat}{n k:Nat}(h:k<n):(fW a b xs n)[k]? = some (pk a b xs k):=by
 unfold fW;rw[wx,vQ h];rfl
theorem pS(a b:Rat)(xs:List Rat)(n:Nat):fW a b xs (n+1)=fW a b xs n++[pk a b xs n]:=by
 unfold fW;rw[Qu,vE];rfl
theorem zpU(a b:Rat)(xs:List Rat)(n:Nat):bY (fW a b xs n)=true:=pM _ (λk=>KW _ _ _) _
theorem Zf{ps:List Rat}{l:List Nat}{w:Nat}(h:¬ ps.getD w 0<1):aF ps (l++[w])=aF ps l++[w]:=by
 unfold aF;rw[W5,WY,decide_eq_false h];rfl
theorem Yr{ps:List Rat}{l:List Nat}{w:Nat}(h:ps.getD w 0<1):aF ps (l++[w])=aF ps l:=by
 unfold aF;rw[W5,WY,decide_eq_true h];exact We _
theorem zvd{wave l:List Nat}{w:Nat}(h:¬ w∈wave):bK (l++[w]) wave=bK l wave++[w]:=by
 unfold bK;rw[W5];simp[WY,h]
theorem Z3{wave l:List Nat}{w:Nat}(h:w∈wave):bK (l++[w]) wave=bK l wave:=by
 unfold bK;rw[W5];simp[WY,h]
theorem B0(l:List Nat)(w:Nat):vz (l++[w])=vz l++[V.int (w:Int)]:=by unfold vz;rw[vE];rfl
theorem ZJ{xs:List Rat}{j:Nat}(h:j<xs.length):(bA xs).getD j 0=xs.getD j 0+(1-bV xs):=by
 unfold bA;rw[wa,wx,wc h,wa,wc h];rfl
theorem Q_:∀ds:List wD,(∀d∈ds,vb d d=true)->WW ds ds=true
 | [],_=>by simp[WW]
 | d::ds,h=>by rw[WW,h d (wC ..),Q_ ds λe he=>h e (wy _ he)];rfl
theorem tJ{ds:List wD}(h:∀d∈ds,vb d d=true):vb (.tuple ds) (.tuple ds)=true:=by rw[vb];exact Q_ ds h
theorem mI(x:Rat):vb (N x) (N x)=true:=by rw[nT];exact decide_eq_true rfl
theorem Om(xs:List Rat):vb (TN xs) (TN xs)=true:=by rw[Rc];exact decide_eq_true rfl
theorem iu{P:wD->Prop}{a b:wD}(ha:P a)(hb:P b):∀d∈[a,b],P d:=λd hd=>by
 simp only[wK,qD,or_false]at hd;rcases hd with rfl | rfl
 ·exact ha
 ·exact hb
def Sh(n:Nat)(d:wD):Prop:=d.canLay0=true/\d.depth<=n
theorem AN{n:Nat} : ∀ds:List wD,(∀d∈ds,Sh n d)->Wp ds=true/\WO ds<=n
 | [],_=>by simp[Wp,WO]
 | d::ds,h=>by
  have h1:=h d (wC ..);have h2:=AN ds λe he=>h e (wy _ he)
  rw[Wp,WO,h1.1,h2.1];exact⟨rfl,by have:=h1.2;have:=h2.2;omega⟩
theorem lM{n:Nat}{ds:List wD}(h:∀d∈ds,Sh n d):Sh (n+1) (.tuple ds):=by
 have:=AN ds h;unfold Sh;rw[Wc,V5];exact⟨this.1,by have:=this.2;omega⟩
theorem Pw{n:Nat}{ds:List wD}(h:∀d∈ds,Sh n d):Sh (n+1) (.list ds):=by
 have:=AN ds h;unfold Sh;rw[Wc,V5];exact⟨this.1,by have:=this.2;omega⟩
theorem Sh.mono{m n:Nat}{d:wD}(h:Sh m d)(e:m<=n):Sh n d:=⟨h.1,vV h.2 e⟩
theorem Sh.shaped{n:Nat}{d:wD}(h:Sh n d)(e:n<=64):vX d=true:=by
 unfold vX;rw[h.1,Q0];exact decide_eq_true (vV h.2 e)
theorem Rn(i:Int):Sh 1 (.int i):=⟨by simp[Wc],by simp[V5]⟩
theorem j7(x:Rat):Sh 2 (N x):=lM (iu (Rn _) (Rn _))
theorem NB(xs:List Rat):Sh 3 (TN xs):=lM λd hd=>by
 obtain⟨x,_,rfl⟩:=wW.mp hd;exact j7 x
theorem u_{K:wb}{H:Hp}{Q:VK}{v w:V}{d:wD}{n:Nat}(h:Is K H v d)(k:Is K H w d)(s:Sh n d)(e:n<=64)(r:vb d d=true)(q:Q (.bl false) H):fY K v w H Q:=Du h k (s.shaped e) (s.shaped e) (by rw[r];exact q)
section
variable{K:wb}{H H':Hp}{Q:VK}{D:cj}{σ : St}{td ty tv:TE}{a:wf}{kvs:List (Key × V)}{k:Int}{v:V}
end
theorem KR:∀{ts:List Int}{ys:List V},ys.length=ts.length->(∀(j:Nat)(y:V),ys[j]? = some y->y=V.int (ts.getD j 0))->ys=ts.map V.int
 | [],[],_,_=>rfl
 | [],_::_,h,_=>by simp at h
 | _::_,[],h,_=>by simp at h
 | t::ts,y::ys,h,e=>by
  rw[w9,e 0 y rfl,KR (ts:=ts) (ys:=ys) (by simpa using h) λj z hz=>e (j+1) z hz]
  rfl
theorem LW{n:Nat}(p:Nat->Bool)(i:Nat):(wq (i+1)).filter p=(wq i).filter p++(if p i then [i]else []):=by
 rw[Qu,W5];cases h:p i<;>simp[h]
def Mg(K:wb)(g:TG)(tt:TT)(te:TE)(src:List (Option Nat))(σ : St)(vs:List V)(H1:Hp)(Q:VK):Prop:=∃a,vs=[.ref a]/\(∃xs,aR K H1 a xs) /\
 ∀D,H1 D=none->ju g tt te (m_ K a) D (du src σ) (upd H1 D (.lst [])) (λH'=>Q (.ref D) H')
section
variable{K:wb}{ta:TA}{g:TG}{tt:TT}{te:TE}{σ : St}{H:Hp}{Q:VK}{a:wf}{xs:List V}{src:List (Option Nat)}
theorem zvq(h:ta σ H λvs H1=>Mg K g tt te src σ vs H1 Q):jq src (Dg K ta) g tt te σ H Q:=h
theorem zqt(hx:aR K H a xs)(Pv:wf->Nat->List V->St->Hp->Prop)(h0:∀D H',H D=none->ah H H'->H' D=some (.lst [])->Pv D 0 [] (du src σ) H')(hl:∀D i ys σ' H',Pv D i ys σ' H'->aR K H' a xs)
  (hs:∀D i x ys σ' H1 c H2,xs[i]? = some x->Pv D i ys σ' H1->H1 c=none->ah H1 H2->H2 c=some (.tup [.int (i:Int),x])->gM Pv g tt te D i (.ref c) σ' H2) (hd:∀D ys σ' H',Pv D xs.length ys σ' H'->Q (.ref D) H'):Mg K g tt te src σ [.ref a] H Q:=by
 refine⟨a,rfl,⟨xs,hx⟩,λD hD=>⟨λi m σ' H'=>i+m=xs.length /\ ∃ys,Pv D i ys σ' H',⟨xs.length,by omega,[],h0 D _ hD (ah.upd hD) cE⟩,?_⟩⟩;rintro i m σ' H' ⟨him,ys,inv⟩;have hq:=hl _ _ _ _ _ inv
 by_cases hm:m=0
 ·have e:i=xs.length:=by omega
  subst e;exact .inl ⟨⟨xs,hq,wo _⟩,hd _ _ _ _ inv⟩
 ·have hi:i<xs.length:=by omega
  refine .inr ⟨⟨xs,xs[i],hq,by simp[hi]⟩,λσ2 H2=>∃ys,Pv D (i+1) ys σ2 H2,λσ2 H2 h=>⟨m-1,by omega,by omega,h⟩,?_⟩;rintro v H2 ⟨c,x,rfl,hn,hx',rfl⟩;exact hs D i x ys σ' H' c _ (hx' xs hq) inv hn (ah.upd hn) cE
end
def BR(K:wb):R2:=λx y H Q=>∃d ds,Is K H x d/\Is K H y (.tuple ds)/\Sh 60 d/\Wc (.tuple ds)=true/\Q (.bl (ds.any λe=>vb e d)) H
theorem zBv{X:Cx}(hu:X.A.units+64<Wz):aN X (wU .In) (BR X.K):=by
 intro pins s σ H x y v u Q I rx ry h;obtain⟨d,ds,hd,he,sd,se,q⟩:=h;obtain⟨as,h1⟩:=I.reads d x v sd.1 hd rx;obtain⟨bs,h2⟩:=I.reads (.tuple ds) y u se he ry;have sd2:=sd.2;have hm:=ub (WO ds) d.depth;exact SeqAt.in_tuple_reads h2 h1 (by rw[Wc]at se;exact se) sd.1 (by omega) ⟨.bl _,H,I,rfl,q⟩
theorem zCM(xs:List Rat)(x:Rat):((xs.map N).any λe=>vb e (N x))=decide (x∈xs):=by
 induction xs with
 | nil=>rfl
 | cons y xs ih =>
  rw[w9,QX,ih,nT]
  by_cases h:x=y
  ·subst h;simp
  ·have h':¬ y=x:=λz=>h z.symm
   simp[h,h']
theorem ZP{K:wb}{H:Hp}{Q:VK}{v w:V}{xs:List Rat}{x:Rat}(h:Is K H v (N x))(k:Is K H w (TN xs))(q:Q (.bl (decide (x∈xs))) H):BR K v w H Q :=
 ⟨N x,xs.map N,h,k,(j7 x).mono (by decide),by rw[Wc];exact Es xs,by rw[zCM];exact q⟩
def jI(xs:List Rat)(v:Rat):wD:=.tuple [N v,TW (eY xs v)]
theorem MU(xs:List Rat)(v:Rat):cS (jI xs v)=true:=by rw[jI,cS,bY,bY,bY,j8,CA];rfl
theorem zu7(xs:List Rat)(l:List Rat):bY (l.map (jI xs))=true:=pM _ (MU xs) l
theorem zvE(ds:List wD):vb (.list ds) (.list [])=ds.isEmpty:=by cases ds<;>simp[vb,WW]
section
variable{K:wb}{H:Hp}{Q:VK}{v w:V}{ds:List wD}{n:Nat}{l b:wf}{xs zs:List V}
theorem zvC(h:Is K H v (.list ds))(k:Is K H w (.list []))(s:Sh n (.list ds))(e:n<=64)(q:Q (.bl (!ds.isEmpty)) H):fY K v w H Q :=
 Du h k (s.shaped e) ((Pw (n:=1) (ds:=[]) (by simp)).shaped (by decide)) (by rw[zvE];exact q)
theorem zw2(a b:Bool):vb (.bool a) (.bool b)=(a == b):=by rw[vb]
theorem MH(b:Bool):Sh 1 (.bool b):=⟨by simp[Wc],by simp[V5]⟩
theorem Mo{a b:Bool}(q:Q (.bl (a == b)) H):cv K (.bl a) (.bl b) H Q:=rQ (kf.mpr rfl) (kf.mpr rfl) ((MH a).shaped (by decide)) ((MH b).shaped (by decide)) (by rw[zw2];exact q)
theorem zA5{k:Int}(h:H l=some (.lst xs))(h0 : -1000<=k)(h1:k<=1000)(z:xs.length*k.toNat<=1000)(q:∀p H',H p=none->ah H H'->H' p=some (.lst (vf k.toNat xs).flatten)->Q (.ref p) H'):nX (.ref l) (.int k) H Q :=
 ⟨l,k,xs,rfl,rfl,h,by omega,by omega,by have:=iO z;omega,λp hp=>q p _ hp (ah.upd hp) cE⟩
theorem ak.Il{d:wD}(h:Is K H v d):∀n:Nat,ak K H (vf n v) (vf n d)
 | 0=>.nil
 | n+1=>.cons h (ak.Il h n)
end
theorem mF{K:wb}{H:Hp}{Q:VK}{v:V}{ds:List wD}{d:wD}(h:Is K H v (.list (ds++[d])))(q:∀x,Is K H x d->Q x H):cQ K v (.int (-1)) H Q:=by
 obtain⟨a,xs,rfl,hs,t⟩:=cB.mp h;have hl:=t.length;rw[wT,Wh]at hl;obtain⟨x,e1,hx⟩:=t.get (i:=ds.length) (d:=d) (by rw[vv (wo _),Vs];rfl);exact gY hs (ET (by rw[hl];exact e1)) (q x hx)
def Br(K:wb):List V->Hp->VK->Prop:=λxs H Q=>∃(p:wf)(bs:List Bool),xs=[.ref p]/\aK K H p (bs.map V.bl)/\Q (.bl (bs.any id)) H
theorem To:vM "any"=some (.builtin "any"):=by decide +kernel
theorem TJ(bs:List Bool):((wq bs.length).any λi=>(bs[i]?).getD true)=bs.any id:=by
 rw[vI,ut,ut]
 constructor
 ·rintro ⟨i,hi,h⟩
  rw[wG]at hi;rw[wc hi]at h;exact⟨bs[i],vJ hi,h⟩
 ·rintro ⟨b,hb,h⟩
  obtain⟨i,hi,rfl⟩:=wX hb;exact⟨i,wG.mpr hi,by rw[wc hi];exact h⟩
open PyProof.V PySem.Calls in
theorem Tg{X:Cx}(hc:X.calm=true):aO X (.builtin "any") (Br X.K):=by
 intro pins s σ H xs us Q I r h;obtain⟨p,bs,rfl,hq,q⟩:=h;obtain⟨u,rfl,rx⟩:=gq r;cases rx;obtain⟨its,r',pl,hz⟩:=I.list hq;have hi:its=bs.map Value.bool:=Nb r';have hl:s.heap.IsList p its.toArray:=pl.isList;have hlt:p<s.heap.objs.size:=by obtain⟨_,e,_⟩:=hl;exact wA e
 refine call_any_walk (qq hl ?_)
 refine⟨s.heap.objs.size,[s.heap.objs.size,p],[s.heap.objs.size],its.toArray.size,_,_,λi=>(bs[i]?).getD true,rfl,uM (A:=X.A.in1) (I.ok.hd hc) _ p (wO hlt) its.toArray,
  ⟨⟨_,wM _ rfl,rfl,rfl⟩,hl.push _⟩,λi v s' Q' E' hP hQ=>?_,λh' tk hk=>?_⟩
 ·have hP:its.toArray[i]? = some v:=hP
  rw[hi]at hP;simp only[xV,wx,Vn]at hP;obtain⟨b,e,rfl⟩:=hP;simp only[e,Qp]at hQ;exact Wq hQ
 ·have e:((wq its.toArray.size).any λi=>(bs[i]?).getD true)=bs.any id:=by
   rw[wN,hi,wm];exact TJ bs
  rw[e];exact⟨.bl (bs.any id),H,I.kept (t':=tk) (λb x e=>hk b x (λhm=>by rw[vc.mp hm]at e;exact Vc _ (wA e)) (wn _ e)),rfl,q⟩
theorem Y4{K:wb}{H:Hp}{Q:VK}{p:wf}{bs:List Bool}(h:aK K H p (bs.map V.bl))(q:Q (.bl (bs.any id)) H):Br K [.ref p] H Q:=⟨p,bs,rfl,h,q⟩
def BQ(K:wb):List V->Hp->VK->Prop:=λxs H Q=>∃(p:wf)(ns:List Int),xs=[.ref p]/\aK K H p (ns.map V.int)/\Q (.int ns.sum) H
section
open PyProof.V PySem.Calls PySem.W
variable{prog:wH}{w:wI}{A:wY}{E:we->wl->Prop}{s:wl}
theorem zyy{t:wf}{xs:Array (Int × Tok)}{Q:we->wl->Prop}(hh:A.handled=none)(ht:s.heap.IsList t (intItems xs))
  (h:∀h' tk t',(∀b o,s.heap.get? b=some o->h'.get? b=some o)->Q (.int (preSum (numAt xs) xs.size) t') {s with heap:=h',toks:=tk}) :
  wt (model prog w) A (call (.builtin "sum") [.ref t]) Q E s:=by
 obtain⟨o,ho,hc,n,hd⟩:=id ht;have hne:t≠s.heap.objs.size:=wO (wA ho);have hsz:(intItems xs).size=xs.size:=by simp[intItems]
 have W:=(uM (prog:=prog) (w:=w) (A:=A.in1) hh s.heap.objs.size t hne (intItems xs)).toS;rw[hsz]at W;refine call_sum_walkAnyS (qq ht ?_);refine⟨s.heap.objs.size,_,_,_,_,_,_,numAt xs,rfl,W,⟨⟨_,wM _ rfl,rfl,rfl⟩,ht.at λo e=>wn _ e⟩,λb hb=>?_,λi v hP=>intItems_at hP,λs' t' hm=>?_⟩
 ·rcases wK.mp hb with rfl | hb
  ·exact wA (wM _ rfl)
  ·obtain rfl:=vc.mp hb
   exact wA (wn _ ho)
 ·obtain⟨h',g',d',tk',os'⟩:=s'
  have e1:g'=s.gens:=hm.gens;have e2:d'=s.drawn:=hm.drawn;have e3:os'=s.os:=hm.os;subst e1 e2 e3;exact h h' tk' t' λb o e=>hm.heap b o (λhb=>absurd (wA e) ((vc.mp hb) ▸ Vc _)) (wn _ e)
theorem zsS{X:Cx}(hc:X.calm=true):aO X (.builtin "sum") (BQ X.K):=by
 intro pins s σ H xs us Q I r h;obtain⟨p,ns,rfl,hq,q⟩:=h;obtain⟨u,rfl,rx⟩:=gq r;cases rx;obtain⟨its,r',pl,hz⟩:=I.list hq;have hI:=yG r';have hT:s.heap.IsList p its.toArray:=pl.isList;obtain⟨zs,hx⟩:=hI.allInts.items;have hn:numsOf its.toArray.toList=ns:=by rw[show its.toArray.toList=its from rfl,hI.numsOf]
 rw[hx]at hT hn;rw[nums_intItems]at hn;refine zyy (I.ok.hd hc) hT λh' tk t' hk=>?_
 rw[preSum_eq,WR (by simp),hn];exact⟨.int ns.sum,H,I.kept (t':=tk) hk,⟨_,rfl⟩,q⟩
end
theorem zyu{K:wb}{H:Hp}{Q:VK}{p:wf}{ns:List Int}(h:aK K H p (ns.map V.int))(q:Q (.int ns.sum) H):BQ K [.ref p] H Q:=⟨p,ns,rfl,h,q⟩
abbrev IS(h:wF)(a:wf):wF:=h.push {cls:=.type "tuple_iterator",data:=.fields #[.ref a,.int 0 0]}
abbrev P7(h:wF)(a b:wf):wF:=(IS h a).push {cls:=.type "list_iterator",data:=.fields #[.ref b,.int 0 0]}
abbrev OX(h:wF)(a b:wf):wF:=(P7 h a b).push {cls:=.type "tuple",data:=.seq #[.ref h.objs.size,.ref (IS h a).objs.size]}
abbrev zM4(h:wF)(a b:wf):wF:=(OX h a b).push {cls:=.type "tuple",data:=.seq #[.none,.none]}
abbrev zM5(h:wF)(a b:wf):wF:=(zM4 h a b).push {cls:=.type "zip",data:=.fields #[.none,.bool false,.bool false,.ref (P7 h a b).objs.size,.ref (OX h a b).objs.size]}
section
variable{prog:wH}{w:wI}{A:wY}{E:we->wl->Prop}{s:wl}
end
theorem zvr{K:wb}{H:Hp}{Q:VK}{v:V}{ds:List wD}(h:Is K H v (.list ds)\/Is K H v (.tuple ds))(q:∀l H' ys,H l=none->ah H H'->H' l=some (.lst ys)->ak K H' ys ds->Q (.ref l) H'):kg K [v] H Q:=by
 rcases h with h | h
 ·exact zu4 h q
 ·exact zJ h q
def LU(K:wb)(G:we)(tb:(St->XK)->TS)(th:TS):TS:=λD σ H=>∃W:St->XK,tb W D σ H /\ ∀σ' C o H',W σ' C o H'->qz K C G=some true/\th D σ' H'
section
variable{X:Cx}{x:Str}{G:we}{b₀ : vd}{body suite:List vd}{np hpos pos:Pos}{tb:(St->XK)->TS}{th:TS}
theorem zzy(hs:X.stack=X.env::X.outer)(hf:X.env.frame=some X.env.locals)(hg:Gl X x)(hG:X.mg x=some G)
  (hb:∀(W:St->XK)(pn:List (wf × Obj))(E':we->wl->Prop),OE (eJ X.prog X.w) (X.at pn E') W->eX (X.at pn E') body (tb W))
  (hh:∀(pn:List (wf × Obj))(ex:wf)(oe:Obj),eX (X.rm pn ex oe) (b₀ :: suite) th) (hdb:(x == ("__debug__" : Str))=false:=by decide) :
  PS X (.Try body [.ExceptHandler (some (.Name x np)) none (b₀ :: suite) hpos] [] [] pos) (LU X.K G tb th):=by
 intro pins s σ H D I h;obtain⟨W,hB,hH⟩:=h;refine wpAny_Try_except ?_;have I':=I.SH λe s1=>∃σ1 H1 s0,Inv X pins σ1 H1 s0/\eJ X.prog X.w X.stack H1 s0 (W σ1) e s1
 have key:=hb W (X.pn++pins) (λe s1=>∃σ1 H1 s0,Inv X pins σ1 H1 s0/\eJ X.prog X.w X.stack H1 s0 (W σ1) e s1) (λpins1 σ1 H1 s0 e s1 I1 q=>⟨σ1,H1,s0,I1.nI,q⟩) [] s σ H D I' hB;refine Wy key (λf s1 hq=>?_) λe s1 he=>?_
 ·cases f with
  | next=>obtain⟨σ',H',J,q⟩:=hq;exact qN ⟨σ',H',J.nI,q⟩
  | brk=>obtain⟨σ',H',J,q⟩:=hq;exact⟨σ',H',J.nI,q⟩
  | cont=>obtain⟨σ',H',J,q⟩:=hq;exact⟨σ',H',J.nI,q⟩
  | ret u=>obtain⟨v,σ',H',J,r,q⟩:=hq;exact⟨v,σ',H',J.nI,r,q⟩
 obtain⟨σ1,H1,s0,I1,ex,C,H',B,rfl,os,bare,un,aG,F,ov,q⟩:=he;obtain⟨hm,hS⟩:=hH σ1 C none H' q;have hfs:∀b∈dy X.stack,H1 b=none /\ ∃o,s0.heap.get? b=some o /\ ∀vs,o.data≠.fields vs:=λb hb=>⟨I1.q_ b hb,(I1.stack.mem hb).2⟩
 have hfr:=I.ok.frames.trans (congrArg some hs)
 have hex:H' ex=none:=by
  obtain⟨_,_,_,_,_,_,_,_,_,_,_,_,_,be,_⟩:=F;cases z:H' ex with
  | none=>rfl
  | some o =>
   obtain⟨u,e1⟩:=ov.gZ ex o z;rw[be]at e1;cases e1
 have st1:=F.st;rw[hs]at F
 have exc:∀{h4:wF},eS B (X.env::X.outer) ex C .none h4->s1.heap.UpToSlots h4->∃oe,h4.get? ex=some oe/\DT C oe/\Inv (X.rm (X.pn++pins) ex oe) [] σ1 H' {s1 with heap:=h4}:=λ{h4} F4 sm=>by
  have J:Inv X pins σ1 H' {s1 with heap:=h4}:=I1.Ig (s':={s1 with heap:=h4}) (ch:=[]) os (ov.un un hfs F4.st sm) (ov.aG aG st1 F4.st) bare (λ_ z=>nomatch z);obtain⟨_,_,oe,vs,T,oT,ts,he,hc,hd,h1,h2,hdi,_⟩:=F4;refine⟨oe,he,⟨hc,⟨vs,hd,h2⟩,hdi⟩,J.Su he hex (λz=>?_) (λz=>?_) λv z=>?_⟩
  ·obtain⟨m,⟨o,es,ep,ho,hdd,_⟩,_⟩:=J.loc
   rw[<- z]at ho;have:(some oe:Option Obj)=some o:=he.symm.trans ho;cases this;rw[hd]at hdd;cases hdd
  ·obtain⟨_,o,ho,nr⟩:=J.eG.mem z
   have:(some oe:Option Obj)=some o:=he.symm.trans ho;cases this;exact nr vs hd
  ·rw[hd]at z;cases z
 refine F.note hfr hf λh2 F2 sm2=>F2.land λh3 F3 sm3=>?_
 obtain⟨oe3,g3,x3,K3⟩:=exc F3 (sm2.trans sm3);refine wpAny_handleBy_cons (codeAny_handlers_test (nU K3 hg hG ?_ hdb)) (by intro z;cases z);have LT:PySem.W.Looks (model X.prog X.w) h3 (typeOf (.ref ex)) C:=x3.cls ▸ (Uw g3).andThen .now;refine(PySem.W.exm_one (h:=h3) K3.dk LT hm).here ?_;refine codeAny_handlers_suite ?_;refine F3.land λh4 F4 sm4=>?_
 obtain⟨oe,g4,x4,K4⟩:=exc F4 ((sm2.trans sm3).trans sm4);refine Wy (hh _ ex oe [] _ _ H' _ K4 hS) (λf s6 h6=>?_) λ_ _ z=>z.elim
 cases f with
 | next=>obtain⟨σ',H6,J,q6⟩:=h6;exact⟨_,H6,J.rp I.ok,q6⟩
 | brk=>obtain⟨σ',H6,J,q6⟩:=h6;exact⟨_,H6,J.rp I.ok,q6⟩
 | cont=>obtain⟨σ',H6,J,q6⟩:=h6;exact⟨_,H6,J.rp I.ok,q6⟩
 | ret u=>obtain⟨v,σ',H6,J,r,q6⟩:=h6;exact⟨v,_,H6,J.rp I.ok,r,q6⟩
end
theorem Ux{K:wb}{σ : St}{H:Hp}{D:cj}{G:we}{tb:(St->XK)->TS}{th:TS}(W:St->XK)(h:tb W D σ H)(k:∀σ' C o H',W σ' C o H'->qz K C G=some true/\th D σ' H'):LU K G tb th D σ H:=⟨W,h,k⟩
theorem gp{K:wb}{H:Hp}{Q:VK}(s t:String)(r:Bool)(e:vb (.str (vP s)) (.str (vP t))=r)(q:Q (.bl r) H):cv K (.str (vP s)) (.str (vP t)) H Q :=
 rQ (d:=.str (vP s)) (e:=.str (vP t)) (iU.mpr rfl) (iU.mpr rfl) (Nl s) (Nl t) (by rw[e];exact q)
theorem Ng:vM "set"=some (.type "set"):=by decide +kernel
section
variable{K:wb}{H:Hp}{Q:VK}{p:wf}{ns:List Int}
end
abbrev Ot(h:wF)(a:wf):wF:=h.push {cls:=.type "list_iterator",data:=.fields #[.ref a,.int 0 0]}
abbrev OO(h:wF)(a b:wf):wF:=(Ot h a).push {cls:=.type "tuple_iterator",data:=.fields #[.ref b,.int 0 0]}
abbrev Md(h:wF)(a b:wf):wF:=(OO h a b).push {cls:=.type "tuple",data:=.seq #[.ref h.objs.size,.ref (Ot h a).objs.size]}
abbrev Yq(h:wF)(a b:wf):wF:=(Md h a b).push {cls:=.type "tuple",data:=.seq #[.none,.none]}
abbrev zN5(h:wF)(a b:wf):wF:=(Yq h a b).push {cls:=.type "zip",data:=.fields #[.none,.bool false,.bool false,.ref (OO h a b).objs.size,.ref (Md h a b).objs.size]}
section
variable{prog:wH}{w:wI}{A:wY}{E:we->wl->Prop}{s:wl}
end
end L2
namespace TB
open PySem
def jn(xs:Array Nat):Prop:=∀i j,i<j->j<xs.size->xs.getD i 0<xs.getD j 0
theorem UY{xs:Array Nat}{i:Nat}(h:i<xs.size)(d e:Nat):xs.getD i d=xs.getD i e:=by
 simp[uN,h]
theorem Ei(xs:Array Nat)(j:Nat)(R:jn xs):∀(fuel lo hi:Nat),hi<=xs.size->lo<=hi->hi-lo<=fuel->(∀k,k<lo->xs.getD k 0<j)->(∀k,hi<=k->k<xs.size->j<=xs.getD k 0) ->
  (Qk xs j fuel lo hi<=xs.size/\(∀k,k<Qk xs j fuel lo hi->xs.getD k 0<j)/\(∀k,Qk xs j fuel lo hi<=k->k<xs.size->j<=xs.getD k 0))
 | 0,lo,hi,h1,h2,h3,a,b=>by
  have:lo=hi:=by omega
  subst this;exact⟨h1,a,b⟩
 | fuel+1,lo,hi,h1,h2,h3,a,b=>by
  unfold Qk
  by_cases c:lo<hi
  ·rw[if_pos c]
   have m1:(lo+hi) / 2<hi:=by omega
   have m2:lo<=(lo+hi) / 2:=by omega
   dsimp only;rw[UY (wS m1 h1) j 0]
   by_cases d:xs.getD ((lo+hi) / 2) 0<j
   ·rw[if_pos d]
    refine Ei xs j R fuel _ hi h1 m1 (by omega) (λk hk=>?_) b;rcases wB k ((lo+hi) / 2)with q | q
    ·exact Xx (R k _ q (by omega)) d
    ·have:k=(lo+hi) / 2:=by omega
     rw[this];exact d
   ·rw[if_neg d]
    refine Ei xs j R fuel lo _ (by omega) m2 (by omega) a (λk hk hk'=>?_);rcases W6 hk with q | q
    ·rw[<- q];omega
    ·have:=R _ k q hk';omega
  ·rw[if_neg c]
   have:lo=hi:=by omega
   subst this;exact⟨h1,a,b⟩
theorem Lf{xs:Array Nat}(R:jn xs)(j:Nat):WB xs j<=xs.size/\(∀k,k<WB xs j->xs.getD k 0<j)/\(∀k,WB xs j<=k->k<xs.size->j<=xs.getD k 0) :=
 Ei xs j R xs.size 0 xs.size (wo _) (Ww _) (by omega) (λk h=>absurd h (WF k)) (λk h h'=>absurd h' (by omega))
theorem U9{xs:Array Nat}{i:Nat}(h:i<xs.size):xs[i]? = some (xs.getD i 0):=by simp[uN,h]
theorem JZ{t:Wo}(R:jn t.place)(D:t.dummies = #[])(j:Nat) :
  (∃i,i<t.place.size/\t.place.getD i 0=j/\t.slot j=.live i)\/((∀i,i<t.place.size->t.place.getD i 0≠j)/\t.slot j=.empty):=by
 obtain⟨h1,h2,h3⟩:=Lf R j;unfold SetTable.slot;dsimp only;have hd:XE t.dummies j=false:=by rw[D];rfl
 rw[hd];rcases wB (WB t.place j) t.place.size with q | q
 ·rw[U9 q]
  by_cases e:t.place.getD (WB t.place j) 0=j
  ·exact .inl ⟨_,q,e,by simp[e]⟩
  ·refine .inr ⟨λi hi he=>?_,by generalize t.place.getD (WB t.place j) 0=z at e;simp[e]⟩
   rcases wB i (WB t.place j)with a | a
   ·have:=h2 i a;omega
   ·rcases W6 a with b | b
    ·rw[<- b]at he;exact e he
    ·have:=R _ i b hi
     have:=h3 _ (wo _) q;omega
 ·have:t.place[WB t.place j]? = none:=Vp q
  rw[this];refine .inr ⟨λi hi he=>?_,by simp⟩;have:=h2 i (by omega);omega
def g(x:Nat):Nat:=x*5+1
def it(n x:Nat):Nat:=match n with | 0=>x | n+1=>g (it n x)
def s:Nat->Nat | 0=>0 | n+1=>5*s n+1
theorem Me(n:Nat):5^n=4*s n+1:=by
 induction n with
 | zero=>rfl
 | succ n ih=>rw[WP,ih];show _=4*(5*s n+1)+1;omega
theorem zCO(n x:Nat):it n x=5^n*x+s n:=by
 induction n with
 | zero=>show x=5^0*x+0;simp
 | succ n ih =>
  show g (it n x)=5^(n+1)*x+(5*s n+1)
  rw[ih,WP];unfold g;rw[WX,XY (5^n) 5 x];omega
theorem zAQ(m n x:Nat):it (m+n) x=it m (it n x):=by
 induction m with
 | zero=>rw[Nat.zero_add];rfl
 | succ m ih=>rw[Nat.succ_add];show g (it (m+n) x)=g (it m (it n x));rw[ih]
theorem zCv(m n:Nat):s (m+n)=5^m*s n+s m:=by
 induction m with
 | zero=>simp[s]
 | succ m ih =>
  rw[Nat.succ_add]
  show 5*s (m+n)+1=5^(m+1)*s n+(5*s m+1)
  rw[ih,WP,WX,XY (5^m) 5];omega
theorem zBV(k:Nat):∃o,s (2^k)=2^k*(2*o+1):=by
 induction k with
 | zero=>exact⟨0,rfl⟩
 | succ k ih =>
  obtain⟨o,ho⟩:=ih
  have e:s (2^(k+1))=2^(k+1)*((2*o+1)*(2*s (2^k)+1)):=by
   have:2^(k+1)=2^k+2^k:=by rw[WP];omega
   rw[this,zCv,Me];generalize hs:s (2^k)=S at *
   have h2:(2^k+2^k)*((2*o+1)*(2*S+1))=2*(2^k*(2*o+1))*(2*S+1):=by
    rw[<- Nat.two_mul,<- WX,WX 2]
   rw[h2,<- ho];generalize S*S=z at *;have:(4*S+1)*S=4*(S*S)+S:=by rw[X7,WX,X8]
   rw[this]
   have:2*S*(2*S+1)=4*(S*S)+2*S:=by
    rw[QN,Nat.mul_one,Nat.mul_mul_mul_comm]
   rw[this];omega
  refine⟨o*(2*s (2^k)+1)+s (2^k),?_⟩;rw[e]
  congr 1
  rw[X7,X8,WX];omega
theorem zB1(M c a:Nat):(4*(M*c)+1)*a+M*c=a+M*(c*(4*a+1)):=by
 rw[X7,X8,QN c,Nat.mul_one,QN M];have:4*(M*c)*a=M*(c*(4*a)):=by rw[qt 4,WX,WX]
 omega
theorem zB3(k:Nat):∀x y:Nat,∃n,n<2^k/\it n x % 2^k=y % 2^k:=by
 induction k with
 | zero=>intro x y;exact⟨0,by decide,by simp[Nat.mod_one]⟩
 | succ k ih =>
  intro x y;obtain⟨n,hn,e⟩:=ih x y;have hp:0<2^k:=Nat.pow_pos (by decide);have h2:2^(k+1)=2^k*2:=WP ..;obtain⟨o,ho⟩:=zBV k;generalize hM:2^k=M at *;rw[h2]
  by_cases c:it n x / M % 2=y / M % 2
  ·refine⟨n,by omega,?_⟩
   rw[xN,xN,e,c]
  ·refine⟨M+n,by omega,?_⟩
   rw[zAQ,zCO,Me,ho];generalize it n x=a at *;rw[zB1,xN,xN,Nat.add_mul_mod_self_left,e,Nat.add_mul_div_left _ _ hp]
   have:(2*o+1)*(4*a+1) % 2=1:=by
    rw[X9];have h1:(2*o+1) % 2=1:=by omega
    have h2:(4*a+1) % 2=1:=by omega
    rw[h1,h2]
   congr 2
   omega
open SetTable (Probe leap runEnd bits turns)
def gH(mask:Nat)(p:Probe):Probe :=
 if p.more > 0 then {p with j:=p.j+1,more:=p.more-1}else
 {p with j:=(leap mask p.i p.perturb).1,more:=runEnd mask (leap mask p.i p.perturb).1-(leap mask p.i p.perturb).1,i:=(leap mask p.i p.perturb).1,perturb:=(leap mask p.i p.perturb).2}
def way(mask:Nat)(p:Probe):Nat->Probe | 0=>p | n+1=>gH mask (way mask p n)
def gJ(mask i b:Nat):Probe:={j:=i,more:=runEnd mask i-i,i:=i,perturb:=b,dummy:=none}
def start(mask:Nat)(h:Int):Probe:=gJ mask (bits h % (mask+1)) (bits h)
def lp(mask i b:Nat):Nat->Nat × Nat | 0=>(i,b) | n+1=>leap mask (lp mask i b n).1 (lp mask i b n).2
theorem yF(mask:Nat)(p:Probe)(m:Nat):∀n,way mask p (m+n)=way mask (way mask p m) n
 | 0=>rfl
 | n+1=>by show gH mask (way mask p (m+n))=gH mask (way mask (way mask p m) n);rw[yF mask p m n]
theorem Mz(mask:Nat)(p:Probe):∀n,(way mask p n).dummy=p.dummy
 | 0=>rfl
 | n+1=>by
  show(gH mask (way mask p n)).dummy=p.dummy
  rw[<- Mz mask p n];unfold gH;split<;>rfl
theorem nR(mask i b:Nat):∀n,n<=runEnd mask i-i->way mask (gJ mask i b) n = {j:=i+n,more:=runEnd mask i-i-n,i:=i,perturb:=b,dummy:=none}
 | 0,_=>rfl
 | n+1,h=>by
  show gH mask (way mask (gJ mask i b) n)=_
  rw[nR mask i b n (by omega)];unfold gH;dsimp only;rw[if_pos (by omega)]
  congr 1
theorem Df(mask i b:Nat):way mask (gJ mask i b) (runEnd mask i-i+1)=gJ mask (leap mask i b).1 (leap mask i b).2:=by
 show gH mask (way mask (gJ mask i b) (runEnd mask i-i))=_
 rw[nR mask i b _ (wo _)];unfold gH;dsimp only;rw[if_neg (by omega)]
 rfl
theorem YO(mask i:Nat):runEnd mask i-i<=9:=by unfold runEnd;split<;>omega
theorem KP(mask i b:Nat):∀m,∃n,n<=10*m/\way mask (gJ mask i b) n=gJ mask (lp mask i b m).1 (lp mask i b m).2
 | 0=>⟨0,wo _,rfl⟩
 | m+1=>by
  obtain⟨n,hn,e⟩:=KP mask i b m;have:=YO mask (lp mask i b m).1;refine⟨n+(runEnd mask (lp mask i b m).1-(lp mask i b m).1+1),by omega,?_⟩;rw[yF,e,Df];rfl
theorem N0(mask i b:Nat):∀n,(lp mask i b n).2=b / 32^n
 | 0=>by simp[lp]
 | n+1=>by
  show(lp mask i b n).2 / 32=_
  rw[N0 mask i b n,WP,xO]
theorem Ry(mask i b c:Nat)(h:b / 32^c=0):∀n,(lp mask i b (c+1+n)).1=it n (lp mask i b (c+1)).1 % (mask+1)
 | 0=>by
  show(lp mask i b (c+1)).1=(lp mask i b (c+1)).1 % (mask+1)
  show _ % _=_ % _ % _
  rw[Nat.mod_mod]
 | n+1=>by
  show((lp mask i b (c+1+n)).1*5+1+(lp mask i b (c+1+n)).2 / 32) % (mask+1)=g (it n _) % _
  have:(lp mask i b (c+1+n)).2 / 32=0:=by
   rw[N0]
   have:b / 32^(c+1+n)=0:=by
    rw[VB,QM,<- xO,h,Nat.zero_div]
   rw[this]
  rw[this,Ry mask i b c h n];unfold g;rw[Xz,Nat.add_mod,X9,Nat.mod_mod,<- X9,<- Nat.add_mod]
theorem ID(h:Int):bits h<2^64:=by unfold bits;omega
theorem Lu{mask k:Nat}(hm:mask+1=2^k){i b:Nat}(hb:b<2^64){j:Nat}(hj:j<=mask):∃m,m<=mask+14/\(lp mask i b m).1=j:=by
 have h0:b / 32^13=0:=Nat.div_eq_of_lt (wS hb (by decide));obtain⟨n,hn,e⟩:=zB3 k (lp mask i b 14).1 j;refine⟨13+1+n,by omega,?_⟩;rw[Ry mask i b 13 h0,hm,e,xk (by omega)]
theorem zuU{mask k:Nat}(hm:mask+1=2^k){i b:Nat}(hb:b<2^64){j:Nat}(hj:j<=mask):∃n,n<10*turns mask/\(way mask (gJ mask i b) n).j=j:=by
 obtain⟨m,hm',e⟩:=Lu hm (i:=i) hb hj;obtain⟨n,hn,e'⟩:=KP mask i b m;refine⟨n,by unfold turns;omega,?_⟩;rw[e'];exact e
theorem A2{mask i:Nat}(h:i<=mask):i<=runEnd mask i/\runEnd mask i<=mask:=by unfold runEnd;split<;>omega
theorem Ln{mask:Nat}{p:Probe}(h:p.j+p.more<=mask):∀n,(way mask p n).j+(way mask p n).more<=mask
 | 0=>h
 | n+1=>by
  have ih:=Ln h n
  show(gH mask (way mask p n)).j+(gH mask (way mask p n)).more<=mask
  unfold gH
  split
  ·dsimp only;omega
  ·dsimp only
   have:(leap mask (way mask p n).i (way mask p n).perturb).1<=mask:=by
    unfold leap;dsimp only;exact VN (Qe _ (Qt _))
   have:=A2 this;omega
theorem zxC(mask:Nat)(h:Int)(n:Nat):(way mask (start mask h) n).j<=mask:=by
 have h1:bits h % (mask+1)<=mask:=VN (Qe _ (Qt _));have h2:=A2 h1;have:=Ln (mask:=mask) (p:=start mask h) (by unfold start gJ;dsimp only;omega) n;omega
def In(t:Wo)(j:Nat):Prop:=∃i,i<t.place.size/\t.place.getD i 0=j
structure Tb(t:Wo)(hs:List Int):Prop where
 iQ:jn t.place
 size:t.place.size=hs.length
 nz:t.dummies = #[]
 two:∃k,3<=k/\t.mask+1=2^k
 le:∀i,i<t.place.size->t.place.getD i 0<=t.mask
 room:t.place.size<=t.mask
 path:∀i,i<t.place.size->∃n,(way t.mask (start t.mask (hs.getD i 0)) n).j=t.place.getD i 0 /\ ∀m,m<n->In t (way t.mask (start t.mask (hs.getD i 0)) m).j
theorem zCF{P:Nat->Prop}{n:Nat}(h:P n):∃m,m<=n/\P m /\ ∀k,k<m->¬ P k:=by
 induction n using Nat.strongRecOn with
 | _ n ih =>
  by_cases c:∃k,k<n/\P k
  ·obtain⟨k,hk,hp⟩:=c
   obtain⟨m,h1,h2,h3⟩:=ih k hk hp;exact⟨m,by omega,h2,h3⟩
  ·exact⟨n,wo _,h,λk hk hp=>c ⟨k,hk,hp⟩⟩
theorem AY{xs:Array Nat}(R:jn xs){i j:Nat}(hi:i<xs.size)(hj:j<xs.size)(e:xs.getD i 0=xs.getD j 0):i=j:=by
 rcases VJ i j with q | q | q
 ·have:=R i j q hj;omega
 ·exact q
 ·have:=R j i q hi;omega
theorem KY{t:Wo}(R:jn t.place):∀j,(∀j',j'<=j->In t j')->∃i,i<t.place.size/\t.place.getD i 0=j/\j<=i
 | 0,h=>by obtain⟨i,hi,e⟩:=h 0 (wo _);exact⟨i,hi,e,Ww _⟩
 | j+1,h=>by
  obtain⟨i,hi,e,hle⟩:=KY R j λj' hj'=>h j' (by omega)
  obtain⟨i',hi',e'⟩:=h (j+1) (wo _);refine⟨i',hi',e',?_⟩;rcases VJ i i' with q | q | q
  ·omega
  ·subst q;omega
  ·have:=R i' i q hi;omega
theorem Tb.gap{t:Wo}{hs:List Int}(b:Tb t hs):∃j,j<=t.mask /\ ¬ In t j:=by
 refine VU λc=>?_
 obtain⟨i,hi,e,hle⟩:=KY b.iQ t.place.size λj' hj'=>VU λd=>c ⟨j',vV hj' b.room,d⟩
 omega
theorem Tb.free{t:Wo}{hs:List Int}(b:Tb t hs)(h:Int):∃n,n<10*turns t.mask /\ ¬ In t (way t.mask (start t.mask h) n).j /\ ∀m,m<n->In t (way t.mask (start t.mask h) m).j:=by
 obtain⟨j,hj,hn⟩:=b.gap;obtain⟨k,_,hk⟩:=b.two;obtain⟨n,hn',e⟩:=zuU hk (i:=bits h % (t.mask+1)) (ID h) hj;obtain⟨m,h1,h2,h3⟩:=zCF (P:=λn=>¬ In t (way t.mask (start t.mask h) n).j) (n:=n) (by show ¬ In t _;unfold start;rw[e];exact hn);exact⟨m,by omega,h2,λk hk=>VU (h3 k hk)⟩
theorem RG{t:Wo}(R:jn t.place)(D:t.dummies = #[])(hashAt:Nat->Int)(h:Int){p:Probe}(dm:p.dummy=none){n0:Nat}(hE:¬ In t (way t.mask p n0).j)(hF:∀m,m<n0->In t (way t.mask p m).j) :
  ∀fuel n,n<=n0->n0-n<fuel ->
   (∃m i,n<=m/\m<n0/\i<t.place.size/\t.place.getD i 0=(way t.mask p m).j/\hashAt i=h/\(∀k,n<=k->k<m->∀i',i'<t.place.size->t.place.getD i' 0=(way t.mask p k).j->hashAt i'≠h) /\
    Q6 t hashAt h fuel (way t.mask p n)=some (.candidate (way t.mask p m).j i (way t.mask p (m+1)))) \/
   ((∀k,n<=k->k<n0->∀i',i'<t.place.size->t.place.getD i' 0=(way t.mask p k).j->hashAt i'≠h) /\
    Q6 t hashAt h fuel (way t.mask p n)=some (.empty (way t.mask p n0).j none))
 | 0,n,_,hf=>absurd hf (WF _)
 | fuel+1,n,hn,hf=>by
  unfold Q6;rcases JZ R D (way t.mask p n).j with⟨i,hi,e,es⟩ | ⟨no,es⟩
  ·rw[es]
   dsimp only
   have hlt:n<n0:=by
    rcases wB n n0 with q | q
    ·exact q
    ·have:n=n0:=by omega
     subst this;exact absurd ⟨i,hi,e⟩ hE
   by_cases c:hashAt i=h
   ·rw[if_pos (by simpa using c)]
    exact .inl ⟨n,i,wo _,hlt,hi,e,c,λk h1 h2=>absurd h1 (by omega),rfl⟩
   ·rw[if_neg (by simpa using c)]
    have here:∀i',i'<t.place.size->t.place.getD i' 0=(way t.mask p n).j->hashAt i'≠h:=λi' hi' e'=>by
     rw[AY R hi' hi (e'.trans e.symm)];exact c
    rcases RG R D hashAt h dm hE hF fuel (n+1) hlt (by omega)with⟨m,i2,a1,a2,a3,a4,a5,a6,a7⟩ | ⟨a1,a2⟩
    ·refine .inl ⟨m,i2,by omega,a2,a3,a4,a5,λk h1 h2 i' hi' e'=>?_,a7⟩
     rcases W6 h1 with q | q
     ·subst q;exact here i' hi' e'
     ·exact a6 k q h2 i' hi' e'
    ·refine .inr ⟨λk h1 h2 i' hi' e'=>?_,a2⟩
     rcases W6 h1 with q | q
     ·subst q;exact here i' hi' e'
     ·exact a1 k q h2 i' hi' e'
  ·rw[es]
   dsimp only
   have:n=n0:=by
    rcases wB n n0 with q | q
    ·obtain⟨i,hi,e⟩:=hF n q
     exact absurd e (no i hi)
    ·omega
   subst this;refine .inr ⟨λk h1 h2=>absurd h1 (by omega),?_⟩;rw[Mz,dm]
def dW{α : Type}(l:List α)(p:Nat)(x : α):List α:=l.take p++x::l.drop p
theorem z8{α : Type}{l:List α}{p:Nat}(x : α)(hp:p<=l.length)(i:Nat):(dW l p x)[i]? = if i<p then l[i]? else if i=p then some x else l[i-1]?:=by
 unfold dW;have hl:(l.take p).length=p:=by rw[Wn];omega
 by_cases a:i<p
 ·rw[if_pos a,vR (by omega),xg a]
 ·rw[if_neg a,vv (by omega),hl]
  by_cases b:i=p
  ·rw[if_pos b,b,Vs];rfl
  ·rw[if_neg b]
   have:i-p=(i-1-p)+1:=by omega
   rw[this,xr,QR]
   congr 1;omega
theorem oJ{α : Type}{l:List α}{p:Nat}(x : α)(hp:p<=l.length):(dW l p x).length=l.length+1:=by
 unfold dW;rw[wT,Wn,vo,vU];omega
theorem pe{α : Type}(xs:Array α)(p:Nat)(x : α):(Wj xs p x).toList=dW xs.toList p x:=by
 unfold Wj dW;simp;exact WR (by simp)
theorem mH{xs:Array Nat}{p:Nat}(x:Nat)(hp:p<=xs.size)(i:Nat):(Wj xs p x).getD i 0=if i<p then xs.getD i 0 else if i=p then x else xs.getD (i-1) 0:=by
 rw[vy,<- Wu,pe,z8 x (by simpa using hp)]
 split
 ·rw[vy,<- Wu]
 ·split
  ·rfl
  ·rw[vy,<- Wu]
theorem O5{xs:Array Nat}{p:Nat}(x:Nat)(hp:p<=xs.size):(Wj xs p x).size=xs.size+1:=by
 rw[<- wJ,pe,oJ x (by simpa using hp),wJ]
theorem SM{l:List Int}{p:Nat}(x:Int)(hp:p<=l.length)(i:Nat):(dW l p x).getD i 0=if i<p then l.getD i 0 else if i=p then x else l.getD (i-1) 0:=by
 rw[wa,z8 x hp]
 split
 ·rw[wa]
 ·split
  ·rfl
  ·rw[wa]
theorem Tb.put{t:Wo}{hs:List Int}(b:Tb t hs){h:Int}{n:Nat}(hE:¬ In t (way t.mask (start t.mask h) n).j)(hF:∀m,m<n->In t (way t.mask (start t.mask h) m).j)(hr:t.place.size+1<=t.mask) :
  (t.put (way t.mask (start t.mask h) n).j).2<=hs.length/\Tb (t.put (way t.mask (start t.mask h) n).j).1 (dW hs (t.put (way t.mask (start t.mask h) n).j).2 h):=by
 generalize hj:(way t.mask (start t.mask h) n).j=j at *;have hjm:j<=t.mask:=by rw[<- hj];exact zxC t.mask h n
 obtain⟨q1,q2,q3⟩:=Lf b.iQ j;have hd:XE t.dummies j=false:=by rw[b.nz];rfl
 have e2:(t.put j).2=WB t.place j:=rfl;have ep:(t.put j).1.place=Wj t.place (WB t.place j) j:=rfl;have em:(t.put j).1.mask=t.mask:=rfl
 have edm:(t.put j).1.dummies = #[]:=by
  show(if XE t.dummies j=true then _ else t.dummies)=_
  rw[hd];exact b.nz
 rw[e2];generalize WB t.place j=p at *;have hp:p<=hs.length:=by rw[<- b.size];exact q1
 have inn:∀x,In t x->In (t.put j).1 x:=λx ⟨i,hi,e⟩=>by
  unfold In;rw[ep,O5 j q1];rcases wB i p with a | a
  ·exact⟨i,by omega,by rw[mH j q1,if_pos a];exact e⟩
  ·exact⟨i+1,by omega,by rw[mH j q1,if_neg (by omega),if_neg (by omega)];exact e⟩
 have ns:(t.put j).1.place.size=t.place.size+1:=by rw[ep,O5 j q1]
 have gt:∀k,p<=k->k<t.place.size->j<t.place.getD k 0:=λk h1 h2=>by
  have:=q3 k h1 h2;have:t.place.getD k 0≠j:=λe=>hE ⟨k,h2,e⟩
  omega
 refine⟨hp,⟨?_,?_,edm,em ▸ b.two,?_,?_,?_⟩⟩
 ·intro i k hik hk
  rw[ns]at hk;rw[ep,mH j q1,mH j q1]
  by_cases a:k<p
  ·rw[if_pos (by omega),if_pos a];exact b.iQ i k hik (by omega)
  ·rw[if_neg a]
   by_cases c:k=p
   ·rw[if_pos c,if_pos (by omega)];exact q2 i (by omega)
   ·rw[if_neg c]
    by_cases d:i<p
    ·rw[if_pos d];exact Xx (q2 i d) (gt (k-1) (by omega) (by omega))
    ·rw[if_neg d]
     by_cases f:i=p
     ·rw[if_pos f];exact gt (k-1) (by omega) (by omega)
     ·rw[if_neg f];exact b.iQ (i-1) (k-1) (by omega) (by omega)
 ·rw[ns,oJ h hp,b.size]
 ·intro i hi
  rw[ns]at hi;rw[ep,mH j q1,em]
  split
  ·exact b.le i (by omega)
  ·split
   ·exact hjm
   ·exact b.le (i-1) (by omega)
 ·rw[ns,em];exact hr
 ·intro i hi
  rw[ns]at hi;rw[ep,mH j q1,em,SM h hp]
  split
  ·obtain⟨m,h1,h2⟩:=b.path i (by omega)
   exact⟨m,h1,λk hk=>inn _ (h2 k hk)⟩
  ·split
   ·exact⟨n,hj,λk hk=>inn _ (hF k hk)⟩
   ·obtain⟨m,h1,h2⟩:=b.path (i-1) (by omega)
    exact⟨m,h1,λk hk=>inn _ (h2 k hk)⟩
structure Ow(mask:Nat)(ow:Array (Option Nat))(hs:List Int):Prop where
 size:ow.size=mask+1
 cnt:ow.toList.countP Ud=hs.length
 inj:∀j j' k,ow.getD j none=some k->ow.getD j' none=some k->j=j'
 lt:∀j k,ow.getD j none=some k->k<hs.length
 has:∀k,k<hs.length->∃j,ow.getD j none=some k
 path:∀k j,ow.getD j none=some k->∃n,(way mask (start mask (hs.getD k 0)) n).j=j /\ ∀m,m<n->ow.getD (way mask (start mask (hs.getD k 0)) m).j none≠none
theorem KD(mask i b:Nat):∀m,lp mask i b (m+1)=lp mask (leap mask i b).1 (leap mask i b).2 m
 | 0=>rfl
 | m+1=>by
  show leap mask (lp mask i b (m+1)).1 (lp mask i b (m+1)).2=leap mask (lp mask (leap mask i b).1 (leap mask i b).2 m).1 _
  rw[KD mask i b m]
theorem B4{ow:Array (Option Nat)}{j:Nat}(h:j<ow.size)(d e:Option Nat):ow.getD j d=ow.getD j e:=by simp[uN,h]
theorem OQ{mask:Nat}{ow:Array (Option Nat)}(hz:ow.size=mask+1):∀fuel i b,i<=mask->(∃m,m<fuel/\ow.getD (lp mask i b m).1 none=none/\(lp mask i b m).1<=mask) ->
  ∃j n,WT mask ow fuel i b=some j/\(way mask (gJ mask i b) n).j=j/\j<=mask/\ow.getD j none=none /\ ∀m,m<n->ow.getD (way mask (gJ mask i b) m).j none≠none
 | 0,i,b,_,⟨m,h,_⟩=>absurd h (WF _)
 | fuel+1,i,b,hi,⟨m,hm,hn,hle⟩=>by
  unfold WT;have hr:=A2 hi;cases hf:(wq (runEnd mask i+1-i)).find? λk=>(ow.getD (i+k) (some 0)).isNone with
  | some k =>
   rw[List.find?_range_eq_some]at hf;obtain⟨h1,h2,h3⟩:=hf;have h2:k<runEnd mask i+1-i:=by simpa using h2
   refine⟨i+k,k,rfl,?_,by omega,?_,λm hm=>?_⟩
   ·rw[nR mask i b k (by omega)]
   ·rw[B4 (by omega) none (some 0)];simpa using h1
   ·rw[nR mask i b m (by omega)]
    have:=h3 m hm
    show ow.getD (i+m) none≠none
    rw[B4 (by omega) none (some 0)];intro e;rw[e]at this;exact absurd this (by decide)
  | none =>
   rw[List.find?_range_eq_none]at hf
   have all:∀k,k<=runEnd mask i-i->ow.getD (i+k) none≠none:=λk hk e=>by
    have:=hf k (by omega);rw[B4 (by omega) (some 0) none,e]at this;exact absurd this (by decide)
   cases m with
   | zero=>exact absurd hn (all 0 (Ww _))
   | succ m =>
    rw[KD]at hn hle;have hi':(leap mask i b).1<=mask:=by unfold leap;dsimp only;exact VN (Qe _ (Qt _))
    obtain⟨j,n,e1,e2,e3,e4,e5⟩:=OQ hz fuel (leap mask i b).1 (leap mask i b).2 hi' ⟨m,by omega,hn,hle⟩;refine⟨j,runEnd mask i-i+1+n,e1,by rw[yF,Df];exact e2,e3,e4,λm' hm'=>?_⟩;rcases wB m' (runEnd mask i-i+1)with q | q
    ·rw[nR mask i b m' (by omega)];exact all m' (by omega)
    ·have:m'=runEnd mask i-i+1+(m'-(runEnd mask i-i+1)):=by omega
     rw[this,yF,Df];exact e5 _ (by omega)
theorem Ow.gap{mask:Nat}{ow:Array (Option Nat)}{hs:List Int}(o:Ow mask ow hs)(h:hs.length<=mask):∃j,j<=mask/\ow.getD j none=none:=by
 refine VU λc=>?_
 have:ow.toList.countP Ud=ow.toList.length:=List.countP_eq_length.mpr λa ha=>by
  obtain⟨j,hj,e⟩:=wX ha;rw[wJ,o.size]at hj;cases a with
  | some _=>rfl
  | none =>
   refine absurd ⟨j,by omega,?_⟩ c;rw[vy,<- Wu,wc (by rw[wJ,o.size];exact hj),e]
   rfl
 have h2:ow.toList.length=mask+1:=by rw[wJ,o.size]
 have:=o.cnt;omega
theorem zvy{ow:Array (Option Nat)}{j:Nat}(h:j<ow.size)(v:Option Nat)(x:Nat):(ow.setIfInBounds j v).getD x none=if x=j then v else ow.getD x none:=by
 rw[vy,Array.getElem?_setIfInBounds]
 by_cases e:j=x
 ·subst e;rw[if_pos rfl,if_pos rfl,if_pos h];rfl
 ·rw[if_neg e,if_neg (λq=>e q.symm),vy]
theorem Ow.step{mask k:Nat}(hm:mask+1=2^k){ow:Array (Option Nat)}{hs:List Int}(o:Ow mask ow hs)(hl:hs.length<=mask)(h:Int) :
  ∃j,WT mask ow (turns mask) (bits h % (mask+1)) (bits h)=some j/\Ow mask (ow.setIfInBounds j (some hs.length)) (hs++[h]):=by
 obtain⟨j0,hj0,e0⟩:=o.gap hl;obtain⟨m,hm',em⟩:=Lu hm (i:=bits h % (mask+1)) (ID h) hj0;obtain⟨j,n,e1,e2,e3,e4,e5⟩:=OQ o.size (turns mask) (bits h % (mask+1)) (bits h) (VN (Qe _ (Qt _))) ⟨m,by unfold turns;omega,by rw[em];exact e0,by rw[em];exact hj0⟩;have hjs:j<ow.size:=by rw[o.size];omega
 have G:=zvy hjs (some hs.length);have hlen:(hs++[h]).length=hs.length+1:=by simp
 have old:∀k,k<hs.length->(hs++[h]).getD k 0=hs.getD k 0:=λk hk=>by
  rw[wa,wa,vR hk]
 refine⟨j,e1,⟨by simpa using o.size,?_,?_,?_,?_,?_⟩⟩
 ·rw[Array.toList_setIfInBounds,List.countP_set (by simpa using hjs),o.cnt,hlen]
  have:ow.toList[j]'(by simpa using hjs)=none:=by
   rw[vy,vS hjs]at e4
   simpa using e4
  simp[this]
 ·intro x x' k h1 h2
  rw[G]at h1 h2
  split at h1
  ·split at h2
   ·rename_i a b;rw[a,b]
   ·have:=o.lt _ _ h2;have:=wQ h1;omega
  ·split at h2
   ·have:=o.lt _ _ h1;have:=wQ h2;omega
   ·exact o.inj _ _ _ h1 h2
 ·intro x k h1
  rw[G]at h1;rw[hlen]
  split at h1
  ·have:=wQ h1;omega
  ·have:=o.lt _ _ h1;omega
 ·intro k hk
  rw[hlen]at hk;rcases wB k hs.length with q | q
  ·obtain⟨x,hx⟩:=o.has k q
   refine⟨x,?_⟩;rw[G,if_neg]
   ·exact hx
   ·intro e;rw[e,e4]at hx;cases hx
  ·refine⟨j,?_⟩
   rw[G,if_pos rfl];congr 1;omega
 ·intro k x h1
  rw[G]at h1
  have keep:∀y,ow.getD y none≠none->(ow.setIfInBounds j (some hs.length)).getD y none≠none:=λy hy=>by
   rw[G];split
   ·exact λz=>nomatch z
   ·exact hy
  split at h1
  ·rename_i ex
   have ek:k=hs.length:=(wQ h1).symm;have:(hs++[h]).getD k 0=h:=by rw[ek,wa,vv (wo _),Vs];rfl
   rw[this,ex];exact⟨n,e2,λm hm=>keep _ (e5 m hm)⟩
  ·rw[old k (o.lt _ _ h1)]
   obtain⟨n',a1,a2⟩:=o.path k x h1;exact⟨n',a1,λm hm=>keep _ (a2 m hm)⟩
theorem Ow.nil(mask:Nat):Ow mask (uO (mask+1) none) []:=by
 have G:∀j,(uO (mask+1) (none:Option Nat)).getD j none=none:=λj=>by
  rw[vy,Array.getElem?_replicate];split<;>rfl
 refine⟨by simp,?_,λj j' k h=>?_,λj k h=>?_,λk h=>absurd h (WF _),λk j h=>?_⟩
 ·rw[Array.toList_replicate,List.countP_replicate];rfl
 all_goals(rw[G]at h;cases h)
theorem PM{mask k:Nat}(hm:mask+1=2^k):∀(l:List Int)(ow:Array (Option Nat))(hs:List Int),Ow mask ow hs->hs.length+l.length<=mask+1 ->
  ∃ow',(l.foldl (init:=some (ow,hs.length)) λ(acc:Option (Array (Option Nat) × Nat)) h=>do
   let (owner,k) <- acc
   let j <- WT mask owner (turns mask) (bits h % (mask+1)) (bits h)
   pure (owner.setIfInBounds j (some k),k+1))=some (ow',hs.length+l.length)/\Ow mask ow' (hs++l)
 | [],ow,hs,o,_=>⟨ow,rfl,by rw[We];exact o⟩
 | h::l,ow,hs,o,hl=>by
  rw[vo]at hl;obtain⟨j,e,o'⟩:=o.step hm (by omega) h;have hlen:(hs++[h]).length=hs.length+1:=by simp
  obtain⟨ow',e',o''⟩:=PM hm l _ _ o' (by omega);refine⟨ow',?_,by rw[VG]at o'';exact o''⟩;rw[uB]
  have:(do
   let (owner,k) <- some (ow,hs.length)
   let j <- WT mask owner (turns mask) (bits h % (mask+1)) (bits h)
   pure (owner.setIfInBounds j (some k),k+1):Option (Array (Option Nat) × Nat))=some (ow.setIfInBounds j (some hs.length),hs.length+1):=by
   show(WT mask ow (turns mask) (bits h % (mask+1)) (bits h) >>= _)=_
   rw[e];rfl
  rw[this,<- hlen,e',hlen,vo]
  congr 2;omega
theorem zBg{mask k:Nat}(hm:mask+1=2^k){hs:Array Int}(hl:hs.size<=mask+1):∃ow,XZ mask hs=some ow/\Ow mask ow hs.toList:=by
 obtain⟨ow,e,o⟩:=PM hm hs.toList _ [] (Ow.nil mask) (by simpa using hl);refine⟨ow,?_,by simpa using o⟩;unfold XZ;rw[<- Array.foldl_toList];have:=congrArg (Ut (·.1)) e;exact this
def live(mask:Nat)(ow:Array (Option Nat)):List (Nat × Nat):=(wq (mask+1)).filterMap λj=>(ow.getD j none).map (j,·)
theorem pU{mask:Nat}{ow:Array (Option Nat)}(hz:ow.size=mask+1){j k:Nat} : (j,k)∈live mask ow ↔ ow.getD j none=some k:=by
 unfold live;rw[qQ]
 constructor
 ·rintro ⟨x,_,e⟩
  cases h:ow.getD x none with
  | none=>rw[h]at e;cases e
  | some y=>rw[h]at e;cases e;exact h
 ·intro h
  refine⟨j,?_,by rw[h];rfl⟩;rw[wG];rcases wB j (mask+1)with q | q
  ·exact q
  ·rw[vy,Vp (by omega)]at h;cases h
theorem Pc{mask:Nat}{ow:Array (Option Nat)}{hs:List Int}(o:Ow mask ow hs):(live mask ow).Pairwise λx y=>x.1<y.1/\x.2≠y.2:=by
 unfold live;rw[List.pairwise_filterMap];refine Uq ?_ List.pairwise_lt_range;intro a b _ _ hab x hx y hy;cases h1:ow.getD a none with
 | none=>rw[h1]at hx;cases hx
 | some u =>
  cases h2:ow.getD b none with
  | none=>rw[h2]at hy;cases hy
  | some v =>
   rw[h1]at hx;rw[h2]at hy;cases hx;cases hy;refine⟨hab,λe=>?_⟩;have:u=v:=e;subst this;have:=o.inj _ _ _ h1 h2;omega
theorem zsr{mask:Nat}{ow:Array (Option Nat)}{hs:List Int}(o:Ow mask ow hs):((live mask ow).map (·.2)).Perm (wq hs.length):=by
 refine(List.perm_ext_iff_of_nodup ?_ WZ).mpr λk=>?_
 ·show QY _ _
  rw[qm];exact(Pc o).imp λh=>h.2
 ·rw[wG,wW]
  constructor
  ·rintro ⟨⟨j,k'⟩,h,rfl⟩
   exact o.lt _ _ ((pU o.size).mp h)
  ·intro h
   obtain⟨j,hj⟩:=o.has k h;exact⟨(j,k),(pU o.size).mpr hj,rfl⟩
theorem zyc{mask k:Nat}(k3:3<=k)(hm:mask+1=2^k)(finger moves:Nat)(led plain:Bool){hs:Array Int}(hl:hs.size<=mask) :
  ∃(t:Wo)(ord:Array Nat),Ue mask finger moves led plain hs=some (t,ord)/\t.mask=mask/\t.led=led/\t.plain=plain/\t.moves=moves/\ord.toList.Perm (wq hs.size)/\Tb t (ord.toList.map λk=>hs.toList.getD k 0):=by
 obtain⟨ow,e,o⟩:=zBg hm (hs:=hs) (by omega);have op:=zsr o;rw[wJ]at op;have ll:(live mask ow).length=hs.size:=by have:=op.length_eq;simpa using this
 refine⟨{mask,place:=((live mask ow).map (·.1)).toArray,dummies:=#[],finger,led,moves,plain},((live mask ow).map (·.2)).toArray,?_,rfl,rfl,rfl,rfl,by simpa using op,?_⟩
 ·unfold Ue
  rw[e];rfl
 ·have pz:(((live mask ow).map (·.1)).toArray).size=(live mask ow).length:=by simp
  have pg:∀i (h:i<(live mask ow).length),(((live mask ow).map (·.1)).toArray).getD i 0=((live mask ow)[i]).1:=λi h=>by
   rw[vy];simp[h]
  have inn:∀x,ow.getD x none≠none->In {mask,place:=((live mask ow).map (·.1)).toArray,dummies:=#[],finger,led,moves,plain} x:=λx hx=>by
   cases hy:ow.getD x none with
   | none=>exact absurd hy hx
   | some y =>
    obtain⟨i,hi,ei⟩:=wX ((pU o.size).mpr hy);exact⟨i,by show i<(((live mask ow).map (·.1)).toArray).size;rw[pz];exact hi,by show(((live mask ow).map (·.1)).toArray).getD i 0=x;rw[pg i hi,ei]⟩
  refine⟨?_,?_,rfl,⟨k,k3,hm⟩,?_,?_,?_⟩
  ·intro i j hij hj
   have hj:j<(live mask ow).length:=by rw[<- pz];exact hj
   show(((live mask ow).map (·.1)).toArray).getD i 0<(((live mask ow).map (·.1)).toArray).getD j 0
   rw[pg i (by omega),pg j hj];exact(Wa.mp (Pc o) i j (by omega) hj hij).1
  ·show(((live mask ow).map (·.1)).toArray).size=_
   rw[pz];simp
  ·intro i hi
   have hi:i<(live mask ow).length:=by rw[<- pz];exact hi
   show(((live mask ow).map (·.1)).toArray).getD i 0<=mask
   rw[pg i hi];have:=(pU o.size).mp (show(((live mask ow)[i]).1,((live mask ow)[i]).2)∈live mask ow from vJ hi);rcases wB ((live mask ow)[i]).1 (mask+1)with q | q
   ·omega
   ·rw[vy,Vp (by rw[o.size];omega)]at this;cases this
  ·show(((live mask ow).map (·.1)).toArray).size<=mask
   rw[pz,ll];exact hl
  ·intro i hi
   have hi:i<(live mask ow).length:=by rw[<- pz];exact hi
   have hm':=(pU o.size).mp (show(((live mask ow)[i]).1,((live mask ow)[i]).2)∈live mask ow from vJ hi)
   have eh:(((live mask ow).map (·.2)).toArray.toList.map λk=>hs.toList.getD k 0).getD i 0=hs.toList.getD ((live mask ow)[i]).2 0:=by
    rw[wa];simp[hi]
   obtain⟨n,a1,a2⟩:=o.path _ _ hm'
   show ∃n,(way mask (start mask (_)) n).j=(((live mask ow).map (·.1)).toArray).getD i 0/\_
   rw[pg i hi,eh];exact⟨n,a1,λm hm=>inn _ (a2 m hm)⟩
theorem Pz(n:Nat):∀(fuel size:Nat),∃m,Wi n fuel size=size*2^m/\(n<size*2^fuel->n<Wi n fuel size)/\(Wi n fuel size<=size\/Wi n fuel size<=2*n)
 | 0,size=>⟨0,by simp[Wi],λh=>by simpa [Wi] using h,.inl (by simp[Wi])⟩
 | fuel+1,size=>by
  unfold Wi
  by_cases c:size<=n
  ·rw[if_pos c]
   obtain⟨m,h1,h2,h3⟩:=Pz n fuel (size*2);refine⟨m+1,?_,λh=>h2 ?_,?_⟩
   ·rw[h1,WP,qt (2^m) 2,WX]
   ·rw[WP,qt (2^fuel) 2,<- WX]at h;exact h
   ·rcases h3 with h3 | h3<;>right<;>omega
  ·rw[if_neg c]
   exact⟨0,by simp,λ_=>by omega,.inl (wo _)⟩
theorem zBQ{n:Nat}(h1:1<=n)(h:n<=4000):∃k,3<=k/\qh (4*n)-1+1=2^k/\4*n<=qh (4*n)-1/\qh (4*n)<=8*n:=by
 obtain⟨m,e1,e2,e3⟩:=Pz (4*n) 64 8;have e0:qh (4*n)=Wi (4*n) 64 8:=rfl
 have lt := e2 (by have : (8 * 2 ^ 64 : Nat) = 147573952589676412928 := by decide
                   omega)
 rw[e0];refine⟨m+3,by omega,?_,by omega,by omega⟩;rw[Nat.sub_add_cancel (by omega),e1,QM,qt]
section
variable{prog:wH}{w:wI}{K:Type}[DecidableEq K]{knd:KeyKind prog w K}{U:wf->List K->Prop}{A:wY}{E:we->wl->Prop}{s:wl}
def Ent(knd:KeyKind prog w K)(U:wf->List K->Prop)(h:wF)(e:Int × we)(k:List K):Prop:=∃a,e.2=.ref a/\vG knd h k a/\e.1=w8 knd k/\U a k
theorem zni(n:Nat){v:we}(h:carriedByValue v=true):qr n v=pure false:=by
 cases v with
 | ref a=>simp[carriedByValue]at h
 | _=>first | rfl | simp[qr] | (unfold qr;rfl)
theorem OK{x:wf}{k:List K}(hx:vG knd s.heap k x){Q:Bool->wl->Prop}(q:Q false s):wt (model prog w) A (qr 8 (.ref x)) Q E s:=by
 have hT:=hx.typeIs;obtain⟨o,items,n,ho,hc,hd,hi⟩:=hx;unfold qr;refine wg (wpAny_typeOf hT ?_);dsimp only;rw[if_pos (by decide)];refine wg (wp ?_);simp only[Wr,w6,if_false];refine wg (Wd ho hd ?_);refine wg ?_
 show wt _ _ (forIn items _ _) _ _ s
 rw[<- Vt];refine V8 _ (λcH r s'=>r.1=none/\s'=s /\ ∀v∈cH,carriedByValue v=true) _ ?_ ?_ _ _ ⟨rfl,rfl,hi.byValue⟩
 ·rintro v cH r s' ⟨hr,rfl,hall⟩
  rw[zni _ (hall v wC)];refine wg (wp ?_);simp only[w6,if_false];exact wp ⟨rfl,rfl,λu hu'=>hall u (wy _ hu')⟩
 ·rintro ⟨r1,r2⟩ s' ⟨hr,rfl,_⟩
  simp only at hr;subst hr;exact wp q
theorem zus{x:wf}{k:List K}(hx:vG knd s.heap k x):∀(l:List we),(∀v∈l,∃y k',v=.ref y/\vG knd s.heap k' y)->∀{Q:Bool->wl->Prop},Q false s->wt (model prog w) A (searchCouldBeSeen (.ref x) l) Q E s:=by
 intro l hl Q q;unfold searchCouldBeSeen;refine wg ?_;refine V8 _ (λcH r s'=>r.1=none/\s'=s /\ ∀v∈cH,∃y k',v=.ref y/\vG knd s.heap k' y) _ ?_ ?_ _ _ ⟨rfl,rfl,hl⟩
 ·rintro v cH r s' ⟨hr,rfl,hall⟩
  obtain⟨y,k',rfl,hy⟩:=hall v wC;have rst:∀v∈cH,∃y k',v=.ref y/\vG knd s'.heap k' y:=λu hu'=>hall u (wy _ hu')
  dsimp only
  split
  ·exact wp ⟨rfl,rfl,rst⟩
  ·refine wg (wpAny_eqIsQuiet_tuple hx ?_)
   simp only[Wr,w6,if_false];refine wg (wpAny_eqIsQuiet_tuple hy ?_);simp only[Wr,w6,if_false];refine wg (OK hx ?_);simp only[Wr,w6,if_false];refine wg (OK hy ?_);simp only[Wr,w6,if_false];exact wp ⟨rfl,rfl,rst⟩
 ·rintro ⟨r1,r2⟩ s' ⟨hr,rfl,_⟩
  simp only at hr;subst hr;exact wp q
theorem Y0{t:Wo}(R:jn t.place)(D:t.dummies = #[]){i j:Nat}(hi:i<t.place.size)(e:t.place.getD i 0=j):t.slot j=.live i:=by
 rcases JZ R D j with⟨i',h1,h2,h3⟩ | ⟨no,_⟩
 ·rw[h3,AY R h1 hi (h2.trans e.symm)]
 ·exact absurd e (no i hi)
theorem Ent.inj{h:wF}{e:Int × we}{k k':List K}(a:Ent knd U h e k)(b:Ent knd U h e k'):k=k':=by
 obtain⟨x,h1,h2,_⟩:=a;obtain⟨y,h3,h4,_⟩:=b;rw[h1]at h3;cases h3;exact h2.inj h4
theorem Tb.fits{t:Wo}{hs:List Int}(b:Tb t hs):t.fits hs.length=true:=by
 unfold SetTable.fits Uf;rw[b.nz,b.size];have:=b.room;rw[b.size]at this
 simpa using this
theorem Tb.Sk{t:Wo}{hs:List Int}(b:Tb t hs):t.gaveWay=false:=by
 obtain⟨k',h3,e⟩:=b.two;unfold SetTable.gaveWay;have:2^k'=2*2^(k'-1):=by rw[<- Nat.pow_succ'];congr 1;omega
 have:t.mask % 2=1:=by omega
 rw[this];rfl
theorem O9{a xa:wf}{k:List K}{o:Obj}{es:Array (Int × we)}{ep:Nat}{t:Wo}(hu:A.units<Wz)(hx:vG knd s.heap k xa)
  (ho:s.heap.get? a=some o) (hd:o.data=.set es ep t) (b:Tb t (es.toList.map (·.1))) (he:∀i (h:i<es.size),∃k',Ent knd U s.heap es[i] k') (n0:Nat) (hE:¬ In t (way t.mask (start t.mask (w8 knd k)) n0).j) (hF:∀m,m<n0->In t (way t.mask (start t.mask (w8 knd k)) m).j) (hf0:n0<10*xW t.mask)
  {Q:SetFound->wl->Prop} (yes:(∃i,∃h:i<es.size,Ent knd U s.heap es[i] k)->Q (.there none) s) (no:(∀i (h:i<es.size),¬ Ent knd U s.heap es[i] k)->Q (.free (way t.mask (start t.mask (w8 knd k)) n0).j false) s) :
  ∀(fuel n:Nat)(st:Option SetTable.Probe),n<=n0->n0-n<fuel->st.getD (t.probeStart (w8 knd k))=way t.mask (start t.mask (w8 knd k)) n ->
   (∀m,m<n->∀i (h:i<es.size),t.place.getD i 0=(way t.mask (start t.mask (w8 knd k)) m).j->¬ Ent knd U s.heap es[i] k) ->
   wt (model prog w) A (setSearchFrom a (.ref xa) (w8 knd k) true fuel st) Q E s
 | 0,n,st,_,hlt,_,_=>absurd hlt (WF _)
 | fuel+1,n,st,hn,hlt,hst,hno=>by
  have hsz:t.place.size=es.size:=by rw[b.size,wm,wJ]
  have hfit:t.fits es.size=true:=by have:=b.fits;rwa[wm,wJ]at this
  unfold setSearchFrom;refine wg (VQ ho hd hfit ?_);dsimp only;rw[b.Sk,hst];simp only[w6,if_false];have hp:=RG b.iQ b.nz (λi=>(es[i]?.map (·.1)).getD 0) (w8 knd k) (p:=start t.mask (w8 knd k)) rfl hE hF (10*xW t.mask) n hn (by omega);rcases hp with⟨m,i,m1,m2,i1,i2,i3,i4,e⟩ | ⟨a1,e⟩
  ·generalize hP:t.probe _ (w8 knd k) (way t.mask (start t.mask (w8 knd k)) n)=P
   have eP:=hP.symm.trans e;rw[eP];clear eP hP P e;dsimp only;have ies:i<es.size:=by rw[<- hsz];exact i1
   obtain⟨k',a',e1,e2,e3,e4⟩:=he i ies;have eg:es[i]? = some es[i]:=vS ies;have hent:Ent knd U s.heap es[i] k':=⟨a',e1,e2,e3,e4⟩
   have next:k'≠k->wt (model prog w) A (setSearchFrom a (.ref xa) (w8 knd k) true fuel (some (way t.mask (start t.mask (w8 knd k)) (m+1)))) Q E s:=λc=>by
    refine O9 hu hx ho hd b he n0 hE hF hf0 yes no fuel (m+1) _ m2 (by omega) rfl λm' hm' i' hi' ep' hent'=>?_
    rcases wB m' n with q | q
    ·exact hno m' q i' hi' ep' hent'
    ·rcases W6 (VN hm')with q' | q'
     ·subst q'
      have:i'=i:=AY b.iQ (by rw[hsz];exact hi') i1 (ep'.trans i2.symm);subst this;exact c (hent.inj hent')
     ·refine i4 m' q q' i' (by rw[hsz];exact hi') ep' ?_
      show(es[i']?.map (·.1)).getD 0=_
      rw[vS hi'];obtain⟨_,_,_,e5,_⟩:=hent';exact e5
   have hsl:t.slot (way t.mask (start t.mask (w8 knd k)) m).j=.live i:=Y0 b.iQ b.nz i1 i2;have hsm:t.sameMemory t.moves t.mask=some true:=by unfold SetTable.sameMemory;rw[if_pos (by simp)]
   have unseen:∀v∈(es.filter λx=>x.1 == w8 knd k).toList.map (λx=>x.2),∃y k',v=.ref y/\vG knd s.heap k' y:=λv hv=>by
    obtain⟨e0,h0,rfl⟩:=wW.mp hv;rw[Array.toList_filter,ve]at h0;obtain⟨j,hj,ej⟩:=wX h0.1;obtain⟨k2,y2,f1,f2,_⟩:=he j (by simpa using hj);refine⟨y2,k2,?_,f2⟩;rw[<- ej,<- f1,Array.getElem_toList]
   have eg':es[i]? = some (es[i].1,.ref a'):=by rw[eg,<- e1]
   clear eg;generalize es[i].1=h' at *;have tail:k'=k->Q (.there none) s:=λc=>yes ⟨i,ies,c ▸ hent⟩
   cases hl:t.led
   ·simp only[QE,if_true]
    refine wg (zus hx _ unseen ?_);simp only[w6,if_false];rw[eg'];dsimp only;refine wg (Wg (wpAny_eqBool_tuple hu e2 hx ?_));refine wg (VQ ho hd hfit ?_);dsimp only
    by_cases c:k'=k
    ·rw[decide_eq_true c]
     exact wp (tail c)
    ·rw[decide_eq_false c,hsm]
     simp only[QK,w6,if_false,if_true];rw[hsl];dsimp only;rw[eg'];dsimp only;refine wg (wpAny_isSame_ref_self ?_);refine wg (wp ?_);simp only[if_true];exact next c
   ·simp only[Wr,w6,if_false]
    rw[eg'];dsimp only;refine wg (Wg (wpAny_eqBool_tuple hu e2 hx ?_));refine wg (VQ ho hd hfit ?_);dsimp only
    by_cases c:k'=k
    ·rw[decide_eq_true c]
     exact wp (tail c)
    ·rw[decide_eq_false c,hsm]
     simp only[QK,w6,if_false,if_true];rw[hsl];dsimp only;rw[eg'];dsimp only;refine wg (wpAny_isSame_ref_self ?_);refine wg (wp ?_);simp only[if_true];exact next c
  ·generalize hP:t.probe _ (w8 knd k) (way t.mask (start t.mask (w8 knd k)) n)=P
   have eP:=hP.symm.trans e;rw[eP];dsimp only;refine wp (no λi hi hent=>?_);have hi':i<t.place.size:=by rw[hsz];exact hi
   obtain⟨m,p1,p2⟩:=b.path i hi'
   have hh:(es.toList.map (·.1)).getD i 0=w8 knd k:=by
    obtain⟨_,_,_,e3,_⟩:=hent;rw[wa,wx,Wu,vS hi];exact e3
   rw[hh]at p1 p2;rcases wB m n0 with q | q
   ·rcases wB m n with q' | q'
    ·exact hno m q' i hi p1.symm hent
    ·refine a1 m q' q i hi' p1.symm ?_
     show(es[i]?.map (·.1)).getD 0=_
     rw[vS hi];obtain⟨_,_,_,e3,_⟩:=hent;exact e3
   ·rcases W6 q with q' | q'
    ·subst q';exact hE ⟨i,hi',p1.symm⟩
    ·exact hE (p2 n0 q')
theorem zuw{α : Type}(l:List α)(p:Nat)(x : α):(dW l p x).Perm (x::l):=by
 unfold dW;refine List.perm_middle.trans (List.Perm.cons x ?_);rw[xS]
theorem rR{h g:wF}{k:List K}{a:wf}(x:vG knd h k a)(e:∀o,h.get? a=some o->g.get? a=some o):vG knd g k a:=by
 obtain⟨o,its,n,h1,r⟩:=x;exact⟨o,its,n,e o h1,r⟩
theorem Rp{h g:wF}{k:List K}{a d:wf}{o:Obj}{es:Array (Int × we)}{ep:Nat}{t:Wo}(x:vG knd h k a)(ho:h.get? d=some o)(hd:o.data=.set es ep t)(hs:vi d h g):vG knd g k a:=by
 refine rR x λu eu=>(hs.2 a λad=>?_).trans eu
 obtain⟨u',_,_,e1,_,e2,_⟩:=x;rw[ad,ho]at e1;cases e1;rw[hd]at e2;cases e2
def fP(knd:KeyKind prog w K)(U:wf->List K->Prop)(h:wF)(es:List (Int × we))(ks:List (List K)):Prop:=es.length=ks.length /\ ∀(i:Nat)(e:Int × we)(k:List K),es[i]? = some e->ks[i]? = some k->Ent knd U h e k
def TS(knd:KeyKind prog w K)(U:wf->List K->Prop)(h:wF)(a:wf)(led:Bool)(ks:List (List K)):Prop :=
 ∃o es ep t,h.get? a=some o/\o.ExactSet/\o.data=.set es ep t/\Tb t (es.toList.map (·.1))/\es.size*5<t.mask*3/\(t.mask<=7\/t.mask<=8*es.size)/\t.led=led/\t.plain=true/\fP knd U h es.toList ks/\ks.Nodup
theorem zuB(hv:∀k v,knd.is k v=true->∃i t,v=.int i t){x:wf}{k:List K}(hx:vG knd s.heap k x){Q:Bool->wl->Prop}(q:Q true s):wt (model prog w) A (hashByValue 8 (.ref x)) Q E s:=by
 have hT:=hx.typeIs;obtain⟨o,items,n,ho,hc,hd,hi⟩:=hx
 have hints:∀{ks:List K}{vs:List we},ItemsAre knd ks vs->∀v∈vs,∃i t,v=.int i t:=λh=>by
  induction h with
  | nil=>intro v hv;simp at hv
  | cons h1 _ ih =>
   intro v hm;rcases wK.mp hm with rfl | hm
   ·exact hv _ _ h1
   ·exact ih v hm
 unfold hashByValue;refine wg (qP hT qo.lookup ?_);dsimp only;refine wg (Wd ho hd ?_);refine wg ?_
 show wt _ _ (forIn items _ _) _ _ s
 rw[<- Vt];refine V8 _ (λcH r s'=>r.1=none/\s'=s /\ ∀v∈cH,∃i t,v=.int i t) _ ?_ ?_ _ _ ⟨rfl,rfl,hints hi⟩
 ·rintro v cH r s' ⟨hr,rfl,hall⟩
  obtain⟨i,t,rfl⟩:=hall v wC
  show wt _ _ (pure true >>= _) _ _ _
  refine wg (wp ?_);simp only[Wr,w6,if_false];exact wp ⟨rfl,rfl,λu hu'=>hall u (wy _ hu')⟩
 ·rintro ⟨r1,r2⟩ s' ⟨hr,rfl,_⟩
  simp only at hr;subst hr;exact wp q
theorem zwF{α β : Type}(f : α -> β)(l:List α)(p:Nat)(x : α):(dW l p x).map f=dW (l.map f) p (f x):=by
 unfold dW;rw[vE,w9,Ub,Xi]
theorem NX{α : Type}(d : α)(es:Array α):∀l:List Nat,(∀i∈l,i<es.size)->l.filterMap (λi=>es[i]?)=l.map λi=>es.toList.getD i d
 | [],_=>rfl
 | i::l,h=>by
  have hi:=h i (wC ..);rw[qH,vS hi,w9,NX d es l λj hj=>h j (wy _ hj)];dsimp only;rw[wa,Wu,vS hi]
  rfl
theorem zuJ{α : Type}(d : α)(l:List α):(wq l.length).map (λi=>l.getD i d)=l:=by
 refine Vj (by simp) λi h1 h2=>?_
 rw[Vk,List.getElem_range,wa,wc h2]
 rfl
theorem fP.keeps{h h':wF}{es:List (Int × we)}{ks:List (List K)}{d:wf}{o:Obj}{es0:Array (Int × we)}{ep:Nat}{t:Wo}(x:fP knd U h es ks)(ho:h.get? d=some o)(hd:o.data=.set es0 ep t)(hs:vi d h h'):fP knd U h' es ks :=
 ⟨x.1,λi e k h1 h2=>by obtain⟨a,e1,e2,e3⟩:=x.2 i e k h1 h2;exact⟨a,e1,Rp e2 ho hd hs,e3⟩⟩
theorem fP.ins{h:wF}{es:List (Int × we)}{ks:List (List K)}(x:fP knd U h es ks){p:Nat}(hp:p<=ks.length){e:Int × we}{k:List K}(c:Ent knd U h e k):fP knd U h (dW es p e) (dW ks p k):=by
 have hp':p<=es.length:=by rw[x.1];exact hp
 refine⟨by rw[oJ e hp',oJ k hp,x.1],λi e' k' h1 h2=>?_⟩;rw[z8 e hp']at h1;rw[z8 k hp]at h2
 split at h1
 ·rename_i a;rw[if_pos a]at h2;exact x.2 i e' k' h1 h2
 ·rename_i a;rw[if_neg a]at h2
  split at h1
  ·rename_i b;rw[if_pos b]at h2
   cases h1;cases h2;exact c
  ·rename_i b;rw[if_neg b]at h2;exact x.2 (i-1) e' k' h1 h2
theorem fP.ord{h:wF}{es:List (Int × we)}{ks:List (List K)}(x:fP knd U h es ks){l:List Nat}(hl:∀i∈l,i<es.length):fP knd U h (l.map λi=>es.getD i (0,.none)) (l.map λi=>ks.getD i []):=by
 refine⟨by simp,λi e' k' h1 h2=>?_⟩;rw[wx]at h1 h2;cases hi:l[i]? with
 | none=>rw[hi]at h1;cases h1
 | some j =>
  rw[hi]at h1 h2;cases h1;cases h2;have hj:j<es.length:=hl j (x5 hi);have hj':j<ks.length:=by rw[<- x.1];exact hj
  refine x.2 j _ _ ?_ ?_
  ·dsimp only;rw[wa,wc hj];rfl
  ·dsimp only;rw[wa,wc hj'];rfl
theorem Oj{h:wF}{a:wf}{o:Obj}{es:Array (Int × we)}{ep:Nat}{t:Wo}(ho:h.get? a=some o)(hd:o.data=.set es ep t)(es':Array (Int × we))(t':Wo) :
  (h.update a (xc es' t')).get? a=some {o with data:=.set es' (ep+1) t'}:=by
 have:=Vv (xc es' t') ho (by rw[putSet_of es' t' hd];rfl);rw[putSet_of es' t' hd]at this;exact this
theorem zwE{a:wf}{o:Obj}{es:Array (Int × we)}{ep:Nat}{t:Wo}{ks:List (List K)}(ho:s.heap.get? a=some o)(hex:o.ExactSet)(hd:o.data=.set es ep t)(b:Tb t (es.toList.map (·.1)))(hpl:t.plain=true)
  (hk:fP knd U s.heap es.toList ks) (hnd:ks.Nodup) (h1:1<=es.size) (hz:es.size<=1000) {Q:Unit->wl->Prop} (q:∀h' ks',vi a s.heap h'->TS knd U h' a t.led ks'->ks'.Perm ks->Q () {s with heap:=h'}) :
  wt (model prog w) A (setRelay a (xX es.size)) Q E s:=by
 have hfit:t.fits es.size=true:=by have:=b.fits;rwa[wm,wJ]at this
 have hg:xX es.size=4*es.size:=by unfold xX;rw[if_neg (by omega),qt]
 obtain⟨k2,k3,s1,s2,s3⟩:=zBQ (n:=es.size) h1 (by omega);unfold setRelay;rw[hg];refine wg (VQ ho hd hfit ?_);dsimp only;rw[if_neg (by rw[qF];omega)];obtain⟨t2,ord,e2,m2,l2,p2,_,op,b2⟩:=zyc k3 s1 t.finger (t.movedTo (qh (4*es.size)-1)) t.led t.plain (hs:=es.map (·.1)) (by rw[u4];omega);rw[u4]at op;have olt:∀i∈ord.toList,i<es.size:=λi hi=>wG.mp (op.mem_iff.mp hi)
 have e2':t.relaid (es.map (·.1)) (4*es.size)=some (t2,ord):=e2;rw[e2']
 have fe:(ord.filterMap (λi=>es[i]?)).toList=ord.toList.map λi=>es.toList.getD i (0,.none):=by
  rw[Array.toList_filterMap];exact NX _ es _ olt
 have fz:(ord.filterMap (λi=>es[i]?)).size=es.size:=by
  rw[<- wJ,fe,wm,op.length_eq,vk]
 refine wg ?_
 show wt _ _ (if((ord.filterMap (λi=>es[i]?)).size != es.size)=true then(unsupported "internal:set-table-lost-an-element" >>= λ_=>pure (ord.filterMap (λi=>es[i]?),t2))else pure (ord.filterMap (λi=>es[i]?),t2)) _ _ _
 rw[if_neg (by rw[fz];simp)];refine wp ?_;refine wpAny_storeSet_of ho hd ?_ (by rw[fz,qF];omega);have hsb:=qI s.heap a (xc (ord.filterMap (λi=>es[i]?)) t2);have hkk:fP knd U s.heap (ord.filterMap (λi=>es[i]?)).toList (ord.toList.map λi=>ks.getD i []):=by rw[fe];exact hk.ord λi hi=>by rw[wJ];exact olt i hi
 have pm:(ord.toList.map λi=>ks.getD i []).Perm ks:=by
  have:=op.map (λi=>ks.getD i []);have hl:es.size=ks.length:=by rw[<- wJ];exact hk.1
  rw[hl,zuJ]at this;exact this
 refine q _ (ord.toList.map λi=>ks.getD i []) hsb ⟨_,_,_,t2,Oj ho hd _ t2,hex,rfl,?_,?_,?_,l2,p2.trans hpl,hkk.keeps ho hd hsb,pm.nodup_iff.mpr hnd⟩ pm
 ·rw[fe,V4]
  have:(ord.toList.map ((λx:Int × we=>x.1) ∘ λi=>es.toList.getD i (0,.none)))=ord.toList.map λk=>(es.map (·.1)).toList.getD k 0:=by
   refine Qy λi hi=>?_
   have:=olt i hi
   show(es.toList.getD i (0,.none)).1=_
   rw[wa,wa,Array.toList_map,wx,Wu,vS this]
   rfl
  rw[this];exact b2
 ·rw[fz,m2];omega
 ·right;rw[fz,m2];omega
theorem zAZ(hv:∀k v,knd.is k v=true->∃i t,v=.int i t){a xa:wf}{k:List K}{led:Bool}{ks:List (List K)}(hu:A.units<Wz)(hS:TS knd U s.heap a led ks)(hx:vG knd s.heap k xa)(hU:U xa k)(hz:ks.length+1<=1000)
  {Q:Bool->wl->Prop} (q:∀h' ks',vi a s.heap h'->TS knd U h' a led ks'->(k∈ks->ks'=ks)->(k ∉ ks->ks'.Perm (k::ks))->∀b,Q b {s with heap:=h'}) :
  wt (model prog w) A (setAddHashed a (.ref xa) (w8 knd k)) Q E s:=by
 obtain⟨o,es,ep,t,ho,hex,hd,b,hfew,hmask,hled,hpl,⟨hkl,hke⟩,hnd⟩:=hS;rw[wJ]at hkl;have hfit:t.fits es.size=true:=by have:=b.fits;rwa[wm,wJ]at this
 have hsz:t.place.size=es.size:=by rw[b.size,wm,wJ]
 have hent:∀i (h:i<es.size),Ent knd U s.heap es[i] (ks[i]'(by omega)):=λi h=>hke i _ _ (by rw[Wu,vS h]) (wc _)
 unfold setAddHashed setAddHashedIn;refine Wg (wg (VQ ho hd hfit ?_));dsimp only;rw[show byScan (.ref xa) es=false from rfl];simp only[w6,if_false];obtain⟨n0,hf0,hE,hF⟩:=b.free (w8 knd k);have hmm:t.mask<=8000:=by omega
 refine wg (O9 hu hx ho hd b (λi h=>⟨_,hent i h⟩) n0 hE hF hf0 (λhy=>?yes) (λhn=>?no) 100000 0 none (Ww _) (by unfold xW at hf0;omega) rfl (λm hm=>absurd hm (WF _)))
 case yes =>
  dsimp only;obtain⟨i,hi,he⟩:=hy;have hk:k∈ks:=by rw[he.inj (hent i hi)];exact vJ _
  exact wp (q s.heap ks (X0 a s.heap) ⟨o,es,ep,t,ho,hex,hd,b,hfew,hmask,hled,hpl,⟨by rw[wJ];exact hkl,hke⟩,hnd⟩ (λ_=>rfl) (λh=>absurd hk h) _)
 case no =>
  dsimp only
  have hk:k ∉ ks:=λhm=>by
   obtain⟨i,hi,e⟩:=wX hm;exact hn i (by omega) (e ▸ hent i (by omega))
  refine wg (VQ ho hd hfit ?_);dsimp only;obtain⟨k8,k3,kk⟩:=b.two
  have m7:7<=t.mask:=by
   have:2^3<=2^k8:=Xa (by decide) k3;omega
  obtain⟨hp,tb⟩:=b.put hE hF (by rw[hsz];omega);rw[wm,wJ,hkl]at hp;have q1:(t.put (way t.mask (start t.mask (w8 knd k)) n0).j).1.plain=t.plain:=rfl;have q2:(t.put (way t.mask (start t.mask (w8 knd k)) n0).j).1.led=t.led:=rfl;have q3:(t.put (way t.mask (start t.mask (w8 knd k)) n0).j).1.mask=t.mask:=rfl;generalize (t.put (way t.mask (start t.mask (w8 knd k)) n0).j).2=p at *;generalize (t.put (way t.mask (start t.mask (w8 knd k)) n0).j).1=t1 at *;rw[if_pos (q1.trans hpl)];refine wg (zuB hv hx ?_);simp only[if_true];have en:Ent knd U s.heap (w8 knd k,.ref xa) k:=⟨xa,rfl,hx,rfl,hU⟩
  have hkk:fP knd U s.heap (Wj es p (w8 knd k,.ref xa)).toList (dW ks p k):=by
   rw[pe];exact fP.ins ⟨by rw[wJ];exact hkl,hke⟩ hp en
  have tb':Tb t1 ((Wj es p (w8 knd k,.ref xa)).toList.map (·.1)):=by
   rw[pe,zwF];exact tb
  have z1:(Wj es p (w8 knd k,.ref xa)).size=es.size+1:=by
   rw[<- wJ,pe,oJ _ (by rw[wJ,hkl];exact hp),wJ]
  have pm:(dW ks p k).Perm (k::ks):=zuw ks p k;have nd:(dW ks p k).Nodup:=pm.nodup_iff.mpr (WN.mpr ⟨hk,hnd⟩);refine wg (wpAny_storeSet_of ho hd ?_ (by rw[z1,qF];omega));have hsb:=qI s.heap a (xc (Wj es p (w8 knd k,.ref xa)) t1);have ho1:=Oj ho hd (Wj es p (w8 knd k,.ref xa)) t1
  have pz:t1.fill=es.size+1:=by
   unfold Uf;rw[tb'.nz,tb'.size,wm,wJ,z1];rfl
  split
  ·refine wg ?_
   have:=zwE (A:=A) (E:=E) (knd:=knd) (s:={s with heap:=s.heap.update a (xc (Wj es p (w8 knd k,.ref xa)) t1)}) (ks:=dW ks p k) ho1 hex rfl tb' (q1.trans hpl) (hkk.keeps ho hd hsb) nd (by rw[z1];omega) (by rw[z1];omega)
    (Q:=λ_ s'=>wt (model prog w) A (pure true) Q E s') λh' ks' sb ts pm'=>wp (q h' ks' (hsb.trans sb) (by rw[q2,hled]at ts;exact ts) (λh=>absurd h hk) (λ_=>pm'.trans pm) _)
   rw[z1]at this;exact this
  ·rename_i c
   have c:¬ t1.tooFull=true:=by simpa using c
   unfold SetTable.tooFull at c;rw[pz]at c;refine wp (q _ (dW ks p k) hsb ⟨_,_,_,t1,ho1,hex,rfl,tb',?_,?_,q2.trans hled,q1.trans hpl,hkk.keeps ho hd hsb,nd⟩ (λh=>absurd h hk) (λ_=>pm) _)
   ·rw[z1]
    have:¬ t1.mask*3<=(es.size+1)*5:=by simpa using c
    omega
   ·rw[z1,q3];omega
end
section
variable{prog:wH}{w:wI}{K:Type}[DecidableEq K]{knd:KeyKind prog w K}{U:wf->List K->Prop}
theorem TS.same{h g:wF}{S:wf}{led:Bool}{ks:List (List K)}(x:TS knd U h S led ks)(e:∀o,h.get? S=some o->g.get? S=some o)(f:∀k a,vG knd h k a->vG knd g k a):TS knd U g S led ks:=by
 obtain⟨o,es,ep,t,c1,c2,c3,c4,c5,c6,c7,c8,⟨d1,d2⟩,c9⟩:=x;refine⟨o,es,ep,t,e o c1,c2,c3,c4,c5,c6,c7,c8,⟨d1,λi y k y1 y2=>?_⟩,c9⟩;obtain⟨a,z1,z2,z3⟩:=d2 i y k y1 y2;exact⟨a,z1,f k a z2,z3⟩
theorem TS.new{h:wF}{S:wf}{led:Bool}(e:h.get? S=some {cls:=.type "set",dict:=none,data:=.set #[] 0 (.fresh 0 0 led)}):TS knd U h S led [] :=
 ⟨_,#[],0,_,e,⟨rfl,rfl,rfl⟩,rfl,⟨λi j _ hj=>absurd hj (WF _),rfl,rfl,⟨3,wo _,rfl⟩,λi hi=>absurd hi (WF _),Ww _,λi hi=>absurd hi (WF _)⟩,(by show 0*5<7*3;decide),.inl (wo _),rfl,rfl,⟨rfl,λi y k y1=>by simp at y1⟩,List.nodup_nil⟩
variable{A:wY}{R:Result->wl->Prop}{I:wf}{fp wr:List wf}{G:Array GenState->Array GenState->Prop}{n:Nat}{P:Nat->we->Prop}{St:Nat->wl->Prop}
theorem zB8(hv:∀k v,knd.is k v=true->∃i t,v=.int i t)(W:WalksS prog w A.in1 I fp wr G n P St){S:wf}(hSf:S ∉ fp)(hu:A.units+1<Wz){led:Bool}{key:Nat->List K}{ad:Nat->wf}
  (hval:∀i v,P i v->v=.ref (ad i)) (hI:∀i s a k,St i s->vG knd s.heap k a->a ∉ wr) (hn:n<=999) (hU:∀j,j<n->U (ad j) (key j)) :
  ∀(c i:Nat)(s:wl)(ks:List (List K)),n-i=c->i<=n->St i s->(∀j,j<n->vG knd s.heap (key j) (ad j))->TS knd U s.heap S led ks->(∀x,x∈ks ↔ ∃j,j<i/\key j=x)->ks.length<=i ->
   (∀s' ks',Moved (S::wr) G s s'->(∀k a,vG knd s.heap k a->vG knd s'.heap k a)->TS knd U s'.heap S led ks'->(∀x,x∈ks' ↔ ∃j,j<n/\key j=x)->R (.ok (.ret .none)) s') ->
   codeAny (model prog w) A (.builtin "set.update.loop" ⟨[.ref S,.ref I],[]⟩) R s:=by
 have nw:S ∉ wr:=λx=>hSf (W.sub _ x)
 intro c
 induction c with
 | zero =>
  intro i s ks ec ei st ht hs hx hl r;obtain rfl:i=n:=by omega
  refine qi qZ ?_;rw[VW Vu _];refine wg (m:=VO (.ref I)) (W.done s _ _ st λs' mv=>?_);have f:∀k a,vG knd s.heap k a->vG knd s'.heap k a:=λk a x=>rR x λo eo=>mv.heap a o (hI i s a k st x) eo
  exact wp (r s' ks (mv.mono λ_ q=>.tail _ q) f (hs.same (λo eo=>mv.heap S o nw eo) f) hx)
 | succ c ih =>
  intro i s ks ec ei st ht hs hx hl r;have lt:i<n:=by omega
  refine qi qZ ?_;rw[VW Vu _];refine wg (m:=VO (.ref I)) (W.item i s _ _ lt st λv s' pv st' mv=>?_);obtain rfl:=hval i v pv;have f:∀k a,vG knd s.heap k a->vG knd s'.heap k a:=λk a x=>rR x λo eo=>mv.heap a o (hI i s a k st x) eo
  have hs':=hs.same (λo eo=>mv.heap S o nw eo) f;refine wg (m:=holding [Value.ref (ad i)] (setAdd S (.ref (ad i)))) (Wg ?_);unfold setAdd;refine Wg (wg (wpAny_pyHash_tuple (by exact hu) (f _ _ (ht i lt)) ?_));refine zAZ hv (s:={s' with toks:=s'.toks+((key i).length+1)}) (by exact hu) hs' (f _ _ (ht i lt)) (hU i lt) (by omega) λh2 ks2 sb ts2 y1 y2 b=>?_
  have so:=hs';obtain⟨o9,_,_,_,g1,_,g2,_⟩:=so;have f2:∀k a,vG knd s'.heap k a->vG knd h2 k a:=λk a x=>Rp x g1 g2 sb
  have iu:∀x,x∈ks2 ↔ ∃j,j<i+1/\key j=x:=λx=>by
   have old:x∈ks2 ↔ x=key i\/x∈ks:=by
    by_cases d:key i∈ks
    ·rw[y1 d];exact⟨.inr,λq=>q.elim (λe=>e ▸ d) id⟩
    ·rw[(y2 d).mem_iff,wK]
   rw[old,hx]
   constructor
   ·rintro (rfl | ⟨j,j1,j2⟩)
    ·exact⟨i,by omega,rfl⟩
    ·exact⟨j,by omega,j2⟩
   ·rintro ⟨j,j1,j2⟩
    rcases W6 (VN j1)with e | e
    ·subst e;exact .inl j2.symm
    ·exact .inr ⟨j,e,j2⟩
  have len2:ks2.length<=i+1:=by
   by_cases d:key i∈ks
   ·rw[y1 d];omega
   ·rw[(y2 d).length_eq,vo];omega
  refine wp ⟨plainId_quiet Vu _,ih (i+1) _ ks2 (by omega) lt (W.frame _ s' _ _ st' (WJ _ _) λz hz o e=>?_) (λj hj=>f2 _ _ (f _ _ (ht j hj))) ts2 iu len2 λs3 ks3 mv3 f3 ts3 m3=>?_⟩
  ·rw[sb.2 z (λq=>hSf (q ▸ hz))];exact e
  ·refine r s3 ks3 (Moved.trans W.gtrans ((mv.mono λ_ q=>.tail _ q).then_heap (WJ _ _) λz o hz e=>?_) mv3) (λk a x=>f3 k a (f2 k a (f k a x))) ts3 m3
   rw[sb.2 z (λq=>hz (q ▸ .head _))];exact e
end
def h_(led:Bool):Obj:={cls:=.type "set",dict:=none,data:=.set #[] 0 (.fresh 0 0 led)}
def fB(w:wI):Bool:=!(w.params.followText "set-order")
section
variable{prog:wH}{w:wI}{K:Type}[DecidableEq K]{knd:KeyKind prog w K}{U:wf->List K->Prop}{A:wY}{E:we->wl->Prop}{s:wl}
theorem UZ(x:we){Q:we->wl->Prop}(q:Q (.ref s.heap.objs.size) {s with heap:=s.heap.push (h_ (fB w))}) :
  codeAny (model prog w) A (.call (.builtin "set.__new__") ⟨[.type "set",x],[]⟩) (wants Q E) s:=by
 refine codeAny_of_tree ?_;refine wg (m:=checkBuiltinCall "set.__new__" ⟨[.type "set",x],[]⟩) (wpAny_of_eq (F.newCall_set_1 x) (wp ?_));refine⟨plainId_quiet uP _,qi F.entry_set_new ?_⟩;rw[VW uP _];unfold Builtin.«set.__new__» Ug;have sub:=sub_set_self;obtain⟨z1,z2,z3,z4,z5⟩:=s;dsimp only
 wp_walk
 refine wpAny_askSetting (wp ?_);dsimp only;simp only[newObj];exact wg (wpAny_alloc (wp (wp q)))
end
end TB
namespace TB
open PySem PySem.W PyProof.Rows
inductive Cy{α : Type}(n:Nat)(φ : α -> Prop):KasT α -> Prop
 | ret {a : α} : φ a->Cy n φ (.ret a)
 | ask {i j:Nat} {k:Bool->KasT α} : i<n->j<n->(∀b,Cy n φ (k b))->Cy n φ (.ask i j k)
section
variable{n:Nat}(h1:1<=n)
include h1
end
section
variable{prog:wH}{w:wI}{A:wY}{E:we->wl->Prop}{s:wl}
end
structure rk(w:wI)(h:wF)(a:wf)(es:Array (Int × we))(ep:Nat)(t:Wo):Prop where
 at':∃o,h.get? a=some o/\o.ExactSet/\o.data=.set es ep t
 fits:t.fits es.size=true
 size:t.place.size=es.size
 iQ:jn t.place
 plain:t.plain=true
 led:t.led=fB w
 bX:es.size<=4000
theorem rk.same{w:wI}{h g:wF}{a:wf}{es:Array (Int × we)}{ep:Nat}{t:Wo}(x:rk w h a es ep t)(e:∀o,h.get? a=some o->g.get? a=some o):rk w g a es ep t :=
 ⟨let ⟨o,h1,r⟩:=x.at';⟨o,e o h1,r⟩,x.fits,x.size,x.iQ,x.plain,x.led,x.bX⟩
section
variable{prog:wH}{w:wI}{A:wY}{E:we->wl->Prop}{s:wl}{a:wf}{es:Array (Int × we)}{ep:Nat}{t:Wo}
end
section
variable{prog:wH}{w:wI}{A:wY}{E:we->wl->Prop}{s:wl}{a it:wf}{es:Array (Int × we)}{ep:Nat}{t:Wo}{i:Nat}
end
section
variable{prog:wH}{w:wI}{A:wY}{E:we->wl->Prop}{s:wl}
end
end TB
namespace L2
open PySem PySem.Spec PyProof.Rows GM
def lG(w:wI)(a:wf)(ws:List V):HO:=.ext λh=>∃es ep t,TB.rk w h a es ep t/\aM ws (es.toList.map (·.2))
def BJ(K:wb)(H:Hp)(v:V)(k:List Int):Prop:=∃q,v=.ref q/\aR K H q (k.map V.int)
theorem items_int{P:wH}{w:wI} : ∀{us:List we}{ns:List Int},IntsAre us ns->ItemsAre (intKind P w) ns us
 | _,_,.nil=>.nil
 | _,_,.cons n t r=>.cons (by show QL n (Value.int n t)=true;simp[QL]) (items_int r)
theorem TH{P:wH}{w:wI}(k:Int)(v:we)(h:(intKind P w).is k v=true):∃i t,v=.int i t:=by
 have h:QL k v=true:=h;cases v with
 | int i t=>exact⟨i,t,rfl⟩
 | _=>exact absurd h (by simp[QL])
theorem Inv.key{X:Cx}{pins:List (wf × Obj)}{σ : List (Option V)}{H:Hp}{s:wl}(I:Inv X pins σ H s){q:wf}{k:List Int}(h:aR X.K H q (k.map V.int)):vG (intKind X.prog X.w) s.heap k q:=by
 obtain⟨its,r,⟨o,e,hc,n,hd⟩,_⟩:=I.tuple h;exact⟨o,its.toArray,n,e,hc,hd,items_int (yG r)⟩
theorem sE:∀{ws:List V}{us:List we},aM ws us->∀{i:Nat}{q:wf},ws[i]? = some (.ref q)->us[i]? = some (.ref q)
 | _,_,.nil,i,q,h=>by simp at h
 | _,_,.cons r1 r2,0,q,h=>by
  simp only[List.getElem?_cons_zero,Q4]at h ⊢;subst h;exact r1
 | _,_,.cons r1 r2,i+1,q,h=>by
  simp only[xr]at h ⊢;exact sE r2 h
def yR:we->V
 | .ref a=>.ref a
 | _=>.bj
theorem Rw:∀(us:List we),(∀u∈us,∃a,u=.ref a)->aM (us.map yR) us
 | [],_=>.nil
 | u::us,h=>by
  obtain⟨a,rfl⟩:=h u (wC ..);exact .cons rfl (Rw us λu hu=>h u (wy _ hu))
theorem zo2(es:List (Int × we))(h:∀e∈es,∃a,e.2=.ref a):aM (es.map λe=>yR e.2) (es.map (·.2)):=by
 have:=Rw (es.map (·.2)) λu hu=>by
  obtain⟨e,he,rfl⟩:=wW.mp hu;exact h e he
 rwa[V4]at this
theorem mZ{α : Type}[DecidableEq α]:∀{ks l:List α},ks.Nodup->(∀x∈ks,x∈l)->ks.length<=l.length
 | [],l,_,_=>Ww _
 | k::ks,l,h,hs=>by
  rw[WN]at h;have hk:=hs k (wC ..);have:=mZ (l:=l.erase k) h.2 λx hx=>(Xe (λe=>h.1 (by rw[<- e];exact hx))).mpr (hs x (wy _ hx))
  rw[xl hk]at this;have:=qk hk;rw[vo];omega
def A_(w:wI):List V->Hp->VK->Prop:=λxs H Q=>∃(p:wf)(ws:List V),xs=[.ref p]/\H p=some (lG w p ws)/\Q (.int (ws.length:Int)) H
theorem Lp{X:Cx} : aO X (.builtin "len") (A_ X.w):=by
 intro pins s σ H xs us Q I r h;obtain⟨p,ws,rfl,hp,q⟩:=h;obtain⟨u,rfl,rx⟩:=gq r;cases rx;obtain⟨⟨es,ep,t,y,r'⟩,_,_⟩:=I.aG p _ hp;obtain⟨o,h1,h2,h3⟩:=y.at';have hl:ws.length=es.size:=by have:=r'.length;simpa using this
 have:=y.bX;exact PySem.call_len_set h1 h2 h3 y.fits (by omega) ⟨.int (ws.length:Int),H,I.tok _,⟨s.toks+1,by rw[hl]⟩,q⟩
end L2
namespace TB
open PySem PySem.W PyProof.Rows MeetsSeq
section
variable{prog:wH}{w:wI}{A:wY}{s:wl}{R:Result->wl->Prop}
end
end TB
namespace L2
open PySem PySem.Spec PyProof.Rows GM
section
variable{K:wb}{w:wI}{H H':Hp}{Q:VK}{v:V}{p l:wf}{xs ys:List Rat}{us ws:List V}
theorem L6{r:Rat} : Is K H v (N r) ↔ BJ K H v [r.num,(r.den:Int)]:=mQ
theorem JT{r s:Rat}(h:([r.num,(r.den:Int)]:List Int)=[s.num,(s.den:Int)]):r=s:=by
 simp only[uK,and_true]at h;exact uZ h.1 (by omega)
theorem Nw:∀(ks:List (List Int)),(∀k∈ks,∃r:Rat,k=[r.num,(r.den:Int)])->∃ys:List Rat,ks=ys.map λr=>[r.num,(r.den:Int)]
 | [],_=>⟨[],rfl⟩
 | k::ks,h=>by
  obtain⟨r,rfl⟩:=h k (wC ..);obtain⟨ys,rfl⟩:=Nw ks λk hk=>h k (wy _ hk)
  exact⟨r::ys,rfl⟩
theorem PB:∀{ws:List V}{ys:List Rat},ws.length=ys.length->(∀(i:Nat)(v:V)(r:Rat),ws[i]? = some v->ys[i]? = some r->Is K H v (N r))->ak K H ws (ys.map N)
 | [],[],_,_=>.nil
 | [],_::_,h,_=>absurd h (by simp)
 | _::_,[],h,_=>absurd h (by simp)
 | v::ws,y::ys,h,hh=>.cons (hh 0 v y rfl rfl) (PB (by simpa using h) λi v r h1 h2=>hh (i+1) v r (by simpa using h1) (by simpa using h2))
end
end L2
namespace TB
open PySem
section
variable{prog:wH}{w:wI}{K:Type}[DecidableEq K]{knd:KeyKind prog w K}{U:wf->List K->Prop}{A:wY}{E:we->wl->Prop}{s:wl}
set_option maxHeartbeats 3200000 in
theorem Sa(hv:∀k v,knd.is k v=true->∃i t,v=.int i t){l:wf}{its:List we}{key:Nat->List K}{ad:Nat->wf}(hh:A.handled=none)(hu:A.units+64<Wz)(hl:s.heap.IsTuple l its.toArray)
  (hi:∀(i:Nat) v,its[i]? = some v->v=.ref (ad i)) (hk:∀i,i<its.length->vG knd s.heap (key i) (ad i)) (hn:its.length<=999) (hU:∀j,j<its.length->U (ad j) (key j)) {Q:we->wl->Prop}
  (q:∀(g:wF)(tk:Nat)(ks:List (List K)),TS knd U g s.heap.objs.size (fB w) ks->(∀x,x∈ks ↔ ∃j,j<its.length/\key j=x)->(∀b o,s.heap.get? b=some o->g.get? b=some o)->Q (.ref s.heap.objs.size) {s with heap:=g,toks:=tk}) :
  wt (model prog w) A (call (.type "set") [.ref l]) Q E s:=by
 obtain⟨c1,c2,mro⟩:=V7.mro;have f1:=V7.made;have f2:=V7.sub;have f3:=V7.notType;have f4:=V7.canCreate;have f5:=F.typeCall_set_1 (.ref l);refine wpAny_call (codeAny_of_tree (show wt _ _ (callAny (.type "set") _) _ _ _ from ?_));refine wp ⟨Code.quiet_builtin _ (by decide +kernel),qi F.entry_type_call ?_⟩;rw[Around.under_plain (weight_type_call_type "set" [.ref l] []) rfl]
 repeat(any_goals(first | assumption | wp_step))
 have nd:=UZ (prog:=prog) (w:=w) (A:=A.in1) (E:=E) (s:=s) (.ref l) (Q:=λv s1=>v=.ref s.heap.objs.size/\s1 = {s with heap:=s.heap.push (h_ (fB w))}) ⟨rfl,rfl⟩;refine codeAny_mono nd λr s1 hr=>?_
 cases r with
 | error e=>exact hr
 | ok fl =>
  cases fl with
  | ret obj =>
   obtain⟨rfl,rfl⟩:=hr;have gS:(s.heap.push (h_ (fB w))).get? s.heap.objs.size=some (h_ (fB w)):=wM _ rfl;have tS:Shared.TypeIs {s with heap:=s.heap.push (h_ (fB w))} (.ref s.heap.objs.size) "set":=⟨_,gS,rfl⟩;have g1:=V7.init.lookup;have g2:=V7.init.bind (.ref s.heap.objs.size)
   repeat(any_goals(first | assumption | wp_step))
   refine codeAny_mono (codeAny_call_builtin (R:=wants (λv s2=>v=.none /\ ∃g tk ks,s2 = {s with heap:=g,toks:=tk}/\TS knd U g s.heap.objs.size (fB w) ks/\(∀x,x∈ks ↔ ∃j,j<its.length/\key j=x) /\ ∀b o,s.heap.get? b=some o->g.get? b=some o) E)
    V7.init.plain F.entry_set_init (check_set_init_1 tS ?_)) λr2 s2 hr2=>?_
   ·obtain⟨ol,e1,e2,nl,e3⟩:=hl
    obtain⟨y1,y2,y3,y4⟩:=ol;dsimp only at e2 e3;subst e2;subst e3;have gl:(s.heap.push (h_ (fB w))).get? l=some {cls:=.type "tuple",dict:=y2,data:=.seq its.toArray nl,slots:=y4}:=wn _ e1;have n1:=F.sub_tuple_set;have n2:=F.sub_tuple_frozenset;have n3:(Value.type "tuple" == Value.type "dict")=false:=by decide
    have il:(s.heap.push (h_ (fB w))).IsTuple l its.toArray:=⟨_,gl,rfl,nl,rfl⟩;unfold Builtin.«set.__init__» noKeywords u5;generalize hPI:pyIter=PI
    wp_walk
    subst hPI;refine W8 il ?_;refine wg (wpAny_runValue ?_);have ls:l<s.heap.objs.size:=wA e1;have zs:(s.heap.push (h_ (fB w))).objs.size=s.heap.objs.size+1:=VY ..;have ne:l≠(s.heap.push (h_ (fB w))).objs.size:=by rw[zs];exact wO (VL ls)
    have nf:s.heap.objs.size ∉ [(s.heap.push (h_ (fB w))).objs.size,l]:=by
     rw[zs];intro hm;rcases wK.mp hm with e | hm
     ·exact absurd e (wO (Nat.lt_succ_self _))
     ·rcases wK.mp hm with e | hm
      ·exact absurd e (vg ls)
      ·cases hm
    have kp:∀b o,s.heap.get? b=some o->((s.heap.push (h_ (fB w))).push {cls:=.type "tuple_iterator",data:=.fields #[.ref l,.int 0 0]}).get? b=some o:=λb o e=>wn _ (wn _ e)
    refine zB8 hv ((Walks.tuple (by simp[hh]) _ l ne its.toArray).toS) (S:=s.heap.objs.size) nf (by show A.units+1+1+1<_;omega) (led:=fB w) (key:=key) (ad:=ad)
     (λi v hp=>hi i v (by simpa using hp)) ?hI (by simpa using hn) (λj hj=>hU j (by simpa using hj)) (its.toArray.size-0) 0 _ [] rfl (Ww _) ⟨⟨_,wM _ rfl,rfl,rfl⟩,il.at λo e=>wn _ e⟩
     (λj hj=>rR (hk j (by simpa using hj)) λo eo=>kp _ o eo) (TS.new (wn _ gS)) (λx=>⟨λh=>absurd h qD,λ⟨j,j1,_⟩=>absurd j1 (WF _)⟩) (wo _) ?fin
    case hI =>
     intro i s9 a9 k9 st9 x9 hm;obtain⟨⟨o8,u1,u2,_⟩,_⟩:=st9;obtain⟨o9,_,_,v1,v2,_⟩:=x9;rcases wK.mp hm with e | hm
     ·subst e
      rw[u1]at v1;cases v1;rw[u2]at v2;exact absurd (Value.type.inj v2) (by decide)
     ·cases hm
    case fin =>
     intro s9 ks9 mv f9 ts9 m9;obtain⟨g,x1,x2,x3,x4⟩:=s9;obtain rfl:x1=s.gens:=mv.gens;obtain rfl:x2=s.drawn:=mv.drawn;obtain rfl:x4=s.os:=mv.os;refine wp (wp ⟨rfl,g,x3,ks9,rfl,ts9,by simpa using m9,λb o e=>?_⟩);have lb:b<s.heap.objs.size:=wA e;refine mv.heap b o (λhm=>?_) (kp b o e);rcases wK.mp hm with e' | hm
     ·exact absurd e' (wO lb)
     ·rcases wK.mp hm with e' | hm
      ·rw[zs]at e';exact absurd e' (wO (VL lb))
      ·cases hm
   ·cases r2 with
    | error e=>exact hr2
    | ok fl2 =>
     cases fl2 with
     | ret v =>
      obtain⟨rfl,g,tk,ks,rfl,a1,a2,a3⟩:=hr2
      repeat(any_goals(first | assumption | wp_step))
      exact q g tk ks a1 a2 a3
     | _=>exact hr2.elim
  | _=>exact hr.elim
end
end TB
namespace L2
open PySem PySem.Spec PyProof.Rows GM
def rL(K:wb)(w:wI):List V->Hp->VK->Prop:=λxs H Q=>∃(p:wf)(vs:List V)(key:Nat->List Int),xs=[.ref p]/\aR K H p vs/\vs.length<=999/\(∀j v,vs[j]? = some v->BJ K H v (key j)) /\
 ∀(l:wf)(ws:List V)(ks:List (List Int)),H l=none->ws.length=ks.length->(∀(i:Nat)(v:V)(k:List Int),ws[i]? = some v->ks[i]? = some k->BJ K H v k)->ks.Nodup->(∀x,x∈ks ↔ ∃j,j<vs.length/\key j=x) ->
  Q (.ref l) (upd H l (lG w l ws))
theorem MG{X:Cx}(hu:X.A.units+64<Wz)(hc:X.calm=true):aO X (.type "set") (rL X.K X.w):=by
 intro pins s σ H xs us Q I r h;obtain⟨p,vs,key,rfl,hq,hn,hk,q⟩:=h;obtain⟨u,rfl,rx⟩:=gq r;cases rx;obtain⟨its,r',pl,hz⟩:=I.tuple hq;have hlen:=r'.length
 have hx:∀j:Nat,∃ad:wf,∀v,vs[j]? = some v->v=.ref ad/\aR X.K H ad ((key j).map V.int):=λj=>by
  cases e:vs[j]? with
  | none=>exact⟨0,λv h=>by cases h⟩
  | some v =>
   obtain⟨ad,h1,h2⟩:=hk j v e;exact⟨ad,λv' h=>by cases h;exact⟨h1,h2⟩⟩
 obtain⟨ad,had⟩:∃ad:Nat->wf,∀j v,vs[j]? = some v->v=.ref (ad j)/\aR X.K H (ad j) ((key j).map V.int):=⟨λj=>(hx j).choose,λj=>(hx j).choose_spec⟩;have hg:∀j,j<its.length->∃v,vs[j]? = some v:=λj hj=>⟨vs[j]'(by omega),wc _⟩
 refine TB.Sa (knd:=intKind X.prog X.w) (U:=λa k=>aR X.K H a (k.map V.int)) TH (key:=key) (ad:=ad) (I.ok.hd hc) hu (let ⟨o,e,hc,n,hd⟩:=pl;⟨o,e,hc,n,hd⟩) (λj v hv=>?_) (λj hj=>?_) (by omega) (λj hj=>?_) λg tk ks hS hm kp=>?_
 ·obtain⟨v',hv'⟩:=hg j (by rcases wB j its.length with h | h;exact h;rw[wL h]at hv;cases hv)
  obtain⟨rfl,_⟩:=had j v' hv';have:=sE r' hv';rw[hv]at this;exact wQ this
 ·obtain⟨v',hv'⟩:=hg j hj
  exact I.key (had j v' hv').2
 ·obtain⟨v',hv'⟩:=hg j hj
  exact(had j v' hv').2
 ·obtain⟨o,es,ep,t,e1,e2,e3,e4,e5,e6,e7,e8,e9,e10⟩:=hS
  obtain⟨f1,f2⟩:=e9
  have kl:ks.length<=999:=vV (mZ e10 (l:=(wq its.length).map key) λx hx=>by
   obtain⟨j,h1,h2⟩:=(hm x).mp hx;exact wW.mpr ⟨j,wG.mpr h1,h2⟩) (by rw[wm,vk];omega)
  have hz':es.size=ks.length:=by rw[<- f1,wJ]
  have hr:∀e∈es.toList,∃a,e.2=.ref a:=λe he=>by
   obtain⟨i,hi⟩:=xU.mp he;obtain⟨k,hk'⟩:∃k,ks[i]? = some k:=⟨_,wc (by rw[<- f1];exact(WE.mp hi).1)⟩;obtain⟨a,h1,_⟩:=f2 i e k hi hk';exact⟨a,h1⟩
  refine⟨.ref s.heap.objs.size,_,I.laid (t':=tk) kp (wo _) (show di X.prog X.w _ _ _ (lG X.w s.heap.objs.size (es.toList.map λe=>yR e.2))from⟨⟨es,ep,t,⟨⟨o,e1,e2,e3⟩,?_,?_,e4.iQ,e8,e7,by omega⟩,?_⟩,⟨o,e1⟩,?_⟩),rfl,
   q _ _ ks (I.aG.fresh (wo _)) (by rw[wm];exact f1) (λi v k hv hk'=>?_) e10 λx=>by rw[hlen];exact hm x⟩
  ·have:=e4.fits
   rwa[wm,wJ]at this
  ·rw[e4.size,wm,wJ]
  ·exact zo2 _ hr
  ·rintro h1 h2 ⟨es',ep',t',a1,a2⟩ hh
   exact⟨es',ep',t',a1.same hh,a2⟩
  ·rw[wx]at hv
   cases e:es.toList[i]? with
   | none=>rw[e]at hv;cases hv
   | some x =>
    rw[e]at hv;cases hv;obtain⟨a,h1,_,_,h2⟩:=f2 i x k e hk';exact⟨a,by show yR x.2=_;rw[h1];rfl,h2⟩
section
variable{K:wb}{w:wI}{H H':Hp}{Q:VK}{v:V}{p l:wf}{xs ys:List Rat}{us ws:List V}
theorem IG(h:Is K H v (TN xs))(hn:xs.length<=999)(q:∀(l:wf)(H':Hp)(ws:List V)(ys:List Rat),H l=none->ah H H'->H' l=some (lG w l ws)->ak K H' ws (ys.map N)->ys.Nodup->(∀y,y∈ys ↔ y∈xs)->Q (.ref l) H'):rL K w [v] H Q:=by
 obtain⟨p,vs,rfl,hs,t⟩:=bM.mp h;have hl:=t.length;rw[wm]at hl;refine⟨p,vs,λj=>[(xs.getD j 0).num,((xs.getD j 0).den:Int)],rfl,hs,by omega,λj v hv=>L6.mp (df t hv).2,λl ws ks h1 h2 h3 h4 h5=>?_⟩
 obtain⟨ys,rfl⟩:=Nw ks λk hk=>by
  obtain⟨j,_,e⟩:=(h5 k).mp hk;exact⟨_,e.symm⟩
 have S:ah H (upd H l (lG w l ws)):=ah.upd h1;rw[wm]at h2;refine q l _ ws ys h1 S cE (PB h2 λi v r hv hr=>(L6.mpr (h3 i v _ hv (by rw[wx,hr];rfl))).by S) ?_ λy=>?_
 ·unfold List.Nodup at h4 ⊢
  rw[qm]at h4;exact h4.imp λ{a b} h e=>h (by rw[e])
 ·have:=h5 [y.num,(y.den:Int)]
  constructor
  ·intro hy
   obtain⟨j,hj,e⟩:=this.mp (wW.mpr ⟨y,hy,rfl⟩);rw[<- JT e];exact getD_mem (by omega)
  ·intro hy
   obtain⟨j,hj,e⟩:=wX hy;obtain⟨r,hr,er⟩:=wW.mp (this.mpr ⟨j,by omega,by show [(xs.getD j 0).num,((xs.getD j 0).den:Int)]=_;rw[wa,wc hj,Qp,e]⟩);rw[<- JT er];exact hr
end
end L2
namespace GM
def LS(c:Int)(u:List Int):Nat->Int->Int
 | 0,p=>p
 | k+1,p=>if c<=p then p else LS c u k (p+u.getD p.toNat 0)
def UC(n:Nat)(t:List Int):Prop:=∃a b d:Nat,t=[(a:Int),(b:Int),(d:Int)]/\a<n/\b<n/\a≠b/\d<=4
structure zC7(rs:List Int)(us ts:List (List Int)):Prop where
 n1:1<=rs.length
 n8:rs.length<=8
 r:∀r∈rs,1<=r/\r<=60
 ul:us.length=rs.length
 u:∀i,i<rs.length->((us.getD i []).length:Int)=rs.getD i 0 /\ ∀x∈us.getD i [],0<=x/\x<=60
 tl:ts.length<=60
 t:∀t∈ts,UC rs.length t
 nd:ts.Nodup
def zC3(g:List Nat)(w d:Nat)(t:List Int):Bool:=decide ((t.getD 0 0).toNat∈g)&&(decide (t.getD 1 0=(w:Int))&&decide (t.getD 2 0=(d:Int)))
def zC2(ts:List (List Int))(g:List Nat)(w d:Nat):Nat:=(ts.filter (zC3 g w d)).length
section
variable(rs:List Int)(us ts:List (List Int))(ps cs:List Int)
def UB(g:List Nat)(w:Nat):Int:=LS (rs.getD w 0) (us.getD w []) ((cs.getD w 0).toNat+zC2 ts g w 0) (ps.getD w 0+1)
def fresh(g:List Nat):List Nat:=(wq rs.length).filter λw=>!decide (w∈g)&&decide (rs.getD w 0<=UB rs us ts ps cs g w)
def DX:Nat->List Nat->List (List Nat)
 | 0,_=>[]
 | f+1,g=>if fresh rs us ts ps cs g=[]then []else fresh rs us ts ps cs g::DX f (g++fresh rs us ts ps cs g)
def CG:Nat->List Nat->List Nat
 | 0,g=>g
 | f+1,g=>if fresh rs us ts ps cs g=[]then g else CG f (g++fresh rs us ts ps cs g)
end
section
variable{rs:List Int}{us ts:List (List Int)}{ps cs:List Int}
structure SR(n:Nat)(g:List Nat):Prop where
 nd:g.Nodup
 lt:∀w∈g,w<n
end
section
variable(rs:List Int)(us ts:List (List Int))(ps cs:List Int)
structure Run(f:Nat)(g:List Nat)(acc:List (List Nat)):Prop where
 go:SR rs.length g
 fl:rs.length<f+g.length
 ws:acc++DX rs us ts ps cs f g=DX rs us ts ps cs 9 []
 ge:CG rs us ts ps cs f g=CG rs us ts ps cs 9 []
end
section
variable{rs:List Int}{us ts:List (List Int)}{ps cs:List Int}{f:Nat}{g:List Nat}{acc:List (List Nat)}
end
section
variable(rs:List Int)(us ts:List (List Int))(ps:List Int)(cm:List (List Int))
end
structure zDe(rs:List Int)(ps:List Int)(cm:List (List Int)):Prop where
 pl:ps.length=rs.length
 p:∀i,i<rs.length->0<=ps.getD i 0/\ps.getD i 0<rs.getD i 0
 cl:cm.length=4
 c:∀d,d<4->(cm.getD d []).length=rs.length /\ ∀i,i<rs.length->0<=(cm.getD d []).getD i 0/\(cm.getD d []).getD i 0<=240-60*(d:Int)
section
variable{rs:List Int}{us ts:List (List Int)}{ps:List Int}{cm:List (List Int)}
end
end GM
namespace L2
open PySem PySem.Spec PyProof.Rows GM
section
variable{K:wb}{H H':Hp}{Q:VK}{v:V}{rs ps:List Int}{us ts cm rows:List (List Int)}{m:Int}{ws:List (List Nat)}
end
theorem Yv{i:Nat}{te:TE}{ti:oF}{D:cj}{σ : L2.St}{H:Hp}(h:∃x,σ[i]? = some (some x)/\te σ H λy H1=>ti x y H1 λz H2=>D.nx (σ.set i (some z)) H2):OT i te ti D σ H:=h
theorem zy9{v:V}{P:V->Prop}{o:Option (Option V)}(h:o=some (some v))(q:P v):∃x,o=some (some x)/\P x:=⟨v,h,q⟩
theorem Yd{f:Int->Int->Int}{m n:Int}{H:Hp}{Q:VK}(q:Q (.int (f m n)) H):Jf f (.int m) (.int n) H Q:=⟨m,n,rfl,rfl,q⟩
end L2
namespace TB
open PySem PySem.W PyProof.Rows
inductive dP{α β : Type}(R : α -> β -> Prop):List α -> List β -> Prop
 | nil:dP R [] []
 | cons {a : α} {b : β} {l:List α} {m:List β} : R a b->dP R l m->dP R (a::l) (b::m)
structure HV(prog:wH)(w:wI)(K:Type)[DecidableEq K] where
 is:wF->K->we->Prop
 hash:K->Int
 draws:K->Nat
 deep:Nat
 inj:∀{h:wF}{v:we}{x y:K},is h x v->is h y v->x=y
 keeps:∀{h h':wF}{k:K}{v:we}{d:wf}{o:Obj}{es ep},is h k v->h.get? d=some o->o.data=.dict es ep->vi d h h'->is h' k v
 pyHash:∀{A:wY}{E:we->wl->Prop}{s:wl}{k:K}{v:we}{Q:Int->wl->Prop},A.units+deep<Wz->is s.heap k v->Q (hash k) {s with toks:=s.toks+draws k}->wt (model prog w) A (PySem.pyHash v) Q E s
 eqBool:∀{A:wY}{E:we->wl->Prop}{s:wl}{x y:K}{u v:we}{Q:Bool->wl->Prop},A.units+deep<Wz->is s.heap x u->is s.heap y v->Q (decide (x=y)) s->wt (model prog w) A (PySem.eqBool u v) Q E s
 quiet:∀{A:wY}{E:we->wl->Prop}{s:wl}{k:K}{v:we}{Q:Bool->wl->Prop}(n:Nat),deep<=n->is s.heap k v->Q true s->wt (model prog w) A (eqIsQuiet n v) Q E s
section
variable{prog:wH}{w:wI}{A:wY}{E:we->wl->Prop}{s:wl}
theorem MP{a:wf}{o:Obj}{items:Array we}{n:Nat}{hs:List (Int × Nat)}{Q:Int->wl->Prop}(hu:A.units<Wz)(ho:s.heap.get? a=some o)(hc:o.cls=.type "tuple")(hd:o.data=.seq items n)
  (hi:dP (λv (x:Int × Nat)=>∀(E:we->wl->Prop)(Q:Int->wl->Prop)(s':wl),s'.heap=s.heap->Q x.1 {s' with toks:=s'.toks+x.2}->wt (model prog w) A.in1 (pyHash v) Q E s') items.toList hs)
  (h:Q (reduceHash (vT (hs.map (·.1)))) {s with toks:=s.toks+((hs.map (·.2)).sum+1)}) :
  wt (model prog w) A (pyHash (.ref a)) Q E s:=by
 have hT:s.TypeIs (.ref a) "tuple":=⟨o,ho,hc⟩;unfold pyHash
 first | unfold pyHashByItsType | skip
 first | refine wg (wpAny_cRoomFor_or (.inr hu) ?_) | skip
 refine wg (qP hT qo.lookup ?_)
 show wt _ _ (if(some (Value.builtin "tuple.__hash__") == some Value.none)=true then _ else _) Q E s
 rw[if_neg (by rw[beq_builtin_none];exact vC)];refine wg (qP hT qo.lookup ?_)
 show wt _ _ (callSpecialIfBoundUnlessNone? (.ref a) "__hash__" _ >>= _) Q E s
 refine wg (wpAny_callSpecialIfBoundUnlessNone?_slot hT qo (vZ qo hT F.entry_tuple_hash ?_ (F.args_tuple_hash_1 _)))
 show wt _ _ (QW (.ref a) >>= _) _ _ s
 refine wg (wpAny_tupleItemsOf ho hd ?_);refine wg ?_;rw[<- Vt]
 refine V8 _
  (λcH (b:Array Int) s'=>∃done left,hs=done++left/\dP (λv (x:Int × Nat)=>∀(E:we->wl->Prop)(Q:Int->wl->Prop)(s':wl),s'.heap=s.heap->Q x.1 {s' with toks:=s'.toks+x.2}->wt (model prog w) A.in1 (pyHash v) Q E s') cH left/\b.toList=done.map (·.1)/\s' = {s with toks:=s.toks+(done.map (·.2)).sum})
  _ ?_ ?_ _ _ ⟨[],hs,rfl,hi,rfl,rfl⟩
 ·rintro x cH b s' ⟨done,left,rfl,hl,hb,rfl⟩
  cases hl with
  | @cons _ k _ ks' h1 hl' =>
   refine wg (h1 _ _ _ rfl ?_)
   first
    | exact wp ⟨done++[k],ks',by simp,hl',by simp[hb],by simp[VB]⟩
    | exact wg (wp (wp ⟨done++[k],ks',by simp,hl',by simp[hb],by simp[VB]⟩))
 ·rintro b s' ⟨done,left,rfl,hl,hb,rfl⟩
  cases hl;rw[We]at h
  show wt _ _ (retInt (vT b.toList)) _ _ _
  rw[hb];refine wpAny_ret_mkInt ?_
  show wt _ _ (if(decide (-(2:Int)^63<=vT (done.map (·.1)))&&decide (vT (done.map (·.1))<2^63))=true then _ else _) Q E _
  unfold reduceHash at h
  by_cases hr:(decide (-(2:Int)^63<=vT (done.map (·.1)))&&decide (vT (done.map (·.1))<2^63))=true
  ·rw[if_pos hr]
   rw[if_pos hr]at h;exact wp (by simpa [VB] using h)
  ·rw[if_neg hr]
   rw[if_neg hr]at h;exact wg (wpAny_rule (wp (by simpa [VB] using h)))
theorem zBz{a b:wf}{oa ob:Obj}{xs ys:Array we}{na nb:Nat}{bs:List Bool}{P:PySem.Fin->wl->Prop}(hoa:s.heap.get? a=some oa)(hda:oa.data=.seq xs na)(hob:s.heap.get? b=some ob)(hcb:ob.cls=.type "tuple")(hdb:ob.data=.seq ys nb)
  (hi:dP (λ(p:we × we)(c:Bool)=>∀(E:we->wl->Prop)(Q:Bool->wl->Prop),Q c s->wt (model prog w) A (eqBool p.1 p.2) Q E s) (xs.toList.zip ys.toList) bs)
  (h:P (.done (.ret (.bool (bs.all id&&xs.size == ys.size)))) s) :
  wt (model prog w) A (Builtin.«tuple.__eq__» ⟨[.ref a,.ref b],[]⟩) P E s:=by
 have hTb:s.TypeIs (.ref b) "tuple":=⟨ob,hob,hcb⟩
 show wt _ _ (isInstance (.ref b) (.type "tuple") >>= _) _ _ s
 refine wg (Vm hTb isSubtype_tuple_tuple ?_);simp only[Wr,w6,if_false];refine wg (wpAny_tupleItemsOf hoa hda ?_);refine wg (wpAny_tupleItemsOf hob hdb ?_);refine wg ?_
 refine V8 _
  (λcH r s'=>r.1=none/\s'=s /\ ∃cs,dP (λ(p:we × we)(c:Bool)=>∀(E:we->wl->Prop)(Q:Bool->wl->Prop),Q c s->wt (model prog w) A (eqBool p.1 p.2) Q E s) cH cs/\bs.all id=cs.all id)
  _ ?_ ?_ _ _ ⟨rfl,rfl,bs,hi,rfl⟩
 ·rintro ⟨u,v⟩ cH r s' ⟨hr,rfl,cs,hcs,hall⟩
  cases hcs with
  | @cons _ c _ cs' h1 h2 =>
   refine wg (h1 _ _ ?_);cases c with
   | true =>
    simp only[Wr,w6,if_false];exact wp ⟨rfl,rfl,cs',h2,by rw[hall];simp⟩
   | false =>
    simp only[QE,if_true];have hf:bs.all id=false:=by rw[hall];simp
    rw[hf,W1]at h;exact wg (wp (wp (wp h)))
 ·rintro ⟨r1,r2⟩ s' ⟨hr,rfl,cs,hcs,hall⟩
  simp only at hr;subst hr;refine wp ?_;cases hcs;rw[hall]at h;have h':P (.done (.ret (.bool (xs.size == ys.size)))) s':=by simpa using h
  exact h'
theorem Kg{a:wf}{o:Obj}{items:Array we}{n m:Nat}{Q:Bool->wl->Prop}(ho:s.heap.get? a=some o)(hc:o.cls=.type "tuple")(hd:o.data=.seq items n)
  (hi:∀v∈items.toList,∀(E:we->wl->Prop)(Q:Bool->wl->Prop),Q true s->wt (model prog w) A (eqIsQuiet m v) Q E s) (h:Q true s):wt (model prog w) A (eqIsQuiet (m+1) (.ref a)) Q E s:=by
 have hT:s.TypeIs (.ref a) "tuple":=⟨o,ho,hc⟩;unfold eqIsQuiet;refine wg (qP hT xz.lookup ?_)
 show wt _ _ (isInstance (.ref a) (.type "tuple") >>= _) _ _ s
 refine wg (Vm hT isSubtype_tuple_tuple ?_);simp only[Wr,w6,if_false];refine wg (Wd ho hd ?_);refine wg ?_
 show wt _ _ (forIn items _ _) _ _ s
 rw[<- Vt];refine V8 _ (λcH r s'=>r.1=none/\s'=s /\ ∀v∈cH,v∈items.toList) _ ?_ ?_ _ _ ⟨rfl,rfl,λ_ h=>h⟩
 ·rintro v cH r s' ⟨hr,rfl,hall⟩
  refine wg (hi v (hall v wC) _ _ ?_);simp only[Wr,w6,if_false];exact wp ⟨rfl,rfl,λu hu'=>hall u (wy _ hu')⟩
 ·rintro ⟨r1,r2⟩ s' ⟨hr,rfl,_⟩
  simp only at hr;subst hr;exact wp h
theorem M8{a b:wf}{oa ob:Obj}{xs ys:Array we}{na nb:Nat}{bs:List Bool}{Q:Bool->wl->Prop}(hu:A.units<Wz)(hoa:s.heap.get? a=some oa)(hca:oa.cls=.type "tuple")(hda:oa.data=.seq xs na)(hob:s.heap.get? b=some ob)(hcb:ob.cls=.type "tuple")(hdb:ob.data=.seq ys nb)
  (he:a=b->(bs.all id&&xs.size == ys.size)=true)
  (hi:dP (λ(p:we × we)(c:Bool)=>∀(E:we->wl->Prop)(Q:Bool->wl->Prop),Q c s->wt (model prog w) A.in1 (eqBool p.1 p.2) Q E s) (xs.toList.zip ys.toList) bs)
  (h:Q (bs.all id&&xs.size == ys.size) s):wt (model prog w) A (eqBool (.ref a) (.ref b)) Q E s:=by
 unfold eqBool
 try with_reducible refine Wg ?_
 show wt _ _ (if(Value.ref a == Value.ref b)=true then _ else _) Q E s
 by_cases hab:(Value.ref a == Value.ref b)=true
 ·rw[if_pos hab]
  have e:a=b:=by have:=eq_of_beq hab;injection this
  rw[he e]at h;exact wg (wpAny_rule (wp h))
 ·rw[if_neg hab]
  have ta:s.TypeIs (.ref a) "tuple":=⟨oa,hoa,hca⟩;have tb:s.TypeIs (.ref b) "tuple":=⟨ob,hob,hcb⟩
  exact wg (wpAny_richCompare_same_room (op:=.Eq) ta tb xz
   (vZ xz ta F.entry_tuple_eq (zBz hoa hda hob hcb hdb hi ⟨_,rfl,(λe=>nomatch e),Wq h⟩) (F.args_tuple_eq_2 _ _)) hu)
end
def jZ(R:List we->Prop)(h:wF)(v:we):Prop:=∃a o items n,v=.ref a/\h.get? a=some o/\o.cls=.type "tuple"/\o.data=.seq items n/\R items.toList
theorem jZ.inj{R S:List we->Prop}{h:wF}{v:we}(x:jZ R h v)(y:jZ S h v):∃l,R l/\S l:=by
 obtain⟨a,o,items,n,rfl,ho,_,hd,hi⟩:=x;obtain⟨a',o',items',n',e,ho',_,hd',hi'⟩:=y;cases e;obtain rfl:o=o':=wQ (ho.symm.trans ho');rw[hd]at hd'
 injection hd' with h1 _
 subst h1;exact⟨_,hi,hi'⟩
theorem jZ.keeps{R S:List we->Prop}{h h':wF}{v:we}{d:wf}{o:Obj}{es ep}(x:jZ R h v)(ho:h.get? d=some o)(hd:o.data=.dict es ep)(hs:vi d h h')(r:∀l,R l->S l):jZ S h' v:=by
 obtain⟨a,o',items,n,rfl,ho',hc,hd',hi⟩:=x
 have hne:a≠d:=by
  rintro rfl;obtain rfl:o'=o:=wQ (ho'.symm.trans ho);rw[hd]at hd';exact nomatch hd'
 exact⟨a,o',items,n,rfl,(hs.2 a hne).trans ho',hc,hd',r _ hi⟩
def fk(prog:wH)(w:wI):HV prog w Int where
 is:=λ_ k v=>∃t,v=.int k t
 hash:=hashInt
 draws:=λ_=>1
 deep:=0
 inj:=λ⟨t,e⟩ ⟨u,f⟩=>by subst e;injection f
 keeps:=λh _ _ _=>h
 pyHash:=λ_ ⟨t,e⟩ h=>by subst e;exact wpAny_pyHash_int h
 eqBool:=λ_ ⟨t,e⟩ ⟨u,f⟩ h=>by subst e f;exact wpAny_eqBool_int h
 quiet:=λn _ ⟨t,e⟩ h=>by subst e;rw[eqIsQuiet_byValue n rfl];exact wp h
section
variable{prog:wH}{w:wI}{K:Type}[DecidableEq K](e:HV prog w K)
theorem Ku{A:wY}{s:wl}(hu:A.in1.units+e.deep<Wz):∀{ks:List K}{vs:List we},dP (e.is s.heap) ks vs ->
  dP (λv (x:Int × Nat)=>∀(E:we->wl->Prop)(Q:Int->wl->Prop)(s':wl),s'.heap=s.heap->Q x.1 {s' with toks:=s'.toks+x.2}->wt (model prog w) A.in1 (pyHash v) Q E s') vs (ks.map λk=>(e.hash k,e.draws k))
 | _,_,.nil=>.nil
 | _,_,.cons h t=>.cons (λE Q s' he q=>e.pyHash hu (he ▸ h) q) (Ku hu t)
theorem Pe{A:wY}{s:wl}(hu:A.in1.units+e.deep<Wz):∀{ks js:List K}{us vs:List we},dP (e.is s.heap) ks us->dP (e.is s.heap) js vs ->
  ∃bs,dP (λ(p:we × we)(c:Bool)=>∀(E:we->wl->Prop)(Q:Bool->wl->Prop),Q c s->wt (model prog w) A.in1 (eqBool p.1 p.2) Q E s) (us.zip vs) bs/\(bs.all id&&us.length == vs.length)=decide (ks=js)
 | _,_,_,_,.nil,.nil=>⟨[],.nil,by simp⟩
 | _,_,_,_,.nil,.cons _ _=>⟨[],.nil,by simp⟩
 | _,_,_,_,.cons _ _,.nil=>⟨[],.nil,by simp⟩
 | k::ks,j::js,_,_,.cons h t,.cons h' t'=>by
  obtain⟨bs,b1,b2⟩:=Pe hu t t';refine⟨decide (k=j)::bs,.cons (λE Q q=>e.eqBool hu h h' q) b1,?_⟩;rw[Xh,Bool.and_assoc,vo,vo,show ∀a b:Nat,(a+1 == b+1)=(a == b)from λa b=>by simp,b2]
  by_cases h1:k=j<;>by_cases h2:ks=js<;>simp[h1,h2]
theorem B8{h:wF} : ∀{ks js:List K}{vs:List we},dP (e.is h) ks vs->dP (e.is h) js vs->ks=js
 | _,_,_,.nil,.nil=>rfl
 | _,_,_,.cons h t,.cons h' t'=>by rw[e.inj h h',B8 t t']
theorem Po{α β : Type}{R S : α -> β -> Prop}(f:∀a b,R a b->S a b):∀{l:List α}{m:List β},dP R l m->dP S l m
 | _,_,.nil=>.nil
 | _,_,.cons h t=>.cons (f _ _ h) (Po f t)
theorem Ld{α β : Type}{R : α -> β -> Prop} : ∀{l:List α}{m:List β},dP R l m->∀y∈m,∃x,R x y
 | _,_,.nil,y,hy=>by cases hy
 | _,_,.cons h t,y,hy=>by
  rcases wK.mp hy with rfl | hy
  ·exact⟨_,h⟩
  ·exact Ld t y hy
def fA:HV prog w (List K) where
 is:=λh ks v=>jZ (dP (e.is h) ks) h v
 hash:=λks=>reduceHash (vT ((ks.map λk=>(e.hash k,e.draws k)).map (·.1)))
 draws:=λks=>((ks.map λk=>(e.hash k,e.draws k)).map (·.2)).sum+1
 deep:=e.deep+1
 inj:=λx y=>by
  obtain⟨l,h1,h2⟩:=x.inj y;exact B8 e h1 h2
 keeps:=λx ho hd hs=>x.keeps ho hd hs λl h=>Po (λa b r=>e.keeps r ho hd hs) h
 pyHash:=λ{A E s k v Q} hu x h=>by
  obtain⟨a,o,items,n,rfl,ho,hc,hd,hi⟩:=x;exact MP (by omega) ho hc hd (Ku e (show A.units+1+e.deep<Wz by omega) hi) h
 eqBool:=λ{A E s x y u v Q} hu hx hy h=>by
  have hj:u=v->x=y:=λev=>by
   subst ev;obtain⟨l,h1,h2⟩:=hx.inj hy;exact B8 e h1 h2
  obtain⟨a,o,items,n,rfl,ho,hc,hd,hi⟩:=hx;obtain⟨a',o',items',n',rfl,ho',hc',hd',hi'⟩:=hy;obtain⟨bs,b1,b2⟩:=Pe e (A:=A) (show A.units+1+e.deep<Wz by omega) hi hi';have b3:(bs.all id&&items.size == items'.size)=decide (x=y):=by rw[<- b2];rfl
  refine M8 (by omega) ho hc hd ho' hc' hd' (λea=>?_) b1 (by rw[b3];exact h);rw[b3];exact decide_eq_true (hj (by rw[ea]))
 quiet:=λ{A E s k v Q} n hn x h=>by
  obtain⟨a,o,items,m,rfl,ho,hc,hd,hi⟩:=x;obtain⟨j,rfl⟩:∃j,n=j+1:=⟨n-1,by omega⟩
  exact Kg ho hc hd (λu hu E Q q=>by
   obtain⟨x,hx⟩:=Ld hi u hu;exact e.quiet j (by omega) hx q) h
end
section
variable{prog:wH}{w:wI}{J K:Type}[DecidableEq J][DecidableEq K](d:HV prog w J)(e:HV prog w K)
def Two(h:wF)(k:J × K)(l:List we):Prop:=∃u v,l=[u,v]/\d.is h k.1 u/\e.is h k.2 v
def Pt:HV prog w (J × K) where
 is:=λh k v=>jZ (Two d e h k) h v
 hash:=λk=>reduceHash (vT ([(d.hash k.1,d.draws k.1),(e.hash k.2,e.draws k.2)].map (·.1)))
 draws:=λk=>([(d.hash k.1,d.draws k.1),(e.hash k.2,e.draws k.2)].map (·.2)).sum+1
 deep:=max d.deep e.deep+1
 inj:=λ{h v x y} hx hy=>by
  obtain⟨l,⟨u,v,rfl,h1,h2⟩,u',v',e',h3,h4⟩:=hx.inj hy;cases e';exact Qo (d.inj h1 h3) (e.inj h2 h4)
 keeps:=λx ho hd hs=>x.keeps ho hd hs λl ⟨u,v,r,h1,h2⟩=>⟨u,v,r,d.keeps h1 ho hd hs,e.keeps h2 ho hd hs⟩
 pyHash:=λ{A E s k v Q} hu x h=>by
  obtain⟨a,o,items,n,rfl,ho,hc,hd,u,v,hl,h1,h2⟩:=x
  exact MP (by omega) ho hc hd (by
   rw[hl];exact .cons (λE Q s' he q=>d.pyHash (show A.units+1+d.deep<Wz by omega) (he ▸ h1) q) (.cons (λE Q s' he q=>e.pyHash (show A.units+1+e.deep<Wz by omega) (he ▸ h2) q) .nil)) h
 eqBool:=λ{A E s x y u v Q} hu hx hy h=>by
  have hj:u=v->x=y:=λev=>by
   subst ev;obtain⟨l,⟨u,v,rfl,h1,h2⟩,u',v',e',h3,h4⟩:=hx.inj hy;cases e';exact Qo (d.inj h1 h3) (e.inj h2 h4)
  obtain⟨a,o,items,n,rfl,ho,hc,hd,u,v,hl,h1,h2⟩:=hx;obtain⟨a',o',items',n',rfl,ho',hc',hd',u',v',hl',h1',h2'⟩:=hy
  have b3:([decide (x.1=y.1),decide (x.2=y.2)].all id&&items.size == items'.size)=decide (x=y):=by
   rw[<- wJ,<- wJ,hl,hl'];obtain⟨x1,x2⟩:=x;obtain⟨y1,y2⟩:=y
   by_cases h1:x1=y1<;>by_cases h2:x2=y2<;>simp[h1,h2]
  refine M8 (bs:=[decide (x.1=y.1),decide (x.2=y.2)]) (by omega) ho hc hd ho' hc' hd' (λea=>?_) ?_ (by rw[b3];exact h)
  ·rw[b3]
   exact decide_eq_true (hj (by rw[ea]))
  ·rw[hl,hl']
   exact .cons (λE Q q=>d.eqBool (show A.units+1+d.deep<Wz by omega) h1 h1' q) (.cons (λE Q q=>e.eqBool (show A.units+1+e.deep<Wz by omega) h2 h2' q) .nil)
 quiet:=λ{A E s k v Q} n hn x h=>by
  obtain⟨a,o,items,m,rfl,ho,hc,hd,u,v,hl,h1,h2⟩:=x;obtain⟨j,rfl⟩:∃j,n=j+1:=⟨n-1,by omega⟩
  exact Kg ho hc hd (λu hu E Q q=>by
   rw[hl]at hu;rcases wK.mp hu with rfl | hu
   ·exact d.quiet j (by omega) h1 q
   ·rw[vc]at hu
    subst hu;exact e.quiet j (by omega) h2 q) h
end
abbrev SK:=List Int × List (List Int)
def jB(prog:wH)(w:wI):HV prog w SK:=Pt (fA (fk prog w)) (fA (fA (fk prog w)))
def zAX(prog:wH)(w:wI):HeapKind prog w SK where
 is:=λh k a=>(jB prog w).is h k (.ref a)
 hash:=(jB prog w).hash
 draws:=(jB prog w).draws
 room:=λA=>A.units+3<Wz
 inj:=λx y=>(jB prog w).inj x y
 keeps:=λx ho hd hs=>(jB prog w).keeps x ho hd hs
 pyHash:=λhu hk h=>(jB prog w).pyHash hu hk h
 eqBool:=λhu hx hy h=>(jB prog w).eqBool hu hx hy h
 quiet:=λhk h=>(jB prog w).quiet 8 (by show 3<=8;decide) hk h
end TB
namespace L2
open PySem PySem.Spec PyProof.Rows GM
open TB (SK zAX jB fA fk Pt dP)
theorem RM{P:wH}{w:wI}{h:wF} : ∀{us:List we}{ns:List Int},IntsAre us ns->dP ((fk P w).is h) ns us
 | _,_,.nil=>.nil
 | _,_,.cons n t r=>.cons ⟨t,rfl⟩ (RM r)
section
variable{X:Cx}{pins:List (wf × Obj)}{σ : St}{H:Hp}{s:wl}
theorem Inv.SD(I:Inv X pins σ H s){v:V}{u:we}{k:List Int}(h:Is X.K H v (TZ k))(r:aW v u):(fA (fk X.prog X.w)).is s.heap k u:=by
 obtain⟨q,rfl,hs⟩:=nZ.mp h;obtain⟨its,r',⟨o,e,hc,n,hd⟩,_⟩:=I.tuple hs;cases (show u=Value.ref q from r);exact⟨q,o,its.toArray,n,rfl,e,hc,hd,RM (yG r')⟩
end
def zB4(l:List (Int × Nat)):Int:=reduceHash (vT (l.map (·.1)))
def zBS(ks:List Int):Int:=zB4 (ks.map λk=>(hashInt k,1))
section
variable{X:Cx}{pins:List (wf × Obj)}{σ : St}{H:Hp}{s:wl}{a b:wf}{xs:List (SK × wf × Int)}{ps:List Int}{cm:List (List Int)}{A:wY}{E:we->wl->Prop}
end
section
variable{X:Cx}{pos pos':Pos}{i o value:Expr}{ty td tv:TE}
end
section
variable{K:wb}{H H':Hp}{Q:VK}{D:cj}{σ : St}{td ty tv:TE}{a b:wf}{xs:List (SK × wf × Int)}{ps:List Int}{cm:List (List Int)}{n:Int}
end
section
variable{X:Cx}{N':List Str}{scope:Scope}{cl:List (Str × wf)}{src:List (Option Nat)}{elt tgt iter:Expr}{ifs:List Expr}{pos:Pos}{wi:TI}{g:TG}{tt:TT}{te:TE}
end
end L2
namespace TB
open PySem PySem.Spec PyProof.Rows
def dj(prog:wH)(w:wI):HeapKind prog w (List Int) where
 is:=λh k a=>(fA (fk prog w)).is h k (.ref a)
 hash:=(fA (fk prog w)).hash
 draws:=(fA (fk prog w)).draws
 room:=λA=>A.units+1<Wz
 inj:=λx y=>(fA (fk prog w)).inj x y
 keeps:=λx ho hd hs=>(fA (fk prog w)).keeps x ho hd hs
 pyHash:=λhu hk h=>(fA (fk prog w)).pyHash hu hk h
 eqBool:=λhu hx hy h=>(fA (fk prog w)).eqBool hu hx hy h
 quiet:=λhk h=>(fA (fk prog w)).quiet 8 (by show 1<=8;decide) hk h
section
variable{prog:wH}{w:wI}{K:Type}[DecidableEq K]{knd:HeapKind prog w K}{A:wY}{E:we->wl->Prop}{s:wl}
end
end TB
namespace L2
open PySem PySem.Spec PyProof.Rows GM
open TB (dj fA fk)
abbrev NE:=List Int × wf × wf
def pB(x:NE)(e:DictEntry):Prop:=e=⟨zBS x.1,.ref x.2.1,.ref x.2.2⟩
def gP(a:wf)(ep:Nat)(xs:List NE):HO:=.ext λh=>xs.length<=1000/\(a == sysModules)=false/\(xs.map (·.1)).Nodup /\ ∃o es,h.get? a=some o/\o.ExactDict/\o.data=.dict es ep/\Paired pB xs es.toList
def tT(K:wb)(H:Hp)(xs:List NE):Prop:=∀x∈xs,Is K H (.ref x.2.1) (TZ x.1)
def kU(xs:List NE)(k:List Int):Option wf:=(xs.find? λx=>decide (x.1=k)).map (·.2.2)
theorem zyL{P:wH}{w:wI}{H:Hp}{h:wF}{a:wf}{ep:Nat}{xs:List NE}(z:xs.length<=1000)(hd:(a == sysModules)=false)(nd:(xs.map (·.1)).Nodup){o:Obj}{es:Array DictEntry}(ho:h.get? a=some o)(hx:o.ExactDict)(hda:o.data=.dict es ep)(r:Paired pB xs es.toList) :
  di P w H h a (gP a ep xs):=⟨⟨z,hd,nd,o,es,ho,hx,hda,r⟩,⟨o,ho⟩,λh1 h2 ⟨z,hd,nd,o,es,ho,q⟩ k=>⟨z,hd,nd,o,es,k _ ho,q⟩⟩
def hW(xs:List NE):List (List Int × wf × we):=xs.map λx=>(x.1,x.2.1,.ref x.2.2)
theorem Yo{P:wH}{w:wI}{xs:List NE}{es:List DictEntry}(r:Paired pB xs es):es=(hW xs).map (entryOfKey (dj P w)):=by
 induction r with
 | nil=>rfl
 | @cons x e xs es hx r ih =>
  show e::es=_::(hW xs).map (entryOfKey (dj P w))
  rw[<- ih,show e=_ from hx]
  rfl
theorem Kl{P:wH}{w:wI} : ∀xs:List NE,Paired pB xs ((hW xs).map (entryOfKey (dj P w)))
 | []=>.nil
 | x::xs=>.cons rfl (Kl xs)
theorem Tu(xs:List NE)(k:List Int):(atKey (hW xs) k).map (·.2)=(kU xs k).map Value.ref:=by
 induction xs with
 | nil=>rfl
 | cons x xs ih =>
  unfold atKey kU hW at *;rw[w9,uQ,uQ]
  by_cases e:x.1=k
  ·simp[e]
  ·simp only[e,decide_false]
   exact ih
section
variable{X:Cx}{pins:List (wf × Obj)}{σ : St}{H:Hp}{s:wl}{a b q:wf}{ep:Nat}{xs:List NE}{k:List Int}{A:wY}{E:we->wl->Prop}
theorem Inv.nK(I:Inv X pins σ H s)(h:Is X.K H (.ref b) (TZ k)):(dj X.prog X.w).is s.heap k b:=I.SD h rfl
theorem Inv.Ir(I:Inv X pins σ H s)(e:H a=some (gP a ep xs)):xs.length<=1000/\(a == sysModules)=false/\(xs.map (·.1)).Nodup /\ ∃o es,s.heap.get? a=some o/\o.ExactDict/\o.data=.dict es ep/\Paired pB xs es.toList :=
 (show di X.prog X.w H s.heap a (gP a ep xs)from I.aG a _ e).1
end
section
variable{X:Cx}{o e f:Expr}{apos cpos pos:Pos}{td ty tx:TE}{tg:Expr}
end
section
variable{K:wb}{H H':Hp}{Q:VK}{D:cj}{σ : St}{td ty tx te:TE}{g:TG}{tt:TT}{a b q:wf}{ep:Nat}{xs:List NE}{k:List Int}{src:List (Option Nat)}
end
section
variable{X:Cx}{N':List Str}{scope:Scope}{cl:List (Str × wf)}{src:List (Option Nat)}{elt tgt iter:Expr}{ifs:List Expr}{pos:Pos}{wi:TI}{g:TG}{tt:TT}{te:TE}
end
end L2
namespace TB
open PySem PySem.W PyProof.Rows
theorem JF:entryFor table "dict.update.loop"=some Builtin.«dict.update.loop»:=entryFor_of_tree (by kernel_rfl)
theorem Ai:plainId "dict.update.loop"=true:=by decide +kernel
theorem zrY:typeLookup (.type "zip") "keys"=pure none:=am_miss_of_fast (by decide +kernel)
theorem zka:typeLookup (.type "zip") "__getattr__"=pure none:=by rw[typeLookup_type,builtinLookup_eq_fast];kernel_rfl
theorem zgA:entryFor table "zip.__getattribute__"=some Builtin.«object.__getattribute__» :=
 entryFor_alias (id':="object.__getattribute__") (by kernel_rfl) (by decide +kernel) (by decide +kernel) (by kernel_rfl)
theorem zrL(a:wf)(fs:Array we)(sl:Array (Option we))(name:Str)(u:Tok)(hmiss:typeLookup (.type "zip") name=pure none)(hname:(["__module__","__name__","__qualname__","__doc__","__annotations__"]:List Str).contains name=false)(hsz:name.length+100<=wZ:=by size_fits) :
  Meets (Builtin.«object.__getattribute__» ⟨[.ref a,.str name u],[]⟩) (λA R s=>s.heap.get? a=some {cls:=.type "zip",dict:=none,data:=.fields fs,slots:=sl}/\raisesAttr (.ref a) name A R s) :=
 Meets.of_wp λprog w A R s hs=>by
  obtain⟨hp,g,d,tk,os⟩:=s;obtain⟨hx,hs⟩:=hs;have hT:(⟨hp,g,d,tk,os⟩:wl).TypeIs (.ref a) "zip":=⟨_,hx,rfl⟩;unfold Builtin.«object.__getattribute__»
  repeat(any_goals(first | assumption | wp_step))
  simp only[hname,w6,if_false]
  repeat(any_goals(first | assumption | wp_step))
  exact wpAny_raiseAttrError hs.1 hs.2 (attrMsg_fits (by decide +kernel) hsz)
section
variable{prog:wH}{w:wI}{A:wY}{E:we->wl->Prop}{s:wl}
theorem UP{a:wf}{fs:Array we}{sl:Array (Option we)}{Q:Option we->wl->Prop}
  (hx:s.heap.get? a=some {cls:=.type "zip",dict:=none,data:=.fields fs,slots:=sl}) (hA:A.handled=none)
  (q:∀h' tk,(∀b ob,s.heap.get? b=some ob->h'.get? b=some ob)->Q none {s with heap:=h',toks:=tk}) :
  wt (model prog w) A (getAttr? (.ref a) "keys") Q E s:=by
 obtain⟨hp,g,d,tk,os⟩:=s;have hT:∀tk',(⟨hp,g,d,tk',os⟩:wl).TypeIs (.ref a) "zip":=λ_=>⟨_,hx,rfl⟩
 have f1:=sub_AttributeError;have f3:=ql.lookup;have f4:=ql.bind (.ref a);have f5:=zka;unfold getAttr? getAttrBy? getAttrBy
 repeat(any_goals(first | assumption | exact hT _ | ((with_reducible show wt _ _ (call (Value.builtin "zip.__getattribute__") _ _) _ _ _);refine call_meets ql (hT _) zgA (PySem.F.args_zip_getattribute_2 _ _) (zrL a fs sl "keys" _ zrY (by decide +kernel)) ⟨hx,hA,λh' tk' e hx'=>?_⟩) | wp_step))
 obtain⟨t',u',he⟩:=hx'.there
 show wt _ _ (getattributeRaised _ _ _ _ _ _ _) _ _ _
 unfold getattributeRaised
 repeat(any_goals(first | assumption | wp_step))
 exact q _ _ hx'.keeps
theorem Yn{p:wf}{x y:we}(h:Wv s.heap p x y){Q:List we->wl->Prop}(q:Q [x,y] s):wt (model prog w) A (xP (.ref p)) Q E s:=by
 have hT:s.TypeIs (.ref p) "tuple":=⟨_,h,rfl⟩;unfold xP;refine wg (wpAny_typeOf hT ?_);rw[if_pos (by decide)];refine wg (Wd h rfl ?_);exact wp q
abbrev lB(h:wF)(z TI TO p:wf)(f:Bool):Prop :=
 h.get? z=some {cls:=.type "zip",dict:=none,data:=.fields #[VP p,.bool f,.bool false,.ref TI,.ref TO],slots:=#[]}
end
section
variable{prog:wH}{w:wI}{A:wY}{E:we->wl->Prop}{s:wl}{z TI TO i1 i2 p:wf}{f:Bool}{f1 f2:List wf}{n1 n2 k:Nat}{P1 P2:Nat->we->Prop}{S1 S2:Nat->wF->Prop}{a b:we}
theorem RO{op:Obj}{Q:Bool->wl->Prop}(hz:lB s.heap z TI TO p f)(hp:s.heap.get? p=some op)
  (q:∀g,lB g z TI TO p true->vi z s.heap g->Q false {s with heap:=g}):wt (model prog w) A (vF (.ref z)) Q E s:=by
 unfold vF;refine wg (vA hz rfl (x:=VP p) rfl ?_)
 show wt _ _ (loadIfAlive ((p:Int).toNat) >>= _) _ _ _
 rw[wP];refine wg (kdx_alive hp ?_);simp only[Option.isNone_some,w6,if_false];refine wg (vA hz rfl (x:=.bool f) rfl ?_);cases f with
 | true =>
  rw[if_neg (show ¬ ((Value.bool true != Value.bool true)=true)from vC)];exact wp (q _ hz (X0 _ _))
 | false =>
  rw[if_pos (show(Value.bool false != Value.bool true)=true from rfl)];refine wg (W9 hz (by simp) λg hg sb=>?_);exact wp (q g hg sb)
theorem YT{op:Obj}{Q:we->wl->Prop}(D1:Draws prog w A i1 f1 n1 P1 S1)(D2:Draws prog w A i2 f2 n2 P2 S2)(ap:L2.ZA z TI TO i1 i2 f1 f2)(hz:lB s.heap z TI TO p f)(hi:Wv s.heap TI (.ref i1) (.ref i2))(hp:s.heap.get? p=some op)
  (h1:S1 k s.heap) (h2:S2 k s.heap) (l1:k<n1) (l2:k<n2)
  (fin:∀x y h' tk,P1 k x->P2 k y->lB h' z TI TO p true->S1 (k+1) h'->S2 (k+1) h'->Wv h' s.heap.objs.size x y ->
   (∀c o,c≠z->c≠i1->c≠i2->s.heap.get? c=some o->h'.get? c=some o)->Q (.ref s.heap.objs.size) {s with heap:=h',toks:=tk}) :
  wt (model prog w) A (Builtin.«zip.__next__» ⟨[.ref z],[]⟩) (λr s'=>∃v,r=.done (.ret v)/\Q v s') E s:=by
 show wt _ _ (field (.ref z) 2 >>= _) _ _ _;refine wg (vA hz rfl (x:=.bool false) rfl ?_)
 show wt _ _ (field (.ref z) 3 >>= _) _ _ _;refine wg (vA hz rfl (x:=.ref TI) rfl ?_)
 refine wg (Wd hi rfl ?_);show wt _ _ (vF (.ref z) >>= _) _ _ _
 refine wg (RO hz hp λg0 hz0 sb0=>?_);have sb0:vi z s.heap g0:=sb0;simp only[w6,if_false];refine wg ?_;rw[<- Vt];simp only[qM,QJ];have h1a:S1 k g0:=D1.frame _ _ _ h1 λc hc o e=>sb0.extBut c o (λq=>ap.b1 (q ▸ hc)) e
 have h2a:S2 k g0:=D2.frame _ _ _ h2 λc hc o e=>sb0.extBut c o (λq=>ap.b2 (q ▸ hc)) e
 refine wg (wg (Wg ?_))
 show wt _ _ (vH (.ref i1) >>= _) _ _ _
 refine wg (D1.item k _ _ _ l1 h1a λx g1 t1 px h1b sb1=>wp ?_);have sb1:vi i1 g0 g1:=sb1;have h2b:S2 k g1:=D2.frame _ _ _ h2a λc hc o e=>sb1.extBut c o (λq=>ap.b5 (q ▸ hc)) e
 refine wp ?_;refine wg (wg (Wg ?_))
 show wt _ _ (vH (.ref i2) >>= _) _ _ _
 refine wg (D2.item k _ _ _ l2 h2b λy g2 t2 py h2c sb2=>wp ?_);have sb2:vi i2 g1 g2:=sb2;have h1c:S1 (k+1) g2:=D1.frame _ _ _ h1b λc hc o e=>sb2.extBut c o (λq=>ap.b6 (q ▸ hc)) e
 refine wp (wp ?_);refine wg (wpAny_newTuple (hsz:=by show 2<=wZ;rw[qF];decide) ?_);have hsz:g2.objs.size=s.heap.objs.size:=by rw[sb2.1,sb1.1,sb0.1]
 have kept:∀c o,c≠z->c≠i1->c≠i2->s.heap.get? c=some o->g2.get? c=some o:=λc o c1 c3 c4 e=>sb2.extBut _ _ c4 (sb1.extBut _ _ c3 (sb0.extBut _ _ c1 e))
 have zz:lB g2 z TI TO p true:=sb2.extBut _ _ ap.a4.symm (sb1.extBut _ _ ap.a3.symm hz0);refine wp ⟨_,rfl,?_⟩
 show Q (.ref g2.objs.size) _
 have new:Wv (g2.push {cls:=.type "tuple",data:=.seq #[x,y]}) g2.objs.size x y:=wM _ rfl;rw[hsz]at new ⊢;exact fin x y _ _ px py (wn _ zz) (D1.frame _ _ _ h1c λc hc o e=>wn _ e) (D2.frame _ _ _ h2c λc hc o e=>wn _ e) new λc o c1 c3 c4 e=>wn _ (kept c o c1 c3 c4 e)
theorem zCf{op:Obj}{Q:Fin->wl->Prop}(D1:Draws prog w A i1 f1 n1 P1 S1)(ap:L2.ZA z TI TO i1 i2 f1 f2)(hz:lB s.heap z TI TO p f)(hi:Wv s.heap TI (.ref i1) (.ref i2))(hp:s.heap.get? p=some op)(h1:S1 n1 s.heap)
  (fin:∀h' e tk,(∀c o,c≠z->c≠i1->s.heap.get? c=some o->h'.get? c=some o)->(∃o,h'.get? e=some o/\o.cls=.type "StopIteration")->E (.ref e) {s with heap:=h',toks:=tk}) :
  wt (model prog w) A (Builtin.«zip.__next__» ⟨[.ref z],[]⟩) Q E s:=by
 show wt _ _ (field (.ref z) 2 >>= _) _ _ _;refine wg (vA hz rfl (x:=.bool false) rfl ?_)
 show wt _ _ (field (.ref z) 3 >>= _) _ _ _;refine wg (vA hz rfl (x:=.ref TI) rfl ?_)
 refine wg (Wd hi rfl ?_);show wt _ _ (vF (.ref z) >>= _) _ _ _
 refine wg (RO hz hp λg0 hz0 sb0=>?_);have sb0:vi z s.heap g0:=sb0;simp only[w6,if_false];refine wg ?_;rw[<- Vt];simp only[qM,QJ];have h1a:S1 n1 g0:=D1.frame _ _ _ h1 λc hc o e=>sb0.extBut c o (λq=>ap.b1 (q ▸ hc)) e
 refine wg (wg (Wg ?_))
 show wt _ _ (vH (.ref i1) >>= _) _ _ _
 exact wg (D1.done _ _ _ h1a λg1 e sb1 he=>fin g1 e _ (λc o c1 c3 q=>sb1 _ _ c3 (sb0.extBut _ _ c1 q)) he)
end
theorem nG{prog:wH}{w:wI}{h h':wF}{k:List Int}{a:wf}(x:(dj prog w).is h k a)(e:∀o,h.get? a=some o->h'.get? a=some o):(dj prog w).is h' k a:=by
 obtain⟨a',o,items,n,ea,ho,hc,hd,r⟩:=x;cases ea;exact⟨a,o,items,n,rfl,e o ho,hc,hd,r⟩
def jM(base:wf)(h h':wF):Prop:=∀b o,b<base->h.get? b=some o->h'.get? b=some o
theorem jM.trans{base:wf}{h h' h'':wF}(x:jM base h h')(y:jM base h' h''):jM base h h'':=λb o hb e=>y b o hb (x b o hb e)
structure ZB(base z TI TO i1 i2 d a b:wf):Prop where
 ap:L2.ZA z TI TO i1 i2 [i1,a] [i2,b]
 na:a≠i1
 nb:b≠i2
 bz:base<=z
 bO:base<=TO
 b1:base<=i1
 b2:base<=i2
 bd:base<=d
 dz:d≠z
 dI:d≠TI
 dO:d≠TO
 d1:d≠i1
 d2:d≠i2
 la:a<base
 lb:b<base
def kC(z TI TO i1 i2 d a b:wf)(its jts:Array we)(i:Nat)(h:wF):Prop:=Wv h TI (.ref i1) (.ref i2)/\(h.IsTupleIter i1 a i/\h.IsTuple a its)/\(h.IsTupleIter i2 b i/\h.IsTuple b jts) /\
 ((∃x y,IsZip h z TI TO .none/\Wv h TO x y) \/ ∃p f op,lB h z TI TO p f/\h.get? p=some op/\p≠z/\p≠i1/\p≠i2/\p≠d)
section
variable{prog:wH}{w:wI}{A:wY}{E:we->wl->Prop}{s:wl}{base z TI TO i1 i2 d a b:wf}{its jts:Array we}{i:Nat}
theorem iP(hh:A.handled=none)(it l:wf)(hne:l≠it)(items:Array we):Draws prog w A it [it,l] items.size (λi v=>items[i]? = some v) (λi h=>h.IsTupleIter it l i/\h.IsTuple l items):=L2.nF true hh it l hne items
theorem TL(B:ZB base z TI TO i1 i2 d a b)(hh:A.in1.handled=none)(st:kC z TI TO i1 i2 d a b its jts i s.heap)(hd:d<s.heap.objs.size){x y:we}(hx:its[i]? = some x)(hy:jts[i]? = some y){Q:Option we->wl->Prop}
  (q:∀(h':wF) tk,Wv h' s.heap.objs.size x y->kC z TI TO i1 i2 d a b its jts (i+1) h'->(∀c o,c≠z->c≠TO->c≠i1->c≠i2->s.heap.get? c=some o->h'.get? c=some o)->Q (some (.ref s.heap.objs.size)) {s with heap:=h',toks:=tk}) :
  wt (model prog w) A (VO (.ref z)) Q E s:=by
 obtain⟨hi,s1,s2,hz⟩:=st
 have lt1:i<its.size:=by
  rcases wB i its.size with z | z
  ·exact z
  ·rw[Vp z]at hx;cases hx
 have lt2:i<jts.size:=by
  rcases wB i jts.size with z | z
  ·exact z
  ·rw[Vp z]at hy;cases hy
 have ap:=B.ap;unfold VO;rcases hz with⟨x0,y0,hz,ho⟩ | ⟨p,f,op,hz,hp,p1,p2,p3,p4⟩
 ·have hT:s.TypeIs (.ref z) "zip":=⟨_,hz,rfl⟩
  have ltz:=wA hz
  refine wg (VE (wpAny_callSpecial?_slot (name:=vP "__next__") hT Wl (vZ Wl hT V6
   (L2.Io (iP (A:=A.in1) hh i1 a B.na its) (iP (A:=A.in1) hh i2 b B.nb jts) ap hz hi ho s1 s2 lt1 lt2 λv1 v2 h1 tk e1 e2 hz1 ho1 st1 st2 hT1 hk=>wp ?_) (VM _))))
  rw[hx]at e1;cases e1;rw[hy]at e2;cases e2;have l1:i1<s.heap.objs.size:=by obtain⟨o,e,_⟩:=s1.1;exact wA e
  have l2:i2<s.heap.objs.size:=by obtain⟨o,e,_⟩:=s2.1;exact wA e
  exact q h1 tk hT1 ⟨hk _ _ ap.a1 ap.a5 ap.a6 ap.a7 hi,st1,st2,.inr ⟨s.heap.objs.size,false,_,hz1,hT1,vg ltz,vg l1,vg l2,vg hd⟩⟩ hk
 ·have hT:s.TypeIs (.ref z) "zip":=⟨_,hz,rfl⟩
  refine wg (VE (wpAny_callSpecial?_slot (name:=vP "__next__") hT Wl (vZ Wl hT V6
   (YT (iP (A:=A.in1) hh i1 a B.na its) (iP (A:=A.in1) hh i2 b B.nb jts) ap hz hi hp s1 s2 lt1 lt2 λv1 v2 h1 tk e1 e2 hz1 st1 st2 hT1 hk=>wp ?_) (VM _))))
  rw[hx]at e1;cases e1;rw[hy]at e2;cases e2;exact q h1 tk hT1 ⟨hk _ _ ap.a1 ap.a6 ap.a7 hi,st1,st2,.inr ⟨p,true,op,hz1,hk _ _ p1 p2 p3 hp,p1,p2,p3,p4⟩⟩ λc o c1 _ c3 c4 e=>hk c o c1 c3 c4 e
theorem zC5(B:ZB base z TI TO i1 i2 d a b)(hh:A.in1.handled=none)(st:kC z TI TO i1 i2 d a b its jts its.size s.heap){Q:Option we->wl->Prop}
  (q:∀(h':wF) tk,(∀c o,c≠z->c≠TO->c≠i1->c≠i2->s.heap.get? c=some o->h'.get? c=some o)->Q none {s with heap:=h',toks:=tk}) :
  wt (model prog w) A (VO (.ref z)) Q E s:=by
 obtain⟨hi,s1,s2,hz⟩:=st;have ap:=B.ap;unfold VO;rcases hz with⟨x0,y0,hz,ho⟩ | ⟨p,f,op,hz,hp,p1,p2,p3,p4⟩
 ·have hT:s.TypeIs (.ref z) "zip":=⟨_,hz,rfl⟩
  refine wg (VE (wpAny_callSpecial?_slot (name:=vP "__next__") hT Wl (vZ Wl hT V6
   (L2.Ip (k:=its.size) (iP (A:=A.in1) hh i1 a B.na its) (iP (A:=A.in1) hh i2 b B.nb jts) ap hz hi ho s1 s2 (.inl rfl) λh' y tk hk hx'=>?_) (VM _))))
  obtain⟨o,ho',hcl⟩:=hx';exact wg (Vm (T:="StopIteration") (b:=true) ⟨o,ho',hcl⟩ isSubtype_stop (wp (q h' tk hk)))
 ·have hT:s.TypeIs (.ref z) "zip":=⟨_,hz,rfl⟩
  refine wg (VE (wpAny_callSpecial?_slot (name:=vP "__next__") hT Wl (vZ Wl hT V6
   (zCf (iP (A:=A.in1) hh i1 a B.na its) ap hz hi hp s1 λh' y tk hk hx'=>?_) (VM _))))
  obtain⟨o,ho',hcl⟩:=hx';exact wg (Vm (T:="StopIteration") (b:=true) ⟨o,ho',hcl⟩ isSubtype_stop (wp (q h' tk λc o c1 _ c3 _ e=>hk c o c1 c3 e)))
end
theorem kC.but{base z TI TO i1 i2 d a b:wf}{its jts:Array we}{i:Nat}{h g:wF}(st:kC z TI TO i1 i2 d a b its jts i h)(B:ZB base z TI TO i1 i2 d a b)(sb:vi d h g):kC z TI TO i1 i2 d a b its jts i g:=by
 obtain⟨hi,s1,s2,hz⟩:=st;have da:a≠d:=wO (wS B.la B.bd);have db:b≠d:=wO (wS B.lb B.bd);refine⟨sb.extBut _ _ B.dI.symm hi,⟨s1.1.at λo e=>sb.extBut _ _ B.d1.symm e,s1.2.at λo e=>sb.extBut _ _ da e⟩,⟨s2.1.at λo e=>sb.extBut _ _ B.d2.symm e,s2.2.at λo e=>sb.extBut _ _ db e⟩,?_⟩;rcases hz with⟨x0,y0,hz,ho⟩ | ⟨p,f,op,hz,hp,p1,p2,p3,p4⟩
 ·exact .inl ⟨x0,y0,sb.extBut _ _ B.dz.symm hz,sb.extBut _ _ B.dO.symm ho⟩
 ·exact .inr ⟨p,f,op,sb.extBut _ _ B.dz.symm hz,sb.extBut _ _ p4 hp,p1,p2,p3,p4⟩
section
variable{prog:wH}{w:wI}{A:wY}{R:Result->wl->Prop}{base z TI TO i1 i2 d a b:wf}{its jts:Array we}{key:Nat->List Int}{ka:Nat->wf}{val:Nat->we}
theorem YI(B:ZB base z TI TO i1 i2 d a b)(hh:A.in1.in1.handled=none)(hu:A.in1.units+1<Wz)(hl:jts.size=its.size)(hn:its.size<=999)(hx:∀i,i<its.size->its[i]? = some (.ref (ka i)))(hy:∀i,i<its.size->jts[i]? = some (val i))
  (lk:∀i,i<its.size->ka i<base) (hk:∀i j,i<its.size->j<its.size->key i=key j->i=j) :
  ∀(c i:Nat)(s:wl),its.size-i=c->i<=its.size->kC z TI TO i1 i2 d a b its jts i s.heap->(∀j,j<its.size->(dj prog w).is s.heap (key j) (ka j))->s.heap.DictOfH (dj prog w) d ((wq i).map λj=>(key j,ka j,val j)) ->
   (∀(g:wF)(tk:Nat),jM base s.heap g->g.DictOfH (dj prog w) d ((wq its.size).map λj=>(key j,ka j,val j))->R (.ok (.ret .none)) {s with heap:=g,toks:=tk}) ->
   codeAny (model prog w) A (.builtin "dict.update.loop" ⟨[.ref d,.ref z,VP i,.none],[]⟩) R s:=by
 have lift:∀{h h':wF}{xs:List (List Int × wf × we)},h.DictOfH (dj prog w) d xs->(∀x∈xs,x.2.1<base)->jM base h h'->(∀o,h.get? d=some o->h'.get? d=some o)->h'.DictOfH (dj prog w) d xs:=λx hb bl hd=>by
  obtain⟨o,es,ep,ho,hc,hda,he,his,hn⟩:=x;exact⟨o,es,ep,hd o ho,hc,hda,he,λx hx=>nG (his x hx) λo e=>bl _ o (hb x hx) e,hn⟩
 have lo:∀{h h':wF},(∀c o,c≠z->c≠TO->c≠i1->c≠i2->h.get? c=some o->h'.get? c=some o)->jM base h h':=λhk c o hc e=>hk c o (wO (wS hc B.bz)) (wO (wS hc B.bO)) (wO (wS hc B.b1)) (wO (wS hc B.b2)) e
 intro c
 induction c with
 | zero =>
  intro i s ec ei st ht hs r;obtain rfl:i=its.size:=by omega
  refine qi JF ?_;rw[VW Ai _];refine wg (m:=VO (.ref z)) (zC5 B hh st λh' tk hk'=>?_);refine wg (wp ?_);refine wp (r h' tk (lo hk') (lift hs (λx hx=>?_) (lo hk') λo e=>hk' d o B.dz B.dO B.d1 B.d2 e));obtain⟨j,hj,rfl⟩:=wW.mp hx;exact lk j (wG.mp hj)
 | succ c ih =>
  intro i s ec ei st ht hs r;have lt:i<its.size:=by omega
  have hdl:d<s.heap.objs.size:=by obtain⟨o,_,_,ho,_⟩:=hs;exact wA ho
  refine qi JF ?_;rw[VW Ai _];refine wg (m:=VO (.ref z)) (TL B hh st hdl (hx i lt) (hy i lt) λh' tk hp st' hk'=>?_);have bl:=lo hk'
  have hs':h'.DictOfH (dj prog w) d ((wq i).map λj=>(key j,ka j,val j)):=lift hs (λx hx=>by
   obtain⟨j,hj,rfl⟩:=wW.mp hx;have:=wG.mp hj;exact lk j (by omega)) bl λo e=>hk' d o B.dz B.dO B.d1 B.d2 e
  have ht':∀j,j<its.size->(dj prog w).is h' (key j) (ka j):=λj hj=>nG (ht j hj) λo e=>bl _ o (lk j hj) e
  refine wg (Wg (wg (wpAny_tryCatch (Yn hp ?_))));refine Wg (wpAny_dictSet_heap (knd:=dj prog w) (k:=key i) hu (ht' i lt) hs' (λh2 hd2 sb=>?_) (by rw[wm,vk,qF];omega))
  have e2:storedH ((wq i).map λj=>(key j,ka j,val j)) (key i) (ka i) (val i)=(wq (i+1)).map λj=>(key j,ka j,val j):=by
   rw[storedH_new,Qu,vE]
   ·rfl
   ·cases e:atKey ((wq i).map λj=>(key j,ka j,val j)) (key i)with
    | none=>rfl
    | some p =>
     unfold atKey at e;rw[Vn]at e;obtain⟨y,hy',_⟩:=e;have hm:=xf hy';have hp':=uR hy';obtain⟨j,hj,rfl⟩:=wW.mp hm;have hj:=wG.mp hj;have:=hk j i (by omega) lt (of_decide_eq_true hp');omega
  rw[e2]at hd2;have sb:vi d h' h2:=sb;refine wp ⟨plainId_quiet Ai _,?_⟩;have bl2:jM base h' h2:=λc o hc e=>sb.extBut c o (wO (wS hc B.bd)) e
  have:=ih (i+1) {s with heap:=h2,toks:=tk+(dj prog w).draws (key i)} (by omega) lt (st'.but B sb) (λj hj=>nG (ht' j hj) λo e=>bl2 _ o (lk j hj) e) hd2 λg tk' bl3 dd=>r g tk' (bl.trans (bl2.trans bl3)) dd
  exact this
end
section
variable{prog:wH}{w:wI}{A:wY}{E:we->wl->Prop}{s:wl}{base z TI TO i1 i2 a b:wf}{its jts:Array we}{key:Nat->List Int}{ka:Nat->wf}{val:Nat->we}{x0 y0:we}
theorem R_(B:ZB base z TI TO i1 i2 s.heap.objs.size a b)(hh:A.handled=none)(hu:A.units+3<Wz)(hl:jts.size=its.size)(hn:its.size<=999)(hx:∀i,i<its.size->its[i]? = some (.ref (ka i)))(hy:∀i,i<its.size->jts[i]? = some (val i))
  (lk:∀i,i<its.size->ka i<base) (hk:∀i j,i<its.size->j<its.size->key i=key j->i=j) (hz:IsZip s.heap z TI TO .none) (hi:Wv s.heap TI (.ref i1) (.ref i2)) (ho:Wv s.heap TO x0 y0) (s1:s.heap.IsTupleIter i1 a 0) (t1:s.heap.IsTuple a its) (s2:s.heap.IsTupleIter i2 b 0) (t2:s.heap.IsTuple b jts)
  (hK:∀j,j<its.size->(dj prog w).is s.heap (key j) (ka j)) {Q:we->wl->Prop}
  (q:∀(g:wF)(tk:Nat),jM base s.heap g->g.DictOfH (dj prog w) s.heap.objs.size ((wq its.size).map λj=>(key j,ka j,val j))->Q (.ref s.heap.objs.size) {s with heap:=g,toks:=tk}) :
  wt (model prog w) A (call (.type "dict") [.ref z]) Q E s:=by
 refine callType_codes (Q₁:=λobj s₁=>obj=.ref s.heap.objs.size/\s₁ = {s with heap:=s.heap.push {cls:=.type "dict",data:=.dict #[]}}) PySem.F.kt_called_dict (PySem.F.kt_typeCall_dict_1 _) PySem.F.entry_dict_init (kt_code_dict_new _ ⟨rfl,rfl⟩) ?_;rintro obj s₁ ⟨rfl,rfl⟩;have hnew:(s.heap.push {cls:=.type "dict",data:=.dict #[]}).DictOfH (dj prog w) s.heap.objs.size []:=Heap.DictOfH.new s.heap;have hz':IsZip (s.heap.push {cls:=.type "dict",data:=.dict #[]}) z TI TO .none:=wn _ hz;refine⟨hnew.typeIs,PySem.F.args_dict_init_2 _ _,?_⟩;unfold Builtin.«dict.__init__»;refine wg ?_;unfold Builtin.Dict.selfAndRest;refine wg (wpAny_notOrdered_dict hnew.typeIs ?_)
 show wt _ _ (pure (s.heap.objs.size,[Value.ref z])) _ _ _
 refine wp ?_
 show wt _ _ (xt "dict.__init__" s.heap.objs.size (.ref z) [] .none) _ _ _
 unfold xt;refine wg (wpAny_typeOf (T:="zip") ⟨_,hz',rfl⟩ ?_);rw[if_pos (by decide)];refine wg (UP hz' (by exact hh) λh1 tk1 kp1=>?_);simp only[Option.isNone_none,if_true];refine wg (wpAny_rule ?_);have kp0:∀b o,s.heap.get? b=some o->h1.get? b=some o:=λb o e=>kp1 b o (wn _ e)
 have dn:h1.DictOfH (dj prog w) s.heap.objs.size []:=by
  obtain⟨o,es,ep,ho,hc,hda,he,his,hn⟩:=hnew;exact⟨o,es,ep,kp1 _ _ ho,hc,hda,he,(λx hx=>by cases hx),hn⟩
 refine wg (wpAny_pyIter_zip (kp0 _ _ hz) ?_);refine wp ⟨plainId_quiet Ai _,?_⟩;refine YI B (by exact hh) (show A.units+1+1+1<Wz by omega) hl hn hx hy lk hk (its.size-0) 0 _ rfl (Ww _) ⟨kp0 _ _ hi,⟨s1.at λo e=>kp0 _ o e,t1.at λo e=>kp0 _ o e⟩,⟨s2.at λo e=>kp0 _ o e,t2.at λo e=>kp0 _ o e⟩,.inl ⟨x0,y0,kp0 _ _ hz,kp0 _ _ ho⟩⟩ (λj hj=>nG (hK j hj) λo e=>kp0 _ o e) dn λg tk bl dd=>?_
 exact⟨rfl,q g tk (λc o hc e=>bl c o hc (kp0 c o e)) dd⟩
end
end TB
namespace L2
open PySem PySem.Spec PyProof.Rows GM
open TB (dj fA fk)
theorem zw8:vM "dict"=some (.type "dict"):=by decide +kernel
def fU(ks:List (List Int))(us ws:List wf):List NE:=(wq us.length).map λj=>(ks.getD j [],us.getD j 0,ws.getD j 0)
def LX(K:wb)(vs:List V)(H1:Hp)(Q:VK):Prop:=∃(a b:wf)(ks:List (List Int))(us ws:List wf),vs=[.ref a,.ref b]/\aR K H1 a (us.map V.ref)/\aR K H1 b (ws.map V.ref)/\us.length=ws.length/\us.length<=999/\ak K H1 (us.map V.ref) (ks.map TZ)/\ks.Nodup /\
 ∀D ep,H1 D=none->Q (.ref D) (upd H1 D (gP D ep (fU ks us ws)))
def L4(K:wb)(ta:TA):TE:=λσ H Q=>ta σ H λvs H1=>LX K vs H1 Q
theorem zCo{n d a b:Nat}(la:a<n)(lb:b<n)(hd:n+5<=d):TB.ZB n (n+4) (n+2) (n+3) n (n+1) d a b where
 ap:=J_ la lb
 na:=wO la
 nb:=wO (VL lb)
 bz:=WJ _ 4
 bO:=WJ _ 3
 b1:=wo _
 b2:=WJ _ 1
 bd:=by show n<=d;omega
 dz:=vg (by omega)
 dI:=vg (by omega)
 dO:=vg (by omega)
 d1:=vg (by omega)
 d2:=vg (by omega)
 la:=la
 lb:=lb
theorem zul{ks:List (List Int)}{us ws:List wf}(h:ks.length=us.length):(fU ks us ws).map (·.1)=ks:=by
 unfold fU;rw[V4];refine List.ext_getElem? λj=>?_
 rw[wx];rcases wB j us.length with z | z
 ·rw[vQ z,wc (by omega:j<ks.length)]
  show some (ks.getD j [])=_
  rw[wa,wc (by omega:j<ks.length)]
  rfl
 ·rw[wL (by simpa using z),wL (by omega)]
  rfl
section
variable{X:Cx}{o i:Expr}{pos:Pos}{td ty:TE}
theorem zv9{l m:Expr}{ta:TA}{p p2 pos2:Pos}(hc:X.calm=true)(hu:X.A.units+4<Wz)(hg:Gl X "dict")(hm:X.mg "dict"=none)(hg2:Gl X "zip")(hm2:X.mg "zip"=none)(ha:PA X [l,m] ta)(hs:w5 [l,m] X.env=[(false,eval l X.env),(false,eval m X.env)]:=by rfl)(hs2:w5 [m] X.env=[(false,eval m X.env)]:=by rfl)
   (hs3:w5 [Expr.Call (.Name "zip" p2) [l,m] [] pos2] X.env=[(false,eval (.Call (.Name "zip" p2) [l,m] [] pos2) X.env)]:=by rfl):PE X (.Call (.Name "dict" p) [.Call (.Name "zip" p2) [l,m] [] pos2] [] pos) (L4 X.K ta):=by
 intro pins s σ H Q I h;refine Call_ (gf I hg hm zw8 ?_);refine vx ?_ hs3 rfl;rw[hs3]
 show wt _ _ (spliced ((false,eval _ X.env)::Vh pos [])) _ _ s
 refine QP ?_;refine Call_ (gf I hg2 hm2 CS (vx (aI (ha pos2 pins s σ H _ I h) λus s1 ⟨vs,H1,I1,r1,q1⟩=>?_) (by rw[hs,hs2]) (by rw[hs2];rfl)));obtain⟨a,b,ks,us',ws,rfl,hq1,hq2,hl,hn,hk,nd,q⟩:=q1;obtain⟨u,v,rfl,ru,rv⟩:=kN r1;cases ru;cases rv;obtain⟨its,ri,p1⟩:=I1.iD (t:=true) hq1;obtain⟨jts,rj,p2⟩:=I1.iD (t:=true) hq2;have p1:s1.heap.IsTuple a its.toArray:=p1;have p2:s1.heap.IsTuple b jts.toArray:=p2;have la:a<s1.heap.objs.size:=by obtain⟨o,e,_⟩:=p1;exact wA e
 have lb:b<s1.heap.objs.size:=by obtain⟨o,e,_⟩:=p2;exact wA e
 have li:=ri.length;have lj:=rj.length;have lk:=hk.length;simp only[wm]at li lj lk;refine PC p1 p2 λh' hz hi ho t1 t2 kp=>?_
 refine Q3 ?_;have hd:s1.heap.objs.size+5<=h'.objs.size:=wA hz
 have hx:∀j,j<its.toArray.size->its.toArray[j]? = some (Value.ref (us'.getD j 0)):=λj hj=>by
   have hj:j<us'.length:=by simpa [li] using hj
   have:=sE ri (show(us'.map V.ref)[j]? = some (V.ref (us'.getD j 0)) by rw[wx,wa,wc hj];rfl)
   simpa using this
 have hy:∀j,j<its.toArray.size->jts.toArray[j]? = some (Value.ref (ws.getD j 0)):=λj hj=>by
   have hj : j < ws.length := by have : j < us'.length := by simpa [li] using hj
                                 omega
   have:=sE rj (show(ws.map V.ref)[j]? = some (V.ref (ws.getD j 0)) by rw[wx,wa,wc hj];rfl)
   simpa using this
 have hK:∀j,j<its.toArray.size->(dj X.prog X.w).is s1.heap (ks.getD j []) (us'.getD j 0):=λj hj=>by
   have hj:j<us'.length:=by simpa [li] using hj
   have:=(kB hk (i:=j) (x:=.ref (us'.getD j 0)) (by rw[wx,wa,wc hj];rfl)).2
   have ek:(ks.map TZ).getD j .none=TZ (ks.getD j []):=by
     rw[wa,wx,wa,wc (by omega:j<ks.length)]
     rfl
   rw[ek]at this;exact I1.nK this
 refine TB.R_ (zCo la lb hd) (I1.ok.hd hc) (by omega) (by simp only[wN];omega) (by simp only[wN];omega) hx hy (λj hj=>?_) (λi j hi' hj e=>?_) hz hi ho t1 (p1.at λo e=>kp _ o e) t2 (p2.at λo e=>kp _ o e) (λj hj=>TB.nG (hK j hj) λo e=>kp _ o e) λg tk bl dd=>?_
 . obtain⟨a',o,items,n,ea,ho',_⟩:=hK j hj
   cases ea;exact wA ho'
 . have hi' : i < ks.length := by have : i < its.length := by simpa using hi'
                                  omega
   have hj : j < ks.length := by have : j < its.length := by simpa using hj
                                 omega
   rw[wa,wa,wc hi',wc hj]at e;have pw:=Wa.mp nd;rcases VJ i j with z | z | z
   . exact absurd e (pw i j hi' hj z)
   . exact z
   . exact absurd e.symm (pw j i hj hi' z)
 . obtain⟨o,es,ep,ho',hxd,hda,he,his,hnd⟩:=dd
   refine⟨.ref h'.objs.size,_,I1.laid (t':=tk) (a:=h'.objs.size) (o:=gP h'.objs.size ep (fU ks us' ws)) (λc o e=>bl c o (wA e) (kp c o e)) (by omega) (zyL ?_ (beq_eq_false_iff_ne.mpr (WA (wO ?_))) ?_ ho' hxd hda ?_),rfl,q _ ep (I1.aG.fresh (by omega))⟩
   . unfold fU;rw[wm,vk];omega
   . exact wS I1.big (by omega)
   . rw[zul (by omega)];exact nd
   . rw[he]
     have:((wq its.toArray.size).map λj=>(ks.getD j [],us'.getD j 0,Value.ref (ws.getD j 0)))=hW (fU ks us' ws):=by
       unfold hW fU;rw[V4,wN,<- li]
       rfl
     rw[this];exact Kl _
def BH(K:wb)(td ty:TE):TE:=λσ H Q=>td σ H λx H1=>ty σ H1 λy H2=>∃a b ep xs k l,x=.ref a/\y=.ref b/\H2 a=some (gP a ep xs)/\tT K H2 xs/\Is K H2 (.ref b) (TZ k)/\kU xs k=some l/\Q (.ref l) H2
theorem zAN{pins:List (wf × Obj)}{σ : St}{H:Hp}{s:wl}{a b l:wf}{ep:Nat}{xs:List NE}{k:List Int}{A:wY}{E:we->wl->Prop}{Q:we->wl->Prop}(hu:A.units+4<Wz)(I:Inv X pins σ H s)(e:H a=some (gP a ep xs))(hk:tT X.K H xs)(hb:Is X.K H (.ref b) (TZ k))(hl:kU xs k=some l)(h:∀s',Inv X pins σ H s'->Q (.ref l) s') :
  wt (model X.prog X.w) A (getItem (.ref a) (.ref b)) Q E s:=by
 obtain⟨z,hd,nd,o,es,ho,hx,hda,r⟩:=I.Ir e;have zk:(hW xs).map (·.1)=xs.map (·.1):=by unfold hW;rw[V4];rfl
 have dd:s.heap.DictOfH (dj X.prog X.w) a (hW xs):=⟨o,es,ep,ho,hx,hda,Yo r,λx hx=>by
  obtain⟨y,hy,rfl⟩:=wW.mp hx;exact I.nK (hk y hy),by rw[zk];exact nd⟩
 have lk:=Tu xs k;rw[hl]at lk;cases e2:atKey (hW xs) k with
 | none=>rw[e2]at lk;cases lk
 | some p =>
  rw[e2]at lk;have:p.2=Value.ref l:=wQ lk;obtain⟨p1,p2⟩:=p;have:p2=Value.ref l:=this;subst this;exact wpAny_getItem_heap (knd:=dj X.prog X.w) (show A.units+1+1<Wz by omega) (I.nK hb) dd e2 (h _ (I.tok _))
theorem Zy(hu:X.A.units+4<Wz)(ho:PE X o td)(hi:PE X i ty)(hs:N1 i):PE X (.Subscript o i pos) (BH X.K td ty):=by
 intro pins s σ H Q I h;refine zzg PySem.F.slot_dict_getitem.lookup hs (aI (ho pins s σ H _ I h) λu s1 ⟨x,H1,I1,rx,q1⟩=>aI (hi pins s1 σ H1 _ I1 q1) λiv s2 ⟨y,H2,I2,ry,a,b,ep,xs,k,l,ex,ey,e,hk,hb,hl,q2⟩=>?_);subst ex ey;obtain rfl:u=Value.ref a:=rx;obtain rfl:iv=Value.ref b:=ry;obtain⟨_,_,_,od,es,g1,g2,_,_⟩:=I2.Ir e;exact⟨⟨od,g1,g2.1⟩,zAN hu I2 e hk hb hl λs3 I3=>⟨.ref l,H2,I3,rfl,q2⟩⟩
end
section
variable{K:wb}{σ : St}{H:Hp}{Q:VK}{td ty:TE}{ta:TA}
theorem Ts(h:ta σ H λvs H1=>LX K vs H1 Q):L4 K ta σ H Q:=h
theorem zxe(h:td σ H λx H1=>ty σ H1 λy H2=>∃a b ep xs k l,x=.ref a/\y=.ref b/\H2 a=some (gP a ep xs)/\tT K H2 xs/\Is K H2 (.ref b) (TZ k)/\kU xs k=some l/\Q (.ref l) H2):BH K td ty σ H Q:=h
end
end L2
namespace G
open PySem PySem.Spec PyProof.Rows L2 GM
local macro_rules | `(tactic| wtm_at "sc")=>`(tactic| exact ⟨rfl,rfl,rfl,by decide +kernel,rfl,by decide +kernel,by decide +kernel⟩)
def top(i:Nat):vd:=Vq.main.body.getD i (.Pass ⟨0,0,0,0⟩)
abbrev Dj:vd:=top 10
abbrev DZ:List Str:=["thing"]
abbrev yH:=DZ
theorem zqk:aT DZ yH (aC Dj):=by wtm_at "sc"
abbrev DE:vd:=top 11
abbrev Ra:List Str:=["one","other","rest"]
abbrev yu:List Str:=["one","other"]
theorem z9:aT Ra yu (aC DE):=by wtm_at "sc"
abbrev DJ:vd:=top 12
abbrev EH:List Str:=["thing"]
abbrev Ab:=EH
theorem UN:aT EH Ab (aC DJ):=by wtm_at "sc"
abbrev C6:vd:=top 13
abbrev Rq:List Str:=["one","other","shared","top","divisor"]
abbrev yV:List Str:=["one","other"]
theorem yc:aT Rq yV (aC C6):=by wtm_at "sc"
abbrev EU:vd:=top 14
abbrev BY:List Str:=["one","other"]
abbrev zS:=BY
theorem zw7:aT BY zS (aC EU):=by wtm_at "sc"
abbrev Ct:vd:=top 15
abbrev NP:List Str:=["one","other","first","second"]
abbrev t9:List Str:=["one","other"]
theorem Dv:aT NP t9 (aC Ct):=by wtm_at "sc"
abbrev Em:vd:=top 16
abbrev Lg:List Str:=["one","other","turned"]
abbrev zW:List Str:=["one","other"]
theorem M_:aT Lg zW (aC Em):=by wtm_at "sc"
abbrev Ex:vd:=top 17
abbrev DH:List Str:=["one","other"]
abbrev yT:=DH
theorem zzd:aT DH yT (aC Ex):=by wtm_at "sc"
abbrev Dw:vd:=top 22
abbrev DP:List Str:=["a"]
abbrev zL:=DP
theorem zpq:aT DP zL (aC Dw):=by wtm_at "sc"
abbrev EN:vd:=top 23
abbrev CL:List Str:=["b"]
abbrev rJ:=CL
theorem T_:aT CL rJ (aC EN):=by wtm_at "sc"
abbrev BA:vd:=top 24
abbrev Ez:List Str:=["a","b"]
abbrev rO:=Ez
theorem zpk:aT Ez rO (aC BA):=by wtm_at "sc"
abbrev Bk:vd:=top 25
abbrev Dh:List Str:=["thing"]
abbrev zj:=Dh
theorem zr9:aT Dh zj (aC Bk):=by wtm_at "sc"
abbrev Dz:vd:=top 26
abbrev Bw:List Str:=["rule"]
abbrev zB:=Bw
theorem TK:aT Bw zB (aC Dz):=by wtm_at "sc"
abbrev BL:vd:=top 27
abbrev Jw:List Str:=["rule","many","factor","shift","done"]
abbrev zE:List Str:=["rule","many"]
theorem m6:aT Jw zE (aC BL):=by wtm_at "sc"
abbrev Dl:vd:=top 28
abbrev AQ:List Str:=["push","x"]
abbrev rZ:=AQ
theorem zo8:aT AQ rZ (aC Dl):=by wtm_at "sc"
abbrev D_:vd:=top 32
abbrev Ds:List Str:=["thing"]
abbrev sF:=Ds
theorem zrg:aT Ds sF (aC D_):=by wtm_at "sc"
abbrev tI:vd:=top 33
abbrev tm:List Str:=["thing"]
abbrev Ag:=tm
theorem znk:aT tm Ag (aC tI):=by wtm_at "sc"
abbrev EG:vd:=top 34
abbrev AU:List Str:=["rule","phases"]
abbrev zD:=AU
theorem zqx:aT AU zD (aC EG):=by wtm_at "sc"
abbrev A5:vd:=top 35
abbrev LQ:List Str:=["phases","told","phase"]
abbrev sr:List Str:=["phases"]
theorem tE:aT LQ sr (aC A5):=by wtm_at "sc"
abbrev yk:vd:=top 36
abbrev yL:List Str:=["phases","phase"]
abbrev zh:=yL
theorem zrt:aT yL zh (aC yk):=by wtm_at "sc"
abbrev zd:vd:=top 37
abbrev C1:List Str:=["swarm","told","left","phase"]
abbrev rF:List Str:=["swarm"]
theorem nO:aT C1 rF (aC zd):=by wtm_at "sc"
abbrev yO:vd:=top 38
abbrev yi:List Str:=["worms","phases"]
abbrev sD:=yi
theorem Zu:aT yi sD (aC yO):=by wtm_at "sc"
abbrev nq:vd:=top 39
abbrev nS:List Str:=["swarm","wait","phases","left","waves","wave","push","worm","anew"]
abbrev tf:List Str:=["swarm"]
theorem ig:aT nS tf (aC nq):=by wtm_at "sc"
abbrev Cg:vd:=top 41
abbrev NS:List Str:=["swarm","many","rows","hour","stand","done","told"]
abbrev zq:List Str:=["swarm","many"]
theorem kn:aT NS zq (aC Cg):=by wtm_at "sc"
abbrev By:vd:=top 42
abbrev Mb:List Str:=["swarm","many","rows","last"]
abbrev yr:List Str:=["swarm","many"]
theorem CT:aT Mb yr (aC By):=by wtm_at "sc"
abbrev ED:vd:=top 44
abbrev EI:List Str:=["swarm"]
abbrev yy:=EI
theorem zsP:aT EI yy (aC ED):=by wtm_at "sc"
abbrev nP:vd:=top 45
abbrev sk:List Str:=["swarm","rows","sizes","places"]
abbrev ya:List Str:=["swarm"]
theorem t_:aT sk ya (aC nP):=by wtm_at "sc"
abbrev y7:vd:=top 46
abbrev Cq:List Str:=["rule","size","phases","turn","wait","push","told"]
abbrev sY:List Str:=["rule","size","phases","turn"]
theorem rD:aT Cq sY (aC y7):=by wtm_at "sc"
abbrev BW:vd:=top 47
abbrev Kc:List Str:=["rule","sizes","places","told","turn","size"]
abbrev zP:List Str:=["rule","sizes","places"]
theorem yd:aT Kc zP (aC BW):=by wtm_at "sc"
abbrev CQ:vd:=top 48
abbrev DA:List Str:=["rule","sizes","places"]
abbrev yK:=DA
theorem zlc:aT DA yK (aC CQ):=by wtm_at "sc"
abbrev B1:vd:=top 49
abbrev Jt:List Str:=["rule","sizes","places","told","rows","turn"]
abbrev zX:List Str:=["rule","sizes","places"]
theorem oZ:aT Jt zX (aC B1):=by wtm_at "sc"
abbrev rH:vd:=top 50
abbrev Ck:List Str:=["rule","sizes","places","rows","count"]
abbrev y9:List Str:=["rule","sizes","places"]
theorem Bi:aT Ck y9 (aC rH):=by wtm_at "sc"
abbrev pq:vd:=top 51
abbrev zy:List Str:=["rule","sizes","places","steps"]
abbrev yo:List Str:=["rule","sizes","places"]
theorem Lv:aT zy yo (aC pq):=by wtm_at "sc"
abbrev sL:vd:=top 52
abbrev Bj:List Str:=["rule","sizes","factor","noughts"]
abbrev z_:List Str:=["rule","sizes"]
theorem Bo:aT Bj z_ (aC sL):=by wtm_at "sc"
abbrev rM:vd:=top 55
abbrev Bq:List Str:=["rule","sizes","both","gap"]
abbrev zr:List Str:=["rule","sizes"]
theorem Eh:aT Bq zr (aC rM):=by wtm_at "sc"
abbrev ze:vd:=top 56
abbrev rB:List Str:=["both","places","of_place","of_shift"]
abbrev zQ:=rB
theorem zsY:aT rB zQ (aC ze):=by wtm_at "sc"
abbrev Eo:vd:=top 57
abbrev N5:List Str:=["both","places","many","push"]
abbrev zg:List Str:=["both","places","many"]
theorem NR:aT N5 zg (aC Eo):=by wtm_at "sc"
abbrev BE:vd:=top 58
abbrev CB:List Str:=["rule","sizes","places","many"]
abbrev sI:=CB
theorem ZW:aT CB sI (aC BE):=by wtm_at "sc"
abbrev Ee:vd:=top 59
abbrev MD:List Str:=["both","places","many","of_place","of_shift","done"]
abbrev zl:List Str:=["both","places","many"]
theorem mY:aT MD zl (aC Ee):=by wtm_at "sc"
abbrev sh:vd:=top 60
abbrev DG:List Str:=["rule","sizes","places","many","count","mean"]
abbrev sO:List Str:=["rule","sizes","places","many"]
theorem Eg:aT DG sO (aC sh):=by wtm_at "sc"
abbrev y8:vd:=top 61
abbrev zu:List Str:=["rule","sizes"]
abbrev y_:=zu
theorem TM:aT zu y_ (aC y8):=by wtm_at "sc"
abbrev Ac:vd:=top 62
abbrev A6:List Str:=["rule","sizes","places","way"]
abbrev zI:List Str:=["rule","sizes","places"]
theorem O3:aT A6 zI (aC Ac):=by wtm_at "sc"
abbrev B9:vd:=top 63
abbrev IP:List Str:=["rule","sizes","places","both","ahead","count"]
abbrev sQ:List Str:=["rule","sizes","places"]
theorem pO:aT IP sQ (aC B9):=by wtm_at "sc"
abbrev yw:vd:=top 65
abbrev Ba:List Str:=["swarm","rounds","both","later","now","phases"]
abbrev yp:List Str:=["swarm","rounds"]
theorem oQ:aT Ba yp (aC yw):=by wtm_at "sc"
abbrev Cp:vd:=top 66
abbrev Rt:List Str:=["swarm","rounds","glows","first","then"]
abbrev yY:List Str:=["swarm","rounds","glows"]
theorem C3:aT Rt yY (aC Cp):=by wtm_at "sc"
abbrev BI:vd:=top 67
abbrev OR:List Str:=["swarm","both"]
abbrev sA:List Str:=["swarm"]
theorem OG:aT OR sA (aC BI):=by wtm_at "sc"
abbrev Ci:vd:=top 68
abbrev Rr:List Str:=["swarm","count","told"]
abbrev zT:List Str:=["swarm"]
theorem oM:aT Rr zT (aC Ci):=by wtm_at "sc"
abbrev BU:vd:=top 69
abbrev O2:List Str:=["hour","swarm","both","rounds","glows"]
abbrev sj:List Str:=["hour","swarm"]
theorem zx:aT O2 sj (aC BU):=by wtm_at "sc"
abbrev DU:vd:=top 70
abbrev K9:List Str:=["swarm","rows","word","row","told","hour"]
abbrev zY:List Str:=["swarm"]
theorem lg:aT K9 zY (aC DU):=by wtm_at "sc"
abbrev CP:vd:=top 72
abbrev B3:List Str:=["_law_script","_law_k"]
abbrev rA:=B3
theorem SO:aT B3 rA (aC CP):=by wtm_at "sc"
abbrev CV:vd:=top 73
abbrev KJ:List Str:=["_law_script","_law_k","_law_cell_here"]
abbrev sS:List Str:=["_law_script","_law_k"]
theorem Ni:aT KJ sS (aC CV):=by wtm_at "sc"
abbrev CI:vd:=top 74
abbrev Ou:List Str:=["_law_pen_here","_law_most","_law_found","_law_mixed"]
abbrev yQ:List Str:=["_law_pen_here","_law_most"]
theorem yX:aT Ou yQ (aC CI):=by wtm_at "sc"
abbrev Dt:vd:=top 75
abbrev NW:List Str:=["_law_top","_law_bottom","_law_one","_law_other"]
abbrev tR:List Str:=["_law_top","_law_bottom"]
theorem sW:aT NW tR (aC Dt):=by wtm_at "sc"
abbrev ER:vd:=top 76
abbrev Jb:List Str:=["_law_pen_here","_law_way","_law_bottom","_law_deep","_law_more","_law_top","_law_need"]
abbrev tX:List Str:=["_law_pen_here"]
theorem jz:aT Jb tX (aC ER):=by wtm_at "sc"
abbrev zH:vd:=top 77
abbrev BV:List Str:=["_law_pen_here","_law_most","_law_many","_law_bottom","_law_few","_law_apart"]
abbrev yW:List Str:=["_law_pen_here","_law_most"]
theorem oK:aT BV yW (aC zH):=by wtm_at "sc"
abbrev DB:vd:=top 78
abbrev Lw:List Str:=["_law_swarm","_law_found"]
abbrev rT:List Str:=["_law_swarm"]
theorem tO:aT Lw rT (aC DB):=by wtm_at "sc"
abbrev zw:vd:=top 79
abbrev ES:List Str:=["_law_swarm","_law_word","_law_many","_law_rows"]
abbrev yJ:List Str:=["_law_swarm","_law_word"]
theorem B5:aT ES yJ (aC zw):=by wtm_at "sc"
abbrev AZ:vd:=top 80
abbrev Et:List Str:=["_law_one","_law_other"]
abbrev rS:=Et
theorem zss:aT Et rS (aC AZ):=by wtm_at "sc"
abbrev CC:vd:=top 81
abbrev BX:List Str:=["_law_one","_law_other"]
abbrev tH:=BX
theorem Zg:aT BX tH (aC CC):=by wtm_at "sc"
abbrev Cz:vd:=top 82
abbrev C4:List Str:=["_law_one","_law_other"]
abbrev zU:=C4
theorem zl0:aT C4 zU (aC Cz):=by wtm_at "sc"
abbrev Eu:vd:=top 83
abbrev B7:List Str:=["_law_one","_law_other"]
abbrev yq:=B7
theorem zq5:aT B7 yq (aC Eu):=by wtm_at "sc"
abbrev B_:vd:=top 84
abbrev MM:List Str:=["_law_rule","_law_many","_law_found","_law_k"]
abbrev Ah:List Str:=["_law_rule","_law_many"]
theorem rN:aT MM Ah (aC B_):=by wtm_at "sc"
abbrev oC:vd:=top 85
abbrev sX:List Str:=["_law_rule","_law_sizes","_law_places","_law_phases","_law_time","_law_heights","_law_at","_law_wait","_law_often","_law_risen"]
abbrev tU:List Str:=["_law_rule","_law_sizes","_law_places"]
theorem jd:aT sX tU (aC oC):=by wtm_at "sc"
abbrev CJ:vd:=top 86
abbrev Jr:List Str:=["_law_one","_law_many","_law_top","_law_bottom","_law_k"]
abbrev yn:List Str:=["_law_one","_law_many"]
theorem lW:aT Jr yn (aC CJ):=by wtm_at "sc"
abbrev sx:vd:=top 87
abbrev Cr:List Str:=["_law_rule","_law_sizes","_law_factor","_law_shifts"]
abbrev z6:List Str:=["_law_rule","_law_sizes"]
theorem DY:aT Cr z6 (aC sx):=by wtm_at "sc"
abbrev CW:vd:=top 88
abbrev MO:List Str:=["_law_pen_here","_law_rule","_law_most","_law_found","_law_some","_law_one"]
abbrev zO:List Str:=["_law_pen_here","_law_rule","_law_most"]
theorem tQ:aT MO zO (aC CW):=by wtm_at "sc"
abbrev w_:vd:=top 89
abbrev Rg:List Str:=["_law_script","_law_rule","_law_swarm","_law_told","_law_count","_law_now","_law_row","_law_hour"]
abbrev yx:List Str:=["_law_script"]
theorem iH:aT Rg yx (aC w_):=by wtm_at "sc"
set_option genInjectivity false in
structure Ad where
 HD:wf
 F7:wE
 Fh:wf
 EW:wE
 G8:wf
 F5:wE
 plus:wf
 HI:wE
 minus:wf
 Hu:wE
 times:wf
 Ho:wE
 over:wf
 HW:wE
 less:wf
 HR:wE
 G_:wf
 FT:wE
 Hq:wf
 Gd:wE
 G5:wf
 F6:wE
 HM:wf
 GN:wE
 Iq:wf
 HY:wE
 Ib:wf
 Hm:wE
 G3:wf
 FP:wE
 HB:wf
 Gh:wE
 GP:wf
 FE:wE
 Ht:wf
 Gg:wE
 HE:wf
 Gk:wE
 Hs:wf
 Gb:wE
 H_:wf
 G4:wE
 GF:wf
 Fw:wE
 lH:wf
 HQ:wE
 HK:wf
 GX:wE
 behind:wf
 G1:wE
 HH:wf
 GW:wE
 laid:wf
 HX:wE
 Fx:wf
 Ff:wE
 rl:wf
 He:wE
 FX:wf
 Fm:wE
 GI:wf
 FI:wE
 gQ:wf
 HU:wE
 HP:wf
 GZ:wE
 G7:wf
 FV:wE
 Ih:wf
 Hz:wE
 HS:wf
 GS:wE
 Ic:wf
 G9:wE
 Fz:wf
 Fg:wE
 Fs:wf
 EZ:wE
 Gi:wf
 Fu:wE
 FQ:wf
 Fn:wE
 GV:wf
 FH:wE
 Gm:wf
 Ft:wE
 Fv:wf
 Fb:wE
 Gz:wf
 FG:wE
 HL:wf
 GC:wE
 FD:wf
 E_:wE
 Hv:wf
 F9:wE
 Hy:wf
 Gn:wE
 HC:wf
 Ge:wE
 HG:wf
 GJ:wE
 HA:wf
 Gs:wE
 HJ:wf
 Gx:wE
 Fq:wf
 EY:wE
 Fd:wf
 EV:wE
 Hi:wf
 FY:wE
 Hw:wf
 Gr:wE
 HN:wf
 GK:wE
 HF:wf
 Ga:wE
 Gj:wf
 Fp:wE
 Hn:wf
 F8:wE
 GU:wf
 FA:wE
 Hl:wf
 FZ:wE
 Hh:wf
 FJ:wE
 Hf:wf
 FN:wE
 Hj:wf
 FW:wE
 law:wf
 Ia:wE
 nC:wf
 fX:wf
 cW:wf
 dG:wf
 Aj:wf
structure Dn(K:wb)(mg:Str->Option we)(n:Str)(st:vd)(ps:List Str)(f:wf)(fd:wE):Prop where
 F:km K n n st f fd
 g:mg n=some (.ref f)
 b:kY K fd ps []
section
variable{X:Cx}{x:Str}{f:wf}{fd:wE}{ps:List Str}{sp:Sp}{j k:Nat}{e:Expr}{es:List Expr}{t:TA}{pos pp:Pos}{st:vd}{CX:fG}
theorem pI{E:XK}(F:aJ X.prog X.w X.K X.mg X.base CX k f fd ps sp)(hr:dN j X.A)(D:Dn X.K X.mg x st ps f fd)(hx:nA CX X E)(ha:PA X (e::es) t)(hj:k<=j:=by decide)(hg:Gl X x:=by exact rfl)
  (hdb:(x == ("__debug__" : Str))=false:=by decide) (he:w5 (e::es) X.env=(false,eval e X.env)::w5 es X.env:=by rfl) (hpl:(Vh pos (w5 es X.env)).any (·.1)=false:=by rfl) :
  PE X (.Call (.Name x pp) (e::es) [] pos) (pP sp [] E t):=JI F (hr.mono hj) hg D.g D.F.kp D.b .nil hx ha hdb he hpl
theorem au(F:aJ X.prog X.w X.K X.mg X.base aS k f fd ps sp)(hr:dN j X.A)(D:Dn X.K X.mg x st ps f fd)(ha:PA X (e::es) t)(hj:k<=j:=by decide)(hg:Gl X x:=by exact rfl)
  (hdb:(x == ("__debug__" : Str))=false:=by decide) (he:w5 (e::es) X.env=(false,eval e X.env)::w5 es X.env:=by rfl) (hpl:(Vh pos (w5 es X.env)).any (·.1)=false:=by rfl) :
  PE X (.Call (.Name x pp) (e::es) [] pos) (pP sp [] E0 t):=JI F (hr.mono hj) hg D.g D.F.kp D.b .nil SN ha hdb he hpl
theorem ar{ta:TE}{i:Int}{kd}(ha:PE X e ta):PE X (.Subscript e (.Constant (.int i) kd pp) pos) (lA (cQ X.K) ta (tC (.int i))):=dH cY ha ay (λ_ _=>rfl)
theorem ou{K:wb}{ta:TE}{i:Int}{kd}(hr:fZ X (cQ K))(ha:PE X e ta):PE X (.Subscript e (.Constant (.int i) kd pp) pos) (lA (cQ K) ta (tC (.int i))):=dH hr ha ay (λ_ _=>rfl)
theorem az(i:Nat){te:TE}(hN:X.N.Nodup)(he:PE X e te)(hi:X.N[i]? = some x:=by exact rfl)(hx:Loc X.env.scope x:=by first | exact Or.inl rfl | exact Or.inr rfl)(hs:swapsWith e (some (.Name x pp)) pos.line X.env=pure false:=by rfl)(hf:X.fn x=true\/X.env.scope.names.lookup x=some .local:=by first | exact .inl rfl | exact .inr rfl | assumption) :
  PS X (.Assign [.Name x pp] e pos) (ly te (iX i)):=zBA hN hi hx he hs hf
end
structure Txt(K:wb)(mg:Str->Option we)(a:Ad):Prop where
 Aq:Dn K mg "is_whole" Dj yH a.HD a.F7
 lC:Dn K mg "greatest_divisor" DE yu a.Fh a.EW
 p6:Dn K mg "is_number" DJ Ab a.G8 a.F5
 fL:Dn K mg "plus" C6 yV a.plus a.HI
 nE:Dn K mg "minus" EU zS a.minus a.Hu
 jh:Dn K mg "times" Ct t9 a.times a.Ho
 AH:Dn K mg "over" Em zW a.over a.HW
 fM:Dn K mg "less" Ex yT a.less a.HR
 Gu:Dn K mg "is_factor" Dw zL a.G_ a.FT
 GY:Dn K mg "is_shift" EN rJ a.Hq a.Gd
 Gw:Dn K mg "make_rule" BA rO a.G5 a.F6
 G6:Dn K mg "is_rule" Bk zj a.HM a.GN
 AG:Dn K mg "bend" Dz zB a.Iq a.HY
 nD:Dn K mg "pushes" BL zE a.Ib a.Hm
 Ao:Dn K mg "pushed_by" Dl rZ a.G3 a.FP
 GQ:Dn K mg "is_phase" D_ sF a.HB a.Gh
 FO:Dn K mg "are_phases" tI Ag a.GP a.FE
 GO:Dn K mg "swarm_of" EG zD a.Ht a.Gg
 Ap:Dn K mg "greatest" A5 sr a.HE a.Gk
 GL:Dn K mg "worms_at" yk zh a.Hs a.Gb
 AB:Dn K mg "flocks" zd rF a.H_ a.G4
 An:Dn K mg "at_the_end" yO sD a.GF a.Fw
 rg:Dn K mg "glow" nq tf a.lH a.HQ
 Av:Dn K mg "history" Cg zq a.HK a.GX
 Ay:Dn K mg "behind" By yr a.behind a.G1
 Au:Dn K mg "is_laid" ED yy a.HH a.GW
 rh:Dn K mg "laid" nP ya a.laid a.HX
 Fj:Dn K mg "phases_behind" y7 sY a.Fx a.Ff
 p9:Dn K mg "stands" BW zP a.rl a.He
 Al:Dn K mg "round_behind" CQ yK a.FX a.Fm
 FU:Dn K mg "round_time" B1 zX a.GI a.FI
 AF:Dn K mg "tops" rH y9 a.gQ a.HU
 p8:Dn K mg "is_free" pq yo a.HP a.GZ
 lD:Dn K mg "round_map" sL z_ a.G7 a.FV
 AE:Dn K mg "still" rM zr a.Ih a.Hz
 Aw:Dn K mg "weighed" ze zQ a.HS a.GS
 AA:Dn K mg "led_on" Eo zg a.Ic a.G9
 Fo:Dn K mg "rounds_behind" BE sI a.Fz a.Fg
 Fc:Dn K mg "sums_of_places" Ee zl a.Fs a.EZ
 Fy:Dn K mg "rounds_time" sh sO a.Gi a.Fu
 Am:Dn K mg "draws_freely" y8 y_ a.FQ a.Fn
 FR:Dn K mg "stays_free" Ac zI a.GV a.FH
 FC:Dn K mg "free_rounds" B9 sQ a.Gm a.Ft
 Ak:Dn K mg "behind_rounds" yw yp a.Fv a.Fb
 FK:Dn K mg "behind_row" Cp yY a.Gz a.FG
 G2:Dn K mg "word_of" BI sA a.HL a.GC
 Fi:Dn K mg "glows_to_join" Ci zT a.FD a.E_
 GB:Dn K mg "next_row" BU sj a.Hv a.F9
 p7:Dn K mg "paper_of" DU zY a.Hy a.Gn
 GR:Dn K mg "_law_cell" CP rA a.HC a.Ge
 Ax:Dn K mg "_law_pen" CV sS a.HG a.GJ
 fj:Dn K mg "_law_draw" CI yQ a.HA a.Gs
 fK:Dn K mg "_law_low" Dt tR a.HJ a.Gx
 Fe:Dn K mg "_law_drawn_rule" ER tX a.Fq a.EY
 EX:Dn K mg "_law_drawn_phases" zH yW a.Fd a.EV
 Gf:Dn K mg "_law_paper" DB rT a.Hi a.FY
 Gy:Dn K mg "_law_ends" zw yJ a.Hw a.Gr
 nB:Dn K mg "_law_sum" AZ rS a.HN a.GK
 Ar:Dn K mg "_law_rest" CC tH a.HF a.Ga
 p5:Dn K mg "_law_product" Cz zU a.Gj a.Fp
 GA:Dn K mg "_law_part" Eu yq a.Hn a.F8
 F0:Dn K mg "_law_pushes" B_ Ah a.GU a.FA
 Gv:Dn K mg "_law_round" oC tU a.Hl a.FZ
 Gq:Dn K mg "_law_power" CJ yn a.Hh a.FJ
 Gp:Dn K mg "_law_rests" sx z6 a.Hf a.FN
 F_:Dn K mg "_law_start" CW zO a.Hj a.FW
 Sv:Dn K mg "law" w_ yx a.law a.Ia
 z_abs:mg "abs"=none
 z_all:mg "all"=none
 z_any:mg "any"=none
 z_bool:mg "bool"=none
 z_dict:mg "dict"=none
 z_enumerate:mg "enumerate"=none
 z_int:mg "int"=none
 z_isinstance:mg "isinstance"=none
 z_len:mg "len"=none
 z_list:mg "list"=none
 z_min:mg "min"=none
 z_range:mg "range"=none
 z_set:mg "set"=none
 z_sum:mg "sum"=none
 z_tuple:mg "tuple"=none
 z_zip:mg "zip"=none
 Sd:mg "NoStand"=some (.ref a.nC)
 Hg:mg "TooLong"=some (.ref a.fX)
 Se:qd K a.nC oP "ValueError.__new__"=true
 aaa:qz K (.ref a.nC) (.ref a.fX)=some false
 Sf:qd K a.fX oP "ValueError.__new__"=true
 RY:qz K (.ref a.fX) (.ref a.fX)=some true
 dF:mg "NOUGHT"=some (.ref a.cW)
 d9:∀H:Hp,aR K H a.cW [.int 0,.int 1]
 eF:mg "ONE"=some (.ref a.dG)
 rn:∀H:Hp,aR K H a.dG [.int 1,.int 1]
 RZ:mg "GREATEST_FACTOR"=some (.ref a.Aj)
 R1:∀H:Hp,aR K H a.Aj [.int 4,.int 1]
 R3:∃t,mg "FACTOR_BOTTOM"=some (.int 8 t)
 R5:∃t,mg "SHIFT_BOTTOM"=some (.int 12 t)
 R6:∃t,mg "MOST_WORMS"=some (.int 8 t)
 R4:∃t,mg "PHASE_BOTTOM"=some (.int 60 t)
 R7:∃t,mg "MOST_FREE"=some (.int 30 t)
end G
open L2 GM in
local macro_rules | `(tactic| wtm_at "is")=>`(tactic| first
 | assumption
 | exact cc.mpr rfl
 | exact kf.mpr rfl
 | exact l_.mpr rfl
 | exact iU.mpr rfl
 | exact Is.SE (by assumption) (by wtm_at "same")
 | exact Is.Sr (by assumption) (by wtm_at "keep")
 | exact Is.nH (by assumption) (by wtm_at "keep")
 | ((with_reducible apply is_tupAt);(focus assumption);(focus wtm_at "isall");wtm_at "same")
 | ((with_reducible apply is_lstAt);(focus assumption);(focus wtm_at "isall");wtm_at "same")
 | ((with_reducible apply is_dctAt);(focus assumption);wtm_at "same")
 | exact dM 0 (G.Txt.d9 (by assumption) _) rfl rfl | exact dM 1 (G.Txt.rn (by assumption) _) rfl rfl | exact dM 4 (G.Txt.R1 (by assumption) _) rfl rfl
 | fail "is")
open L2 GM in
local macro_rules | `(tactic| wtm_at "isall")=>`(tactic| first
 | exact ak.nil
 | exact ak.cons (by wtm_at "is") (by wtm_at "isall")
 | fail "isall")
open L2 GM in
local macro_rules | `(tactic| wtm_at "ne")=>`(tactic| first
 | assumption
 | (apply WA;assumption))
/- a list that rl at an address -/
open L2 GM in
local macro_rules | `(tactic| wtm_at "lst")=>`(tactic| first
 | assumption
 | exact ah.at (by assumption) (by wtm_at "lst")
 | exact Exc.at (by assumption) (by wtm_at "ne") (by wtm_at "lst")
 | fail "lst")
open L2 GM in
local macro_rules | `(tactic| wtm_at "same")=>`(tactic| first
 | assumption
 | exact ah.refl _
 | exact ah.back (by assumption) (by wtm_at "same")
 | fail "same")
open L2 GM in
local macro_rules | `(tactic| wtm_at "keep")=>`(tactic| first
 | assumption
 | exact bG.refl _
 | exact ah.keep (by assumption)
 | exact bG.back (by assumption) (by wtm_at "keep")
 | exact bG.back (ah.keep (by assumption)) (by wtm_at "keep")
 | fail "keep")
open L2 GM in
local macro_rules | `(tactic| wtm_at "exc")=>`(tactic| first
 | assumption
 | exact Exc.refl _ _
 | exact Exc.back (by assumption) (by wtm_at "exc")
 | exact Exc.back (ah.exc (by assumption)) (by wtm_at "exc")
 | fail "exc")
open L2 GM in
local macro_rules | `(tactic| wtm_at "sqf")=>`(tactic| first
 | assumption
 | exact bG.Jv (by wtm_at "keep") (by assumption)
 | fail "sqf")
/- how great -/
open L2 GM in
local macro_rules | `(tactic| wtm_at "bd")=>`(tactic| first
 | assumption
 | exact Bd.mk (n:=128) (by decide)
 | exact Bd.mono (m:=128) ⟨by decide⟩ (by decide)
 | exact ag.t (by assumption)
 | exact ag.b (by assumption)
 | exact Bd.jQ (by omega) (by omega)
 | (apply Bd.neg;wtm_at "bd")
 | (apply Bd.mul;(focus wtm_at "bd");wtm_at "bd")
 | (apply Bd.add;(focus wtm_at "bd");wtm_at "bd")
 | (apply Bd.sub;(focus wtm_at "bd");wtm_at "bd"))
open L2 GM PySem in
local macro_rules | `(tactic| wtm_at "mulok")=>`(tactic| first
 | exact X1 (by decide)
 | exact uu (by decide)
 | exact X1 (intBits_le_64 (by omega) (by omega))
 | exact uu (intBits_le_64 (by omega) (by omega))
 | (apply L2.Sz;(focus wtm_at "bd");(focus wtm_at "bd");(focus decide);decide))
open L2 GM PySem in
local macro_rules | `(tactic| wtm_at "side")=>`(tactic| first
 | assumption
 | decide
 | omega
 | wtm_at "mulok"
 | (refine And.intro ?_ ?_<;>wtm_at "side")
 | wtm_at "bd")
open L2 GM in
local macro_rules | `(tactic| wtm_at "gs")=>`(tactic| first
 | wtm_at "sq"
 | with_reducible (first | refine YW ?_ | refine UK ?_ | refine zBP ?_ | refine zB5 ?_)
 | ((with_reducible apply SW);(focus rfl))
 | with_reducible (first | refine zCQ ?_ | refine zyC ?_ | refine zAv ?_ | refine zy0 ?_ | refine zB6 ?_ | refine zyN ?_ | refine zBZ ?_ | refine zBE ?_ | refine zAS ?_ | refine zBj ?_ | refine SV ?_)
 | ((with_reducible apply pL);(focus wtm_at "side"))
 | with_reducible (first | refine zCh ?_ | refine U_ ?_ | refine zAU ?_ | refine UM ?_ | refine zAF ?_ | refine zBw ?_ | refine mB ?_ | refine mX ?_)
 | with_reducible refine Z4 (λ_=>?_) (λ_=>?_)
 | with_reducible refine Td (λ_=>?_) (λ_=>?_)
 | with_reducible refine W_ (λ_=>?_) (λ_=>?_)
 | with_reducible refine Yx (λ_=>?_) (λ_=>?_)
 | with_reducible (first | refine Ti ?_ | refine zCJ ?_ | refine zAV ?_ | refine zy8 ?_ | refine zyx ?_ | refine zBm ?_ | refine YA ?_ | refine zzw ?_ | refine zyO ?_ | refine Zt ?_ | refine Z_ ?_ | refine zyj ?_ | refine V_ ?_ | refine zxV ?_ | refine Tf ?_ | refine zx7 ?_)
 | ((with_reducible apply ZL);(focus wtm_at "is"))
 | ((with_reducible apply zzo);(focus wtm_at "is"))
 | ((with_reducible apply gY);(focus(apply aK.of;wtm_at "lst"));(focus rfl))
 | ((with_reducible apply r8);(focus assumption);(focus rfl);intro hN eN lN;dsimp only[Int.reduceToNat,XF,XG]at lN)
 | ((with_reducible apply Oq);(focus wtm_at "is"))
 | ((with_reducible apply UR);(focus wtm_at "is"))
 | ((with_reducible apply zwT);(focus wtm_at "is"))
 | dsimp only[XF,XG])
/- one statement behind another: what follows rl behind a name -/
set_option hygiene false in
open L2 GM in
local macro_rules | `(tactic| wtm_at "sq")=>`(tactic| with_reducible refine YB (λ tl_ htl_=>?_))
set_option hygiene false in
open L2 GM in
local macro_rules | `(tactic| wtm_at "tl")=>`(tactic| ((with_reducible refine zp.go (by assumption) ?_); (try clear htl_ tl_)))
/- how great a number is -/
open L2 GM in
local macro_rules | `(tactic| wtm_at "bdr0")=>`(tactic| first
 | assumption
 | exact ag.zero
 | exact ag.one
 | exact ag.four
 | (apply ag.add;(focus wtm_at "bdr0");wtm_at "bdr0")
 | (apply ag.sub;(focus wtm_at "bdr0");wtm_at "bdr0")
 | (apply ag.mul;(focus wtm_at "bdr0");wtm_at "bdr0"))
open L2 GM in
local macro_rules | `(tactic| wtm_at "bdr")=>`(tactic| first
 | assumption
 | (apply ag.mono;(focus wtm_at "bdr0");(first | decide | omega)))
/- .. with new tuples,lists,dicts -/
open L2 GM in
local macro_rules | `(tactic| wtm_at "ga1")=>`(tactic| first
 | wtm_at "gs"
 | ((with_reducible apply cK);(focus(simp only[vo,xA];decide));(focus wtm_at "isall");intro _ _ _ _)
 | ((with_reducible apply fi);(focus(simp only[vo,xA];decide));intro _ _ _ _ _)
 | ((with_reducible apply nj);(focus wtm_at "lst");(focus wtm_at "lst");(focus(simp only[wT,vo,xA];decide));intro _ _ _ _ _))
local macro_rules | `(tactic| wtm_at "ga")=>`(tactic| repeat' (first | wtm_at "ga1" | wtm_at "tl"))
local macro_rules | `(tactic| wtm_at "gg")=>`(tactic| repeat' (first | wtm_at "gs" | wtm_at "tl"))
local macro_rules | `(tactic| wtm_at "gt")=>`(tactic| repeat' (wtm_at "gs"))
open L2 GM in
local macro_rules | `(tactic| wtm_at "bd128")=>`(tactic| first
 | exact Bd.mono (m:=128) ⟨by decide⟩ (by decide)
 | exact(Bd.jQ (by omega) (by omega)).mono (by decide))
open L2 GM in
local macro_rules | `(tactic| wtm_at "gs")=>`(tactic| first
 | with_reducible (first | refine zCB ?_ | refine Tj ?_ | refine zCc ?_ | refine zwd ?_ | refine UO ?_ | refine zvz ?_ | refine zvD ?_ | refine Nd ?_ | refine Tz ?_ | refine zxs ?_ | refine zCm ?_ | refine zyr ?_ | refine U3 ?_ | refine zuz ?_ | refine zvq ?_ | refine zA4 ?_ | refine zoK ?_ | refine Ts ?_ | refine zxe ?_)
 | with_reducible refine zyD (λ_ _ _ _=>?_)
 | with_reducible (first | refine zx3 ?_ | refine YL ?_ | refine zBi ?_ | refine zxo ?_ | refine Yv ?_ | refine Y5 ?_ | refine zuI ?_ | refine Yb ?_ | refine zwC ?_)
 | ((with_reducible apply zu0);(focus wtm_at "is"))
 | ((with_reducible apply ZD);(focus wtm_at "is"))
 | ((with_reducible apply zzi);(focus wtm_at "is");intro _ _)
 | ((with_reducible apply zzu);(focus wtm_at "is");intro _ _)
 | ((with_reducible apply gY);(focus(apply aK.of;wtm_at "lst"));(focus rfl))
 | ((with_reducible apply zyq);(focus wtm_at "lst");(focus omega);(focus omega);intro _ _)
 | ((with_reducible apply Nr);(focus wtm_at "is");(focus wtm_at "is"))
 | ((with_reducible apply zAY);(focus wtm_at "is");(focus wtm_at "is")))
set_option hygiene false in
local macro_rules | `(tactic| wtm_at "b1")=>`(tactic| (focus (intro vs H Q E h; obtain ⟨_,rfl,_⟩:=h; rfl)); (intro cdv A outer s H vs Q E hr h; obtain ⟨x0,rfl,h⟩:=h; have hu:=hr.units))
set_option hygiene false in
local macro_rules | `(tactic| wtm_at "b2")=>`(tactic| (focus (intro vs H Q E h; obtain ⟨_,_,rfl,_⟩:=h; rfl)); (intro cdv A outer s H vs Q E hr h; obtain ⟨x0,x1,rfl,h⟩:=h; have hu:=hr.units))
set_option hygiene false in
local macro_rules | `(tactic| wtm_at "b3")=>`(tactic| (focus (intro vs H Q E h; obtain ⟨_,_,_,rfl,_⟩:=h; rfl)); (intro cdv A outer s H vs Q E hr h; obtain ⟨x0,x1,x2,rfl,h⟩:=h; have hu:=hr.units))
set_option hygiene false in
local macro_rules | `(tactic| wtm_at "b4")=>`(tactic| (focus (intro vs H Q E h; obtain ⟨_,_,_,_,rfl,_⟩:=h; rfl)); (intro cdv A outer s H vs Q E hr h; obtain ⟨x0,x1,x2,x3,rfl,h⟩:=h; have hu:=hr.units))
set_option hygiene false in
local macro_rules | `(tactic| wtm_at "cl")=>`(tactic| ((clear hu); (try clear hgd); (first | dsimp only [ie,cxOfH] | dsimp only [ie] | skip)))
local macro_rules | `(tactic| k_few)=>`(tactic| wtm_at "gg")
local macro_rules | `(tactic| o_head $e)=>`(tactic| (wtm_at "gg"; refine $e))
namespace G
open PySem PySem.Spec PyProof.Rows L2 GM
section
variable{P:wH}{w:wI}{K:wb}{mg:Str->Option we}{base:wF}{a:Ad}
def isInt:wD->Bool
 | .int _=>true
 | _=>false
def PF(K:wb):Sp:=λvs H Q _=>∃x0,vs=[x0] /\ ∃d,Is K H x0 d/\Q (.bl (isInt d)) H
theorem zqH{K:wb}{H:Hp}{Q:VK}{E:XK}{v:V}{d:wD}(h:Is K H v d)(q:Q (.bl (isInt d)) H):PF K [v] H Q E:=⟨v,rfl,d,h,q⟩
local macro_rules | `(tactic| wtm_at "gs")=>`(tactic| ((with_reducible apply zqH); (focus wtm_at "is")))
theorem Le(T:Txt K mg a):aJ P w K mg base aS 1 a.HD a.F7 yH (PF K):=by
 refine T.Aq.F.ok zqk ?_ ?_;wtm_at "b1";refine⟨_,(av (aE (hV (bR (show aO _ (.builtin "isinstance") (jc K)from v_) rfl T.z_isinstance pN (ae (pv 0) (ae (nh (v:=.ty "int") rfl T.z_int zAB rfl) af))) (kR (my (bR (show aO _ (.builtin "isinstance") (jc K)from v_) rfl T.z_isinstance pN (ae (pv 0) (ae (nh (v:=.ty "bool") rfl T.z_bool ZQ rfl) af)))))))),?_⟩;wtm_at "cl";rw[show start DZ [x0]=[some x0]from rfl];obtain⟨d,hd,q⟩:=h;k_few
 all_goals(cases d<;>simp_all [isInt,DL,Dy])
def IU(K:wb):Sp:=λvs H Q _=>∃x0 x1,vs=[x0,x1] /\ ∃a b:Int,x0=.int a/\x1=.int b/\0<=a/\0<=b/\Q (.int (vB a b:Nat)) H
theorem pJ{K:wb}{H:Hp}{Q:VK}{E:XK}{a b:Int}(ha:0<=a)(hb:0<=b)(q:Q (.int (vB a b:Nat)) H):IU K [.int a,.int b] H Q E:=⟨_,_,rfl,a,b,rfl,rfl,ha,hb,q⟩
theorem oy(T:Txt K mg a):aJ P w K mg base aS 1 a.Fh a.EW yu (IU K):=by
 refine T.lC.F.ok z9 ?_ ?_;wtm_at "b2"
 refine⟨_,(ao (lU vL (bS (show aN _ (wU .NotEq) (fY K)from lq hu) (pv 1) ay (a_ _)) (ao (az 2 z9.nd (aA gv (pv 0) (pv 1)))
     (ao (az 0 z9.nd (pv 1))
     (av (az 1 z9.nd (pv 2))))))
     (av (aE (pv 0)))),?_⟩
 wtm_at "cl";rw[show start Ra [x0,x1]=[some x0,some x1,none]from rfl];obtain⟨a',b',rfl,rfl,ha,hb,q⟩:=h;refine TR ?_;refine OH (λσ H'=>∃(x y:Int)(r:Option V),σ = [some (.int x),some (.int y),r]/\0<=x/\0<=y/\vB x y=vB a' b'/\H'=H) (λσ=>(Mn σ 1).toNat) ⟨a',b',none,rfl,ha,hb,rfl,rfl⟩ ?_;rintro σ H' ⟨x,y,r,rfl,hx,hy,hg,rfl⟩;k_few
 . refine Mr ?_
   k_few;have h1:=Qv x (show y≠0 by assumption);have h2:=Qa x (show 0<y by omega);refine⟨?_,_,_,_,rfl,hy,h1,?_,rfl⟩
   . show(x % y).toNat<y.toNat
     omega
   . rw[<- hg];exact Nk (by omega) hx
 . rename_i h0
   subst h0
   have e:((vB a' b':Nat):Int)=x:=by
     rw[<- hg,XH];omega
   rw[e]at q;exact q
def bE:wD->Bool
 | .tuple [.int p,.int q]=>gg p q
 | _=>false
theorem C7(r:Rat):bE (N r)=true:=PJ r
theorem zsw{d:wD}(h:hJ d=false):bE d=false:=by
 cases d<;>first | rfl | (simp[hJ]at h)
theorem ztc{ds:List wD}(h:¬ ds.length=2):bE (.tuple ds)=false:=by
 match ds with
 | []=>rfl
 | [_]=>simp[bE]
 | [_,_]=>exact absurd rfl h
 | _::_::_::_=>simp[bE]
theorem zpV{d e:wD}(h:isInt d=false):bE (.tuple [d,e])=false:=by
 cases d<;>first | rfl | (simp[isInt]at h)
theorem znm{d e:wD}(h:isInt e=false):bE (.tuple [d,e])=false:=by
 cases d<;>cases e<;>first | rfl | (simp[isInt]at h)
theorem O0{d:wD} : isInt d=true ↔ ∃i,d=.int i:=by cases d<;>simp[isInt]
def JL(K:wb):Sp:=λvs H Q _=>∃x0,vs=[x0] /\ ∃d,Is K H x0 d/\Q (.bl (bE d)) H
theorem zpF{K:wb}{H:Hp}{Q:VK}{E:XK}{v:V}{d:wD}(h:Is K H v d)(q:Q (.bl (bE d)) H):JL K [v] H Q E:=⟨v,rfl,d,h,q⟩
local macro_rules | `(tactic| wtm_at "gs")=>`(tactic| ((with_reducible apply zpF); (focus wtm_at "is")))
theorem DW(T:Txt K mg a):aJ P w K mg base aS 2 a.G8 a.F5 Ab (JL K):=by
 refine T.p6.F.ok UN ?_ ?_;wtm_at "b1"
 refine⟨_,(ao (bP (PW.pt (jD (ee (dD (bR (show aO _ (.builtin "isinstance") (jc K)from v_) rfl T.z_isinstance pN (ae (pv 0) (ae (nh (v:=.ty "tuple") rfl T.z_tuple eA rfl) af))))) (jV (bS (show aN _ (wU .NotEq) (fY K)from lq hu) (bR (show aO _ (.builtin "len") (cN K)from dX) rfl T.z_len dE (ae (pv 0) af)) ay (a_ _))))) (av (aE iZ)) bQ)
     (ao (bP (PW.pt (jD (ee (dD (au (Le T) hr T.Aq (ae (ar (pv 0)) af)))) (jV (ee (dD (au (Le T) hr T.Aq (ae (ar (pv 0)) af))))))) (av (aE iZ)) bQ)
     (av (aE (hV (fq Ca (ar (pv 0)) ay (a_ _)) (kR (fq (show aN _ (wU .Eq) (cv K)from de hu) (au (oy T) hr T.lC (ae (bR k_ rfl T.z_abs kA (ae (ar (pv 0)) af)) (ae (ar (pv 0)) af))) ay (a_ _)))))))),?_⟩
 wtm_at "cl";rw[show start EH [x0]=[some x0]from rfl];obtain⟨d,hd,q⟩:=h;k_few
 . rename_i e
   rw[zsw e]at q;exact q
 . rename_i e
   obtain⟨ds,rfl⟩:=NO.mp e;refine jm hd ?_;k_few
   . rename_i e
     rw[ztc (by omega)]at q;exact q
   . rename_i e
     obtain⟨d0,d1,rfl⟩:∃d0 d1,ds=[d0,d1]:=by
       match ds,e with
       | [d0,d1],_=>exact⟨d0,d1,rfl⟩
       | [],e=>simp at e
       | [_],e=>simp at e
       | _::_::_::_,e=>simp at e;omega
     refine aD (j:=0) hd rfl (λy0 h0=>?_);k_few
     . rename_i e
       rw[zpV e]at q;exact q
     . rename_i e0
       obtain⟨i,rfl⟩:=O0.mp e0;refine aD (j:=1) hd rfl (λy1 h1=>?_);k_few
       . rename_i e
         rw[znm e]at q;exact q
       . rename_i e1
         obtain⟨j,rfl⟩:=O0.mp e1;refine aD (j:=1) hd rfl (λy2 h2=>?_);cases cc.mp h2;k_few
         . refine aD (j:=0) hd rfl (λy3 h3=>?_)
           cases cc.mp h3;o_head aD (j:=1) hd rfl (λy4 h4=>?_);cases cc.mp h4;o_head pJ (by split<;>omega) (by omega) ?_;k_few
           have e3:bE (.tuple [.int i,.int j])=decide ((vB (if i<0 then -i else i) j:Nat)=(1:Int)):=by
             have e4:vB (if i<0 then -i else i) j=vB i j:=by
               split<;>simp
             rw[e4]
             show gg i j=_
             rename_i e5;simp only[gg,e5,decide_true,Q0];rw[vI,decide_eq_true_eq,decide_eq_true_eq];omega
           rw[e3]at q;exact q
         . rename_i e5
           have e3:bE (.tuple [.int i,.int j])=false:=by
             show gg i j=false
             simp only[gg,e5,decide_false,W1]
           rw[e3]at q;exact q
def RB(K:wb):Sp:=λvs H Q _=>∃x0 x1,vs=[x0,x1] /\ ∃(x y:Rat),Is K H x0 (N x)/\Is K H x1 (N y)/\ag 8999 x/\ag 8999 y /\ ∀v H',ah H H'->Is K H' v (N (x+y))->Q v H'
theorem Nu{K:wb}{H:Hp}{Q:VK}{E:XK}{x y:Rat}{v w:V}(h1:Is K H v (N x))(h2:Is K H w (N y))(b1:ag 8999 x)(b2:ag 8999 y)(q:∀v H',ah H H'->Is K H' v (N (x+y))->Q v H'):RB K [v,w] H Q E:=⟨_,_,rfl,x,y,h1,h2,b1,b2,q⟩
local macro_rules | `(tactic| wtm_at "gs")=>`(tactic| ((with_reducible apply Nu); (focus wtm_at "is"); (focus wtm_at "is"); (focus wtm_at "bdr"); (focus wtm_at "bdr"); intro _ _ _ _))
theorem f_(T:Txt K mg a):aJ P w K mg base aS 2 a.plus a.HI yV (RB K):=by
 refine T.fL.F.ok yc ?_ ?_;wtm_at "b2"
 refine⟨_,(ao (az 2 yc.nd (au (oy T) hr T.lC (ae (ar (pv 0)) (ae (ar (pv 1)) af))))
     (ao (az 3 yc.nd (aA cb (aA ck (ar (pv 0)) (aA eI (ar (pv 1)) (pv 2))) (aA ck (ar (pv 1)) (aA eI (ar (pv 0)) (pv 2)))))
     (ao (az 4 yc.nd (au (oy T) hr T.lC (ae (bR k_ rfl T.z_abs kA (ae (pv 3) af)) (ae (pv 2) af))))
     (av (aE (br (ae (aA eI (pv 3) (pv 4)) (ae (aA ck (aA eI (ar (pv 0)) (pv 2)) (aA eI (ar (pv 1)) (pv 4))) af)))))))),?_⟩
 wtm_at "cl";rw[show start Rq [x0,x1]=[some x0,some x1,none,none,none]from rfl];obtain⟨x,y,hx,hy,⟨bx1,bx2⟩,⟨by1,by2⟩,q⟩:=h;have px:=den_pos x;have py:=den_pos y;have ps:=yP x y;have pd:=DR x y;have c1:ng 0 (eH x y):=⟨by omega,oV bx2 (pG x y) px⟩;have c2:ng 0 (jf x y):=⟨by omega,oV (oV bx2 (pG x y) px) (Dm x y) ps⟩;have f1:=kP by2 (x_ x y) ps;have f2:=kP bx2 (pG x y) ps;have f3:=kP by2 (qE (Dm x y) (x_ x y)) pd;o_head pJ (by omega) (by omega) ?_;rw[show((vB (x.den:Int) (y.den:Int):Nat):Int)=eH x y from rfl];k_few;rw[show x.num*(y.den:Int).fdiv (eH x y)+y.num*(x.den:Int).fdiv (eH x y)=kc x y from rfl];o_head pJ (by split<;>omega) (by omega) ?_;rw[zR,show((vB (kc x y) (eH x y):Nat):Int)=jf x y from rfl];k_few;exact d_ (zyF x y) (zx9 x y) q
def LV(K:wb):Sp:=λvs H Q _=>∃x0 x1,vs=[x0,x1] /\ ∃(x y:Rat),Is K H x0 (N x)/\Is K H x1 (N y)/\ag 8999 x/\ag 8999 y /\ ∀v H',ah H H'->Is K H' v (N (x-y))->Q v H'
theorem Y9{K:wb}{H:Hp}{Q:VK}{E:XK}{x y:Rat}{v w:V}(h1:Is K H v (N x))(h2:Is K H w (N y))(b1:ag 8999 x)(b2:ag 8999 y)(q:∀v H',ah H H'->Is K H' v (N (x-y))->Q v H'):LV K [v,w] H Q E:=⟨_,_,rfl,x,y,h1,h2,b1,b2,q⟩
local macro_rules | `(tactic| wtm_at "gs")=>`(tactic| ((with_reducible apply Y9); (focus wtm_at "is"); (focus wtm_at "is"); (focus wtm_at "bdr"); (focus wtm_at "bdr"); intro _ _ _ _))
theorem tZ(T:Txt K mg a):aJ P w K mg base aS 3 a.minus a.Hu zS (LV K):=by
 refine T.nE.F.ok zw7 ?_ ?_;wtm_at "b2";refine⟨_,(av (aE (au (f_ T) hr T.fL (ae (pv 0) (ae (br (ae (iA ib (ar (pv 1))) (ae (ar (pv 1)) af))) af))))),?_⟩;wtm_at "cl";rw[show start BY [x0,x1]=[some x0,some x1]from rfl];obtain⟨x,y,hx,hy,bx,by',q⟩:=h;o_head d_ (r:=-y) (by simp) (by simp) (λv H' s hv=>?_);o_head Nu (by wtm_at "is") hv bx (zyS by') (λw H'' s2 hw=>?_);rw[zsZ]at hw;k_few;exact q w H'' (s.trans s2) hw
def Oz(K:wb):Sp:=λvs H Q _=>∃x0 x1,vs=[x0,x1] /\ ∃(x y:Rat),Is K H x0 (N x)/\Is K H x1 (N y)/\ag 8999 x/\ag 8999 y /\ ∀v H',ah H H'->Is K H' v (N (x*y))->Q v H'
theorem DQ{K:wb}{H:Hp}{Q:VK}{E:XK}{x y:Rat}{v w:V}(h1:Is K H v (N x))(h2:Is K H w (N y))(b1:ag 8999 x)(b2:ag 8999 y)(q:∀v H',ah H H'->Is K H' v (N (x*y))->Q v H'):Oz K [v,w] H Q E:=⟨_,_,rfl,x,y,h1,h2,b1,b2,q⟩
local macro_rules | `(tactic| wtm_at "gs")=>`(tactic| ((with_reducible apply DQ); (focus wtm_at "is"); (focus wtm_at "is"); (focus wtm_at "bdr"); (focus wtm_at "bdr"); intro _ _ _ _))
theorem kj(T:Txt K mg a):aJ P w K mg base aS 2 a.times a.Ho t9 (Oz K):=by
 refine T.jh.F.ok Dv ?_ ?_;wtm_at "b2"
 refine⟨_,(ao (az 2 Dv.nd (au (oy T) hr T.lC (ae (bR k_ rfl T.z_abs kA (ae (ar (pv 0)) af)) (ae (ar (pv 1)) af))))
     (ao (az 3 Dv.nd (au (oy T) hr T.lC (ae (bR k_ rfl T.z_abs kA (ae (ar (pv 1)) af)) (ae (ar (pv 0)) af))))
     (av (aE (br (ae (aA ck (aA eI (ar (pv 0)) (pv 2)) (aA eI (ar (pv 1)) (pv 3))) (ae (aA ck (aA eI (ar (pv 0)) (pv 3)) (aA eI (ar (pv 1)) (pv 2))) af))))))),?_⟩
 wtm_at "cl";rw[show start NP [x0,x1]=[some x0,some x1,none,none]from rfl];obtain⟨x,y,hx,hy,⟨bx1,bx2⟩,⟨by1,by2⟩,q⟩:=h;have px:=den_pos x;have py:=den_pos y;have p1:=mP x y;have p2:=mP y x;have c1:ng 0 (fV x y):=⟨by omega,oV by2 (mO x y) py⟩;have c2:ng 0 (fV y x):=⟨by omega,oV bx2 (mO y x) px⟩;have f1:=kP bx1 (sH x y) p1;have f2:=kP by1 (sH y x) p2;have f3:=kP bx2 (mO y x) p2;have f4:=kP by2 (mO x y) p1;o_head pJ (by split<;>omega) (by omega) ?_;rw[zR,show((vB x.num (y.den:Int):Nat):Int)=fV x y from rfl];o_head pJ (by split<;>omega) (by omega) ?_;rw[zR,show((vB y.num (x.den:Int):Nat):Int)=fV y x from rfl];k_few;exact d_ (zyo x y) (zyk x y) q
def RU(K:wb):Sp:=λvs H Q _=>∃x0 x1,vs=[x0,x1] /\ ∃(x y:Rat),Is K H x0 (N x)/\Is K H x1 (N y)/\ag 8999 x/\ag 8999 y/\y≠0 /\ ∀v H',ah H H'->Is K H' v (N (x / y))->Q v H'
theorem J7{K:wb}{H:Hp}{Q:VK}{E:XK}{x y:Rat}{v w:V}(h1:Is K H v (N x))(h2:Is K H w (N y))(b1:ag 8999 x)(b2:ag 8999 y)(hy:y≠0)(q:∀v H',ah H H'->Is K H' v (N (x / y))->Q v H'):RU K [v,w] H Q E:=⟨_,_,rfl,x,y,h1,h2,b1,b2,hy,q⟩
theorem MR(T:Txt K mg a):aJ P w K mg base aS 3 a.over a.HW zW (RU K):=by
 refine T.AH.F.ok M_ ?_ ?_;wtm_at "b2"
 refine⟨_,(ao (bP (bS (show aN _ (wU .Eq) (cv K)from de hu) (ar (pv 1)) ay (a_ _)) (av A8) bQ)
     (ao (az 2 M_.nd (yI (bS ny (ar (pv 1)) ay (a_ _)) (br (ae (ar (pv 1)) (ae (ar (pv 1)) af))) (br (ae (iA ib (ar (pv 1))) (ae (iA ib (ar (pv 1))) af)))))
     (av (aE (au (kj T) hr T.jh (ae (pv 0) (ae (pv 2) af))))))),?_⟩
 wtm_at "cl";rw[show start Lg [x0,x1]=[some x0,some x1,none]from rfl];obtain⟨x,y,hx,hy,bx,by',hn,q⟩:=h;k_few
 . rename_i z
   exact absurd z (rG hn)
 . rename_i z0 z
   refine d_ (r:=y⁻¹) (s_ z).1.symm (s_ z).2.symm (λv1 H1 S1 i1=>?_);o_head DQ (hx.by S1) i1 bx (Ml by' hn) (λv2 H2 S2 i2=>?_);rw[<- xG]at i2;k_few;exact q v2 H2 (S1.trans S2) i2
 . rename_i z0 z
   have z:y.num<0:=by omega
   refine d_ (r:=y⁻¹) (sP z).1.symm (sP z).2.symm (λv1 H1 S1 i1=>?_);o_head DQ (hx.by S1) i1 bx (Ml by' hn) (λv2 H2 S2 i2=>?_);rw[<- xG]at i2;k_few;exact q v2 H2 (S1.trans S2) i2
def Kz(K:wb):Sp:=λvs H Q _=>∃x0 x1,vs=[x0,x1] /\ ∃(x y:Rat),Is K H x0 (N x)/\Is K H x1 (N y)/\ag 8999 x/\ag 8999 y/\Q (.bl (decide (x<y))) H
theorem zzs{K:wb}{H:Hp}{Q:VK}{E:XK}{x y:Rat}{v w:V}(h1:Is K H v (N x))(h2:Is K H w (N y))(b1:ag 8999 x)(b2:ag 8999 y)(q:Q (.bl (decide (x<y))) H):Kz K [v,w] H Q E:=⟨_,_,rfl,x,y,h1,h2,b1,b2,q⟩
local macro_rules | `(tactic| wtm_at "gs")=>`(tactic| ((with_reducible apply zzs); (focus wtm_at "is"); (focus wtm_at "is"); (focus wtm_at "bdr"); (focus wtm_at "bdr")))
theorem gz(T:Txt K mg a):aJ P w K mg base aS 1 a.less a.HR yT (Kz K):=by
 refine T.fM.F.ok zzd ?_ ?_;wtm_at "b2";refine⟨_,(av (aE (fq lY (aA ck (ar (pv 0)) (ar (pv 1))) (aA ck (ar (pv 1)) (ar (pv 0))) (a_ _)))),?_⟩;wtm_at "cl";rw[show start DH [x0,x1]=[some x0,some x1]from rfl];obtain⟨x,y,hx,hy,⟨bx1,bx2⟩,⟨by1,by2⟩,q⟩:=h;k_few;rw[U4];exact q
def oR(x:Rat):Bool:=decide (0<x)&&(!decide (4<x))&&decide ((x.den:Int)<=8)
def N2(K:wb):Sp:=λvs H Q _=>∃x0,vs=[x0] /\ ∃x:Rat,Is K H x0 (N x)/\ag 4000 x/\Q (.bl (oR x)) H
theorem zpe{K:wb}{H:Hp}{Q:VK}{E:XK}{x:Rat}{v:V}(h:Is K H v (N x))(b:ag 4000 x)(q:Q (.bl (oR x)) H):N2 K [v] H Q E:=⟨_,rfl,x,h,b,q⟩
local macro_rules | `(tactic| wtm_at "gs")=>`(tactic| ((with_reducible apply zpe); (focus wtm_at "is"); (focus wtm_at "bdr")))
theorem zpn(T:Txt K mg a):aJ P w K mg base aS 2 a.G_ a.FT zL (N2 K):=by
 refine T.Gu.F.ok zpq ?_ ?_;wtm_at "b1";refine⟨_,(av (aE (hV (au (gz T) hr T.fM (ae (bW (v:=.ref a.cW) rfl T.dF rfl) (ae (pv 0) af))) (hV (my (au (gz T) hr T.fM (ae (bW (v:=.ref a.Aj) rfl T.RZ rfl) (ae (pv 0) af)))) (kR (fq nQ (ar (pv 0)) (oB rfl T.R3) (a_ _))))))),?_⟩;wtm_at "cl";rw[show start DP [x0]=[some x0]from rfl];obtain⟨x,hx,bx,q⟩:=h;unfold oR at q;k_few
 ·rename_i h1 h2
  rw[decide_eq_true h1,decide_eq_false h2]at q;exact q
 ·rename_i h1 h2
  rw[decide_eq_true h1,decide_eq_true h2]at q;exact q
 ·rename_i h1
  rw[decide_eq_false h1]at q;exact q
def p0(x:Rat):Bool:=(!decide (x<0))&&(!decide (1<x))&&decide ((x.den:Int)<=12)
def Nx(K:wb):Sp:=λvs H Q _=>∃x0,vs=[x0] /\ ∃x:Rat,Is K H x0 (N x)/\ag 4000 x/\Q (.bl (p0 x)) H
theorem zqr{K:wb}{H:Hp}{Q:VK}{E:XK}{x:Rat}{v:V}(h:Is K H v (N x))(b:ag 4000 x)(q:Q (.bl (p0 x)) H):Nx K [v] H Q E:=⟨_,rfl,x,h,b,q⟩
local macro_rules | `(tactic| wtm_at "gs")=>`(tactic| ((with_reducible apply zqr); (focus wtm_at "is"); (focus wtm_at "bdr")))
theorem SS(T:Txt K mg a):aJ P w K mg base aS 2 a.Hq a.Gd rJ (Nx K):=by
 refine T.GY.F.ok T_ ?_ ?_;wtm_at "b1";refine⟨_,(av (aE (hV (my (au (gz T) hr T.fM (ae (pv 0) (ae (bW (v:=.ref a.cW) rfl T.dF rfl) af)))) (hV (my (au (gz T) hr T.fM (ae (bW (v:=.ref a.dG) rfl T.eF rfl) (ae (pv 0) af)))) (kR (fq nQ (ar (pv 0)) (oB rfl T.R5) (a_ _))))))),?_⟩;wtm_at "cl";rw[show start CL [x0]=[some x0]from rfl];obtain⟨x,hx,bx,q⟩:=h;unfold p0 at q;k_few
 ·rename_i h1 h2
  rw[decide_eq_false h1,decide_eq_false h2]at q;exact q
 ·rename_i h1 h2
  rw[decide_eq_false h1,decide_eq_true h2]at q;exact q
 ·rename_i h1
  rw[decide_eq_true h1]at q;exact q
def lz(x y:Rat):Bool:=oR x&&p0 y && !decide (x+y<1)
def CN(K:wb):Sp:=λvs H Q _=>∃x0 x1,vs=[x0,x1]/\((∃d e,Is K H x0 d/\Is K H x1 e/\(bE d&&bE e)=false /\ ∀H',ah H H'->Q (.bl false) H')\/(∃x y:Rat,Is K H x0 (N x)/\Is K H x1 (N y)/\ag 1000 x/\ag 1000 y /\ ∀H',ah H H'->Q (.bl (lz x y)) H'))
theorem znc{K:wb}{H:Hp}{Q:VK}{E:XK}{d e:wD}{v w:V}(h1:Is K H v d)(h2:Is K H w e)(n:(bE d&&bE e)=false)(q:∀H',ah H H'->Q (.bl false) H'):CN K [v,w] H Q E:=⟨_,_,rfl,.inl ⟨d,e,h1,h2,n,q⟩⟩
theorem zpR{K:wb}{H:Hp}{Q:VK}{E:XK}{x y:Rat}{v w:V}(h1:Is K H v (N x))(h2:Is K H w (N y))(b1:ag 1000 x)(b2:ag 1000 y)(q:∀H',ah H H'->Q (.bl (lz x y)) H'):CN K [v,w] H Q E:=⟨_,_,rfl,.inr ⟨x,y,h1,h2,b1,b2,q⟩⟩
theorem zoL(T:Txt K mg a):aJ P w K mg base aS 3 a.G5 a.F6 rO (CN K):=by
 refine T.Gw.F.ok zpk ?_ ?_;wtm_at "b2"
 refine⟨_,(ao (bP (PW.pt (jD (ee (dD (au (DW T) hr T.p6 (ae (pv 0) af)))) (jV (ee (dD (au (DW T) hr T.p6 (ae (pv 1) af))))))) (av (aE iZ)) bQ)
     (av (aE (hV (au (zpn T) hr T.Gu (ae (pv 0) af)) (hV (au (SS T) hr T.GY (ae (pv 1) af)) (kR (my (au (gz T) hr T.fM (ae (au (f_ T) hr T.fL (ae (pv 0) (ae (pv 1) af))) (ae (bW (v:=.ref a.dG) rfl T.eF rfl) af)))))))))),?_⟩
 wtm_at "cl";rw[show start Ez [x0,x1]=[some x0,some x1]from rfl];rcases h with⟨d,e,hd,he,hn,q⟩ | ⟨x,y,hx,hy,bx,by',q⟩
 . k_few
   . exact q _ (ah.refl _)
   . exact q _ (ah.refl _)
   . rename_i h1 h2
     exact absurd hn (by rw[h1,h2];decide)
 . unfold lz at q
   k_few
   . rename_i z;rw[C7]at z;cases z
   . rename_i z;rw[C7]at z;cases z
   . rename_i h1 h2 v H' S hv
     rw[h1,h2]at q;exact q _ S
   . rename_i h1 h2
     rw[h1,h2]at q;exact q _ (ah.refl _)
   . rename_i h1
     rw[h1]at q;exact q _ (ah.refl _)
def JQ:wD->Bool
 | .tuple [d,e]=>!(bE d&&bE e)
 | _=>true
theorem zrs{d e:wD}(h:JQ (.tuple [d,e])=true):(bE d&&bE e)=false:=by
 have h:(!(bE d&&bE e))=true:=h;cases z:(bE d&&bE e)with
 | false=>rfl
 | true=>rw[z]at h;exact absurd h (by decide)
def IL(K:wb):Sp:=λvs H Q _=>∃x0,vs=[x0]/\((∃d,Is K H x0 d/\JQ d=true /\ ∀H',ah H H'->Q (.bl false) H')\/(∃x y:Rat,Is K H x0 (R x y)/\ag 1000 x/\ag 1000 y /\ ∀H',ah H H'->Q (.bl (lz x y)) H'))
theorem ZF{K:wb}{H:Hp}{Q:VK}{E:XK}{x y:Rat}{v:V}(h:Is K H v (R x y))(b1:ag 1000 x)(b2:ag 1000 y)(q:∀H',ah H H'->Q (.bl (lz x y)) H'):IL K [v] H Q E:=⟨_,rfl,.inr ⟨x,y,h,b1,b2,q⟩⟩
theorem zsh(T:Txt K mg a):aJ P w K mg base aS 4 a.HM a.GN zj (IL K):=by
 refine T.G6.F.ok zr9 ?_ ?_;wtm_at "b1";refine⟨_,(av (aE (hV (bR (show aO _ (.builtin "isinstance") (jc K)from v_) rfl T.z_isinstance pN (ae (pv 0) (ae (nh (v:=.ty "tuple") rfl T.z_tuple eA rfl) af))) (hV (fq (show aN _ (wU .Eq) (cv K)from de hu) (bR (show aO _ (.builtin "len") (cN K)from dX) rfl T.z_len dE (ae (pv 0) af)) ay (a_ _)) (kR (au (zoL T) hr T.Gw (ae (ar (pv 0)) (ae (ar (pv 0)) af)))))))),?_⟩;wtm_at "cl";rw[show start Dh [x0]=[some x0]from rfl];rcases h with⟨d,hd,hn,q⟩ | ⟨x,y,hr,bx,by',q⟩
 ·k_few
  ·rename_i e
   obtain⟨ds,rfl⟩:=NO.mp e;refine jm hd ?_;k_few
   ·rename_i e
    obtain⟨d0,d1,rfl⟩:∃d0 d1,ds=[d0,d1]:=by
     match ds,e with
     | [d0,d1],_=>exact⟨d0,d1,rfl⟩
     | [],e=>simp at e
     | [_],e=>simp at e
     | _::_::_::_,e=>simp at e;omega
    refine aD (j:=0) hd rfl (λy0 h0=>?_);o_head aD (j:=1) hd rfl (λy1 h1=>?_);o_head znc h0 h1 (zrs hn) (λH' S=>?_);k_few;exact q _ S
   ·exact q _ (ah.refl _)
  ·exact q _ (ah.refl _)
 ·k_few
  refine zpR (by assumption) (by assumption) bx by' (λH' S=>?_);k_few;exact q _ S
def oU(x:Rat):Str:=if 1<x then "rising" else if x=1 then "even" else "falling"
def Mj(K:wb):Sp:=λvs H Q _=>∃x0,vs=[x0] /\ ∃x y:Rat,Is K H x0 (R x y)/\ag 4000 x/\Q (.str (oU x)) H
theorem Lx{K:wb}{H:Hp}{Q:VK}{E:XK}{x y:Rat}{v:V}(h:Is K H v (R x y))(b:ag 4000 x)(q:Q (.str (oU x)) H):Mj K [v] H Q E:=⟨_,rfl,x,y,h,b,q⟩
theorem Lc(T:Txt K mg a):aJ P w K mg base aS 2 a.Iq a.HY zB (Mj K):=by
 refine T.AG.F.ok TK ?_ ?_;wtm_at "b1"
 refine⟨_,(ao (bP (dD (au (gz T) hr T.fM (ae (bW (v:=.ref a.dG) rfl T.eF rfl) (ae (ar (pv 0)) af)))) (av (aE gm)) bQ)
     (ao (bP (bS (show aN _ (wU .Eq) (cv K)from de hu) (ar (pv 0)) (bW (v:=.ref a.dG) rfl T.eF rfl) (a_ _)) (av (aE gm)) bQ)
     (av (aE gm)))),?_⟩
 wtm_at "cl";rw[show start Bw [x0]=[some x0]from rfl];obtain⟨x,y,hx,bx,q⟩:=h;unfold oU at q;k_few
 . rename_i h1
   rw[if_pos h1]at q;exact q
 . rename_i h1 _ _ h2
   rw[if_neg h1,if_pos h2]at q;exact q
 . rename_i h1 _ _ h2
   rw[if_neg h1,if_neg h2]at q;exact q
def EC(K:wb):Sp:=λvs H Q _=>∃x0 x1,vs=[x0,x1] /\ ∃(a b:Rat)(n:Int),x1=.int n/\Is K H x0 (R a b)/\ag 4000 a/\ag 4000 b/\0<=n/\n<=64/\(∀i,i<=n.toNat->ag 4000 (a^i))/\(∀i,i<=n.toNat->ag 4000 (aB a b i)) /\ ∀v H',ah H H'->Is K H' v (R (a^n.toNat) (aB a b n.toNat))->Q v H'
theorem NA{K:wb}{H:Hp}{Q:VK}{E:XK}{a b:Rat}{n:Int}{v:V}(h1:Is K H v (R a b))(b1:ag 4000 a)(b2:ag 4000 b)(h0:0<=n)(h64:n<=64)(f1:∀i,i<=n.toNat->ag 4000 (a^i))(f2:∀i,i<=n.toNat->ag 4000 (aB a b i))(q:∀v H',ah H H'->Is K H' v (R (a^n.toNat) (aB a b n.toNat))->Q v H'):EC K [v,.int n] H Q E:=⟨_,_,rfl,a,b,n,rfl,h1,b1,b2,h0,h64,f1,f2,q⟩
theorem AX{K:wb}{H:Hp}{Q:VK}{E:XK}{a b:Rat}{n:Int}{v:V}(h1:Is K H v (R a b))(b1:ag 10 a)(b2:ag 10 b)(h0:0<=n)(h64:n<=64)(q:∀v H',ah H H'->Is K H' v (R (a^n.toNat) (aB a b n.toNat))->Q v H'):EC K [v,.int n] H Q E :=
 NA h1 (b1.mono (by decide)) (b2.mono (by decide)) h0 h64 (λi hi=>(b1.pow i).mono (by omega)) (λi hi=>(b1.aB b2 i).mono (by omega)) q
theorem zf(T:Txt K mg a):aJ P w K mg base aS 3 a.Ib a.Hm zE (EC K):=by
 refine T.nD.F.ok m6 ?_ ?_;wtm_at "b2"
 refine⟨_,(ao (az 2 m6.nd (bW (v:=.ref a.dG) rfl T.eF rfl))
     (ao (az 3 m6.nd (bW (v:=.ref a.cW) rfl T.dF rfl))
     (ao (gk vL rfl (jH rfl T.z_range (ae (pv 1) af)) (bL (i:=4) m6.nd rfl (Or.inl rfl)) (ao (az 2 m6.nd (au (kj T) hr T.jh (ae (ar (pv 0)) (ae (pv 2) af))))
     (av (az 3 m6.nd (au (f_ T) hr T.fL (ae (au (kj T) hr T.jh (ae (ar (pv 0)) (ae (pv 3) af))) (ae (ar (pv 0)) af)))))))
     (av (aE (br (ae (pv 2) (ae (pv 3) af)))))))),?_⟩
 wtm_at "cl";rw[show start Jw [x0,x1]=[some x0,some x1,none,none,none]from rfl];obtain⟨r,s',n,rfl,hr',ba,bb,h0,h64,f1,f2,q⟩:=h;o_head kT (n:=n) (by omega) (by omega) (λi σ H'=>∃(f g:V)(o:Option V),σ = [some x0,some (.int n),some f,some g,o]/\ah H H'/\Is K H' f (N (r^i))/\Is K H' g (N (aB r s' i))) ⟨_,_,_,rfl,ah.refl H,by rw[qw];exact mQ.mpr ⟨_,rfl,T.rn H⟩,mQ.mpr ⟨_,rfl,T.d9 H⟩⟩ ?_ ?_
 . rintro i σ H' hi ⟨f,g,o,rfl,S1,hf,hg⟩
   have hr1:=hr'.by S1;have bf:ag 4000 (r^i):=f1 i (by omega);have bg:ag 4000 (aB r s' i):=f2 i (by omega);have bg2:ag 8999 (r*aB r s' i):=(ba.mul bg).mono (by decide);o_head ⟨_,_,_,rfl,S1.trans (ah.trans (by assumption) (ah.trans (by assumption) (by assumption))),?_,?_⟩
   . rw[WQ,Qb]
     wtm_at "is"
   . wtm_at "is"
 . rintro σ H' ⟨f,g,o,rfl,S1,hf,hg⟩
   wtm_at "ga";exact q _ _ (S1.trans (by assumption)) (by assumption)
def OY(K:wb):Sp:=λvs H Q _=>∃x0 x1,vs=[x0,x1] /\ ∃(f g x:Rat),Is K H x0 (R f g)/\Is K H x1 (N x)/\ag 700 f/\ag 1500 g/\ag 8100 x /\ ∀v H',ah H H'->Is K H' v (N (f*x+g))->Q v H'
theorem NJ{K:wb}{H:Hp}{Q:VK}{E:XK}{f g x:Rat}{v w:V}(h1:Is K H v (R f g))(h2:Is K H w (N x))(b1:ag 700 f)(b2:ag 1500 g)(b3:ag 8100 x)(q:∀v H',ah H H'->Is K H' v (N (f*x+g))->Q v H'):OY K [v,w] H Q E:=⟨_,_,rfl,f,g,x,h1,h2,b1,b2,b3,q⟩
theorem IJ(T:Txt K mg a):aJ P w K mg base aS 3 a.G3 a.FP rZ (OY K):=by
 refine T.Ao.F.ok zo8 ?_ ?_;wtm_at "b2";refine⟨_,(av (aE (au (f_ T) hr T.fL (ae (au (kj T) hr T.jh (ae (ar (pv 0)) (ae (pv 1) af))) (ae (ar (pv 0)) af))))),?_⟩;wtm_at "cl";rw[show start AQ [x0,x1]=[some x0,some x1]from rfl];obtain⟨f,g,x,hp,hx,bf,bg,bx,q⟩:=h;k_few;rename_i hz;exact q _ _ (ah.trans (by assumption) (by assumption)) hz
def zb(K:wb):Sp:=λvs H Q _=>∃x0,vs=[x0]/\((∃d,Is K H x0 d/\bE d=false/\Q (.bl false) H)\/(∃x:Rat,Is K H x0 (N x)/\ag 4000 x/\Q (.bl (jA x)) H))
theorem TF{K:wb}{H:Hp}{Q:VK}{E:XK}{d:wD}{v:V}(h:Is K H v d)(n:bE d=false)(q:Q (.bl false) H):zb K [v] H Q E:=⟨_,rfl,.inl ⟨d,h,n,q⟩⟩
theorem ZG{K:wb}{H:Hp}{Q:VK}{E:XK}{x:Rat}{v:V}(h:Is K H v (N x))(b:ag 4000 x)(q:Q (.bl (jA x)) H):zb K [v] H Q E:=⟨_,rfl,.inr ⟨x,h,b,q⟩⟩
theorem zqC(T:Txt K mg a):aJ P w K mg base aS 3 a.HB a.Gh sF (zb K):=by
 refine T.GQ.F.ok zrg ?_ ?_;wtm_at "b1"
 refine⟨_,(ao (bP (PW.pt (jD (ee (dD (au (DW T) hr T.p6 (ae (pv 0) af)))) (jV (dD (au (gz T) hr T.fM (ae (pv 0) (ae (bW (v:=.ref a.cW) rfl T.dF rfl) af))))))) (av (aE iZ)) bQ)
     (av (aE (hV (au (gz T) hr T.fM (ae (pv 0) (ae (bW (v:=.ref a.dG) rfl T.eF rfl) af))) (kR (fq nQ (ar (pv 0)) (oB rfl T.R4) (a_ _))))))),?_⟩
 wtm_at "cl";rw[show start Ds [x0]=[some x0]from rfl];rcases h with⟨d,hd,hn,q⟩ | ⟨x,hx,bx,q⟩
 . k_few
   . exact q
   . rename_i e;rw[hn]at e;cases e
 . unfold jA at q
   k_few
   . rename_i z;rw[C7]at z;cases z
   . rename_i h1
     rw[decide_eq_true h1]at q;exact q
   . rename_i h1 h2
     rw[decide_eq_false h1,decide_eq_true h2]at q;exact q
   . rename_i h1 h2
     rw[decide_eq_false h1,decide_eq_false h2]at q;exact q
def fo:wD->Bool
 | .tuple [.int p,.int q]=>gg p q&&jA (wz p q)
 | _=>false
theorem IF(x:Rat):fo (N x)=jA x:=by
 show(gg x.num x.den&&jA (wz x.num x.den))=jA x
 rw[PJ,Vr,Q0]
theorem TY{d:wD}(h:bE d=true):∃x:Rat,d=N x:=by
 match d with
 | .tuple [.int p,.int q] =>
  obtain⟨r,e1,e2⟩:=zo7 (show gg p q=true from h);exact⟨r,by rw[e1,e2];rfl⟩
 | .none=>simp[bE]at h
 | .bool _=>simp[bE]at h
 | .int _=>simp[bE]at h
 | .str _=>simp[bE]at h
 | .list _=>simp[bE]at h
 | .dict _=>simp[bE]at h
 | .tuple []=>simp[bE]at h
 | .tuple [_]=>simp[bE]at h
 | .tuple (_::_::_::_)=>simp[bE]at h
 | .tuple [.none,_]=>simp[bE]at h
 | .tuple [.bool _,_]=>simp[bE]at h
 | .tuple [.str _,_]=>simp[bE]at h
 | .tuple [.tuple _,_]=>simp[bE]at h
 | .tuple [.list _,_]=>simp[bE]at h
 | .tuple [.dict _,_]=>simp[bE]at h
 | .tuple [.int _,.none]=>simp[bE]at h
 | .tuple [.int _,.bool _]=>simp[bE]at h
 | .tuple [.int _,.str _]=>simp[bE]at h
 | .tuple [.int _,.tuple _]=>simp[bE]at h
 | .tuple [.int _,.list _]=>simp[bE]at h
 | .tuple [.int _,.dict _]=>simp[bE]at h
theorem zzA{d:wD}(h:bE d=false):fo d=false:=by
 unfold fo
 split
 ·rename_i p q
  rw[show gg p q=false from h];rfl
 ·rfl
theorem Nv{K:wb}{H:Hp}{Q:VK}{E:XK}{d:wD}{v:V}(h:Is K H v d)(b:∀x,d=N x->ag 4000 x)(q:Q (.bl (fo d)) H):zb K [v] H Q E:=by
 cases e:bE d with
 | false=>rw[zzA e]at q;exact TF h e q
 | true =>
  obtain⟨x,rfl⟩:=TY e;rw[IF]at q;exact ZG h (b x rfl) q
def Iu(K:wb):Sp:=λvs H Q _=>∃x0,vs=[x0]/\((∃d,Is K H x0 d/\(nV d || hJ d)=false /\ ∀H',ah H H'->Q (.bl false) H')\/(∃ds,(Is K H x0 (.list ds)\/Is K H x0 (.tuple ds))/\(∀e∈ds,∀x,e=N x->ag 4000 x) /\ ∀H',ah H H'->Q (.bl (decide (1<=ds.length)&&decide (ds.length<=8)&&ds.all fo)) H'))
theorem zng{K:wb}{H:Hp}{Q:VK}{E:XK}{ds:List wD}{v:V}(h:Is K H v (.list ds)\/Is K H v (.tuple ds))(b:∀e∈ds,∀x,e=N x->ag 4000 x)(q:∀H',ah H H'->Q (.bl (decide (1<=ds.length)&&decide (ds.length<=8)&&ds.all fo)) H'):Iu K [v] H Q E:=⟨_,rfl,.inr ⟨ds,h,b,q⟩⟩
theorem Yp(T:Txt K mg a):aJ P w K mg base aS 4 a.GP a.FE Ag (Iu K):=by
 refine T.FO.F.ok znk ?_ ?_;wtm_at "b1"
 refine⟨_,(ao (bP (PW.pt (jD (ee (dD (bR (show aO _ (.builtin "isinstance") (CM K)from zta) rfl T.z_isinstance pN (ae (pv 0) (ae (br (ae (nh (v:=.ty "list") rfl T.z_list mG rfl) (ae (nh (v:=.ty "tuple") rfl T.z_tuple eA rfl) af))) af))))) (jV (ee (zvG nQ nQ ay (bR (show aO _ (.builtin "len") (cN K)from dX) rfl T.z_len dE (ae (pv 0) af)) (oB rfl T.R6)))))) (av (aE iZ)) bQ)
     (av (aE (bR (show aO _ (.builtin "all") (mJ K)from tP rfl) rfl T.z_all sN (ae (d4 rfl (cF.by (N':=["one"]) (src:=[none]) rfl (show cV _ (aC tI).names tm ["one"] [none]=true from by decide +kernel)) (RT (pv 0)) (λ_ _ _ _ _=>(bL (i:=0) (show(["one"]:List Str).Nodup from by decide) rfl (Or.inl rfl))) (λ_ _ _ _ _=>dY) (λ_ _ _ _ _=>(au (zqC (K:=K) (mg:=mg) (a:=a) T) hr T.GQ (ae (pv 0) af)))) af))))),?_⟩
 wtm_at "cl";rw[show start tm [x0]=[some x0]from rfl];rcases h with⟨d,hd,hn,q⟩ | ⟨ds,hd,bd,q⟩
 . k_few
   refine mz (by simp) (λtp H1 _ S1 e1=>?_);o_head C2 (hd.by S1) e1 ?_;rw[hn];k_few;exact q H1 S1
 . rcases hd with hd | hd
   . k_few
     refine mz (by simp) (λtp H1 _ S1 e1=>?_);o_head C2 (hd.by S1) e1 ?_;rw[show(nV (.list ds) || hJ (.list ds))=true from rfl];obtain⟨ap,us,rfl,hs,tu⟩:=cB.mp (hd.by S1);have hul:=tu.length;o_head jN hs ?_;rw[hul];k_few
     . rename_i z0 z
       have:=q H1 S1;rw[decide_eq_false (show ¬ ds.length<=8 by omega),QK,W1]at this;exact this
     . rename_i z0 z
       have h1:1<=ds.length:=by omega
       have h8:ds.length<=8:=by omega
       refine .inl (kr (o0:=none) (tl:=[]) hs rfl (λj y H'=>y=.bl (fo (ds.getD j .none))) ?_ ?_)
       . intro D i x ys o H2 hx inv
         obtain⟨hi,ix⟩:=kB tu hx;o_head Nv (ix.by inv.same) (λx e=>bd _ (getD_mem hi) x e) ?_;k_few;exact eU inv (by omega) (λ_ _ _ _ _ z=>z) ⟨_,rfl⟩ (ah.refl _) rfl
       . intro D ys H2 hn S2 hD hl hr
         have hys:ys=(ds.map fo).map V.bl:=by
           refine Vj (by rw[hl,hul,wm,wm]) λj h1 h2=>?_
           have:=hr j ys[j] (wc h1);rw[this,Vk,Vk,wa,wc]
           rfl
         subst hys;o_head oY (.of hD) ?_;k_few;have e:(ds.map fo).all id=ds.all fo:=by rw[XC];rfl
         have:=q H2 (S1.trans S2);rw[decide_eq_true h1,decide_eq_true h8,<- e]at this;exact this
     . rename_i z
       have:=q H1 S1;rw[decide_eq_false (show ¬ 1<=ds.length by omega),W1,W1]at this;exact this
   . k_few
     refine mz (by simp) (λtp H1 _ S1 e1=>?_);o_head C2 (hd.by S1) e1 ?_;rw[show(nV (.tuple ds) || hJ (.tuple ds))=true from rfl];obtain⟨ap,us,rfl,hs,tu⟩:=bM.mp (hd.by S1);have hul:=tu.length;o_head OS hs ?_;rw[hul];k_few
     . rename_i z0 z
       have:=q H1 S1;rw[decide_eq_false (show ¬ ds.length<=8 by omega),QK,W1]at this;exact this
     . rename_i z0 z
       have h1:1<=ds.length:=by omega
       have h8:ds.length<=8:=by omega
       refine .inr (jF (o0:=none) (tl:=[]) hs rfl (λj y H'=>y=.bl (fo (ds.getD j .none))) ?_ ?_)
       . intro D i x ys o H2 hx inv
         obtain⟨hi,ix⟩:=kB tu hx;o_head Nv (ix.by inv.same) (λx e=>bd _ (getD_mem hi) x e) ?_;k_few;exact eU inv (by omega) (λ_ _ _ _ _ z=>z) ⟨_,rfl⟩ (ah.refl _) rfl
       . intro D ys H2 hn S2 hD hl hr
         have hys:ys=(ds.map fo).map V.bl:=by
           refine Vj (by rw[hl,hul,wm,wm]) λj h1 h2=>?_
           have:=hr j ys[j] (wc h1);rw[this,Vk,Vk,wa,wc]
           rfl
         subst hys;o_head oY (.of hD) ?_;k_few;have e:(ds.map fo).all id=ds.all fo:=by rw[XC];rfl
         have:=q H2 (S1.trans S2);rw[decide_eq_true h1,decide_eq_true h8,<- e]at this;exact this
     . rename_i z
       have:=q H1 S1;rw[decide_eq_false (show ¬ 1<=ds.length by omega),W1,W1]at this;exact this
theorem zuP{a b:Rat}(h:aV a b):lz a b=true:=by
 obtain⟨h1,h2,h3,h4,h5,h6,h7⟩:=h;have k2:¬ (4:Rat)<a:=VT.mpr h2;have k4:¬ b<0:=VT.mpr h4;have k5:¬ (1:Rat)<b:=VT.mpr h5;have k7:¬ a+b<1:=VT.mpr h7;have k3:(a.den:Int)<=8:=by omega
 have k6:(b.den:Int)<=12:=by omega
 simp[lz,oR,p0,h1,k2,k3,k4,k5,k6,k7]
theorem zBd{xs:List Rat}(h:∀x∈xs,eD x):(xs.map N).all fo=true:=by
 rw[WI];intro d hd;obtain⟨x,hx,rfl⟩:=wW.mp hd;rw[IF];exact(h x hx).is
theorem YV{xs:List Rat}(h:∀x∈xs,eD x):∀e∈xs.map N,∀x,e=N x->ag 4000 x:=by
 intro e he x hx;obtain⟨y,hy,rfl⟩:=wW.mp he;rw[<- Yw hx];exact(h y hy).eW.mono (by decide)
def KG(K:wb):Sp:=λvs H Q _=>∃x0 x1,vs=[x0,x1] /\ ∃(a b:Rat)(xs:List Rat),Is K H x0 (R a b)/\aV a b/\(Is K H x1 (LN xs)\/Is K H x1 (TN xs))/\1<=xs.length/\xs.length<=8/\(∀x∈xs,eD x) /\ ∀v H',ah H H'->Is K H' v (bD a b xs)->Q v H'
theorem Y1{K:wb}{H:Hp}{Q:VK}{E:XK}{a b:Rat}{xs:List Rat}{v w:V}(h1:Is K H v (R a b))(ok:aV a b)(h2:Is K H w (LN xs)\/Is K H w (TN xs))(h3:1<=xs.length)(h4:xs.length<=8)(h5:∀x∈xs,eD x)(q:∀v H',ah H H'->Is K H' v (bD a b xs)->Q v H'):KG K [v,w] H Q E:=⟨_,_,rfl,a,b,xs,h1,ok,h2,h3,h4,h5,q⟩
theorem UG(T:Txt K mg a):aJ P w K mg base aS 5 a.Ht a.Gg zD (KG K):=by
 refine T.GO.F.ok zqx ?_ ?_;wtm_at "b2"
 refine⟨_,(ao (bP (ee (dD (au (zsh T) hr T.G6 (ae (pv 0) af)))) (av A8) bQ)
     (ao (bP (ee (dD (au (Yp T) hr T.FO (ae (pv 1) af)))) (av A8) bQ)
     (av (aE (br (ae (pv 0) (ae (dQ (show aO _ (.type "tuple") (d5 K)from fI) rfl T.z_tuple eA (ae (pv 1) af)) af))))))),?_⟩
 wtm_at "cl";rw[show start AU [x0,x1]=[some x0,some x1]from rfl];obtain⟨ra,rb,xs,hr,ok,hp,h1,h8,hph,q⟩:=h;o_head ZF hr (ok.ba.mono (by decide)) (ok.bb.mono (by decide)) (λH1 S1=>?_);rw[zuP ok];k_few;have hp1:Is K H1 x1 (LN xs)\/Is K H1 x1 (TN xs):=hp.imp (λz=>z.by S1) (λz=>z.by S1);refine zng (ds:=xs.map N) hp1 (YV hph) (λH2 S2=>?_);rw[zBd hph,wm,decide_eq_true h1,decide_eq_true h8,show(true&&true&&true)=true from rfl];have hp2:Is K H2 x1 (LN xs)\/Is K H2 x1 (TN xs):=hp1.imp (λz=>z.by S2) (λz=>z.by S2);have hr2:Is K H2 x0 (R ra rb):=(hr.by S1).by S2;k_few;rcases hp2 with z | z
 . refine gX z (λw H3 S3 i3=>?_)
   o_head cK (ds:=[R ra rb,TN xs]) (by simp) (.cons (hr2.by S3) (.cons i3 .nil)) (λv H4 S4 i4=>?_);exact q v H4 (S1.trans (S2.trans (S3.trans S4))) i4
 . refine JU z ?_
   o_head cK (ds:=[R ra rb,TN xs]) (by simp) (.cons hr2 (.cons z .nil)) (λv H4 S4 i4=>?_);exact q v H4 (S1.trans (S2.trans S4)) i4
def OF(K:wb):Sp:=λvs H Q _=>∃x0,vs=[x0] /\ ∃xs:List Rat,(Is K H x0 (LN xs)\/Is K H x0 (TN xs))/\1<=xs.length/\(∀i,ag 4000 (xs.getD i 0)) /\ ∀v,Is K H v (N (bV xs))->Q v H
theorem PK{K:wb}{H:Hp}{Q:VK}{E:XK}{xs:List Rat}{v:V}(h:Is K H v (LN xs)\/Is K H v (TN xs))(h1:1<=xs.length)(b:∀i,ag 4000 (xs.getD i 0))(q:∀v,Is K H v (N (bV xs))->Q v H):OF K [v] H Q E:=⟨_,rfl,xs,h,h1,b,q⟩
theorem Ph(T:Txt K mg a):aJ P w K mg base aS 2 a.HE a.Gk sr (OF K):=by
 refine T.Ap.F.ok tE ?_ ?_;wtm_at "b1"
 refine⟨_,(ao (az 1 tE.nd (ar (pv 0)))
     (ao (gk vL rfl (RT (pv 0)) (bL (i:=2) tE.nd rfl (Or.inl rfl)) (av (bP (dD (au (gz T) hr T.fM (ae (pv 1) (ae (pv 2) af)))) (av (az 1 tE.nd (pv 2))) bQ)))
     (av (aE (pv 1))))),?_⟩
 wtm_at "cl";rw[show start LQ [x0]=[some x0,none,none]from rfl];obtain⟨xs,hx,h1,bx,q⟩:=h;rcases hx with hx | hx
 . obtain⟨ap,us,rfl,hs,tu⟩:=cB.mp hx
   have hul:us.length=xs.length:=by rw[tu.length,wm]
   o_head jW hx (by decide) (by omega) (λv0 i0=>?_);have i0:Is K H v0 (N (mx (xs.getD 0 0) [])):=i0;o_head .inl (yS hs (λi σ H'=>∃o v,σ = [some (.ref ap),some v,o]/\H'=H/\Is K H v (N (mx (xs.getD 0 0) (xs.take i)))) ⟨_,v0,rfl,rfl,by rw[u6];exact i0⟩ (λi σ H' _ h=>by obtain⟨_,_,_,rfl,_⟩:=h;exact hs) ?_ ?_)
   . rintro i x σ H' hx' ⟨o,v,rfl,rfl,iv⟩
     obtain⟨hi,ix⟩:=df tu hx';have b1:=Ob bx h1 i;have b2:=bx i;k_few
     . rename_i z
       exact⟨_,x,rfl,rfl,by rw[lI hi,sf,if_pos z];exact ix⟩
     . rename_i z
       exact⟨_,v,rfl,rfl,by rw[lI hi,sf,if_neg z];exact iv⟩
   . rintro σ H' ⟨o,v,rfl,rfl,iv⟩
     rw[hul,Wx]at iv;k_few;exact q v iv
 . obtain⟨ap,us,rfl,hs,tu⟩:=bM.mp hx
   have hul:us.length=xs.length:=by rw[tu.length,wm]
   o_head zy6 hx (by decide) (by omega) (λv0 i0=>?_);have i0:Is K H v0 (N (mx (xs.getD 0 0) [])):=i0;o_head .inr (Zr hs (λi σ H'=>∃o v,σ = [some (.ref ap),some v,o]/\H'=H/\Is K H v (N (mx (xs.getD 0 0) (xs.take i)))) ⟨_,v0,rfl,rfl,by rw[u6];exact i0⟩ (λi σ H' _ h=>by obtain⟨_,_,_,rfl,_⟩:=h;exact hs) ?_ ?_)
   . rintro i x σ H' hx' ⟨o,v,rfl,rfl,iv⟩
     obtain⟨hi,ix⟩:=df tu hx';have b1:=Ob bx h1 i;have b2:=bx i;k_few
     . rename_i z
       exact⟨_,x,rfl,rfl,by rw[lI hi,sf,if_pos z];exact ix⟩
     . rename_i z
       exact⟨_,v,rfl,rfl,by rw[lI hi,sf,if_neg z];exact iv⟩
   . rintro σ H' ⟨o,v,rfl,rfl,iv⟩
     rw[hul,Wx]at iv;k_few;exact q v iv
def Jq(K:wb):Sp:=λvs H Q _=>∃x0 x1,vs=[x0,x1] /\ ∃(xs:List Rat)(v:Rat),Is K H x0 (TN xs)/\Is K H x1 (N v)/\xs.length<=900 /\ ∀u H',ah H H'->Is K H' u (TW (eY xs v))->Q u H'
theorem SX{K:wb}{H:Hp}{Q:VK}{E:XK}{xs:List Rat}{v:Rat}{w u:V}(h1:Is K H w (TN xs))(h2:Is K H u (N v))(hl:xs.length<=900)(q:∀u H',ah H H'->Is K H' u (TW (eY xs v))->Q u H'):Jq K [w,u] H Q E:=⟨_,_,rfl,xs,v,h1,h2,hl,q⟩
theorem YE(T:Txt K mg a):aJ P w K mg base aS 1 a.Hs a.Gb zh (Jq K):=by
 refine T.GL.F.ok zrt ?_ ?_;wtm_at "b2";refine⟨_,(av (aE (dQ (show aO _ (.type "tuple") (d5 K)from fI) rfl T.z_tuple eA (ae (d4 rfl (cF.by (N':=["worm","own","phase"]) (src:=[none,none,some 1]) rfl (show cV _ (aC yk).names yL ["worm","own","phase"] [none,none,some 1]=true from by decide +kernel)) (JB rfl T.z_enumerate (ae (pv 0) af)) (λ_ _ _ _ _=>by exact(show PG _ _ (kz K 2 _)from mW (n:=2) rfl (gC (bL (i:=0) (show(["worm","own","phase"]:List Str).Nodup from by decide) rfl (Or.inl rfl)) (gC (bL (i:=1) (show(["worm","own","phase"]:List Str).Nodup from by decide) rfl (Or.inl rfl)) nk)))) (λ_ _ _ _ _=>(pY (bS (show aN _ (wU .Eq) (cv K)from de hu) (pv 1) (pv 2) (a_ _)))) (λ_ _ _ _ _=>(pv 0))) af)))),?_⟩;wtm_at "cl";rw[show start yL [x0,x1]=[some x0,some x1]from rfl];obtain⟨xs,v,hx,hv,hl,q⟩:=h;obtain⟨ap,us,rfl,hu',tu⟩:=bM.mp hx;have hul:us.length=xs.length:=by rw[tu.length,wm]
 o_head zqt hu' (λD i ys σ' H'=>(∃o1 o2,σ'=[o1,o2,some x1])/\H D=none/\ah H H'/\H' D=some (.lst (vz ((wq i).filter λw=>decide (xs.getD w 0=v))))) (λD H' n s e=>⟨⟨_,_,rfl⟩,n,s,e⟩) (λD i ys σ' H' h=>h.2.2.1.jx hu') ?_ ?_
 ·rintro D i x ys σ' H1 c H2 hx' ⟨⟨o1,o2,rfl⟩,n,S1,e1⟩ hc S2 e2
  obtain⟨hi,ix⟩:=df tu hx';have T2:=S1.trans S2;have ix2:=ix.by T2;have hv2:=hv.by T2;have e12:=S2 _ _ e1
  have hfl:((wq i).filter λw=>decide (xs.getD w 0=v)).length<=i:=by
   have:=WH (λw=>decide (xs.getD w 0=v)) (wq i);rw[vk]at this;exact this
  refine m4 (.of e2) rfl ?_;k_few
  ·rename_i z
   refine kQ e12 (by rw[jo];omega) (λH6 E6 e6=>⟨⟨_,_,rfl⟩,n,T2.grow n E6,?_⟩);rw[LW (n:=i),decide_eq_true z,if_pos rfl,B0];exact e6
  ·rename_i z
   refine⟨[],⟨_,_,rfl⟩,n,T2,?_⟩;rw[LW (n:=i),decide_eq_false z,if_neg (by decide),We];exact e12
 ·rintro D ys σ' H1 ⟨_,n,S1,e1⟩
  rw[hul]at e1;o_head yE (.of e1) (λl H2 n2 S2 e3=>?_);exact q _ H2 (S1.trans S2) (CK.mpr ⟨l,rfl,.of e3⟩)
def Ja(K:wb):Sp:=λvs H Q _=>∃x0,vs=[x0] /\ ∃(a b:Rat)(xs:List Rat),Is K H x0 (bD a b xs)/\xs.length<=8/\(∀i,ag 4000 (xs.getD i 0)) /\ ∀l H' us,H l=none->ah H H'->H' l=some (.lst us)->ak K H' us ((ai xs).map (jI xs))->Q (.ref l) H'
theorem MS{K:wb}{H:Hp}{Q:VK}{E:XK}{a b:Rat}{xs:List Rat}{v:V}(h:Is K H v (bD a b xs))(h8:xs.length<=8)(bx:∀i,ag 4000 (xs.getD i 0))(q:∀l H' us,H l=none->ah H H'->H' l=some (.lst us)->ak K H' us ((ai xs).map (jI xs))->Q (.ref l) H'):Ja K [v] H Q E:=⟨_,rfl,a,b,xs,h,h8,bx,q⟩
theorem zsW{m:Nat}{xs:List Rat}(b:∀i,ag m (xs.getD i 0)){x:Rat}(h:x∈xs):ag m x:=by
 obtain⟨j,hj,rfl⟩:=wX h;have:=b j;rw[wa,wc hj]at this;exact this
theorem T1{α β : Type}(f : α -> β)(l:List α):(!(l.map f).isEmpty) = !l.isEmpty:=by cases l<;>rfl
theorem ML(T:Txt K mg a):aJ P w K mg base aS 3 a.H_ a.G4 rF (Ja K):=by
 refine T.AB.F.ok nO ?_ ?_;wtm_at "b1"
 refine⟨_,(ao (az 1 nO.nd (e_ af))
     (ao (az 2 nO.nd (dQ (show aO _ (.type "list") (kg K)from yB) rfl T.z_list mG (ae (ar (pv 0)) af)))
     (ao (lU vL (Cj (pv 2)) (ao (az 3 nO.nd (au (Ph T) hr T.Ap (ae (pv 2) af)))
     (ao (mD (md WM WK WL kE (pv 1) (ae (br (ae (pv 3) (ae (au (YE T) hr T.GL (ae (ar (pv 0)) (ae (pv 3) af))) af))) af)))
     (av (lP (i:=2) nO.nd rfl (Or.inl rfl) rfl (cF.by (N':=["other","phase"]) (src:=[none,some 3]) rfl (show cV _ (aC zd).names C1 ["other","phase"] [none,some 3]=true from by decide +kernel)) (gx (pv 2)) (λ_ _ _ _ _=>(bL (i:=0) (show(["other","phase"]:List Str).Nodup from by decide) rfl (Or.inl rfl))) (λ_ _ _ _ _=>(pY (bS (show aN _ (wU .NotEq) (fY K)from lq hu) (pv 0) (pv 1) (a_ _)))) (λ_ _ _ _ _=>(pv 0)))))))
     (av (aE (pv 1)))))),?_⟩
 wtm_at "cl";rw[show start C1 [x0]=[some x0,none,none,none]from rfl];obtain⟨ra,rb,xs,hw,h8,bx,q⟩:=h;o_head fi (by simp) (λlt H1 n1 S1 e1=>?_);o_head aD (j:=1) (hw.by S1) rfl (λvp ip=>?_);o_head zJ ip (λll H2 us n2 S2 e2 t2=>?_);have nlt:ll≠lt:=λz=>by subst z;rw[e1]at n2;cases n2
 o_head sy (λm σ' H'=>∃(ll:wf)(left done:List Rat)(us ws:List V)(f:Nat)(o3:Option V),σ'=[some x0,some (.ref lt),some (.ref ll),o3]/\m=left.length/\ah H H'/\ll≠lt/\H' lt=some (.lst ws)/\ak K H' ws (done.map (jI xs))/\H' ll=some (.lst us)/\ak K H' us (left.map N)/\(∀y∈left,y∈xs)/\left.length<=f/\done.length+left.length<=xs.length/\done++hZ f left=ai xs) _ ⟨ll,xs,[],us,[],xs.length,_,rfl,rfl,S1.trans S2,nlt,S2 _ _ e1,.nil,e2,t2,λy h=>h,wo _,by simp,rfl⟩ ?_;rintro m σ' H3 ⟨ll,left,done,us,ws,f,o3,rfl,rfl,S3,nl,et,tt',el,tl',sub,hf,hdl,heq⟩;o_head Rh (c_ el tl') ?_;rw[T1]
 by_cases he:left=[]
 . rw[show(!left.isEmpty)=false by rw[he];rfl]
   refine mX ?_;rw[he,Co,We]at heq;rw[heq]at tt';k_few;exact q lt H3 ws n1 S3 et tt'
 . rw [show (!left.isEmpty) = true by cases left with
       | nil=>exact absurd rfl he
       | cons y l=>rfl]
   refine mB ?_;refine yM ?_;have hpos:=qa.mpr he
   have bl:∀i,ag 4000 (left.getD i 0):=λi=>by
     rcases wB i left.length with z | z
     . exact zsW bx (sub _ (getD_mem z))
     . rw[wa,wL z];exact ag.zero.mono (by decide)
   obtain⟨f',rfl⟩:∃f',f=f'+1:=⟨f-1,by omega⟩;rw[mw he]at heq;have hless:=IQ he;have hwl:=tt'.length;rw[wm]at hwl;o_head PK (.inl (c_ el tl')) hpos bl (λvm im=>?_);o_head kS (aK.of et) ?_;o_head aD (j:=1) (hw.by S3) rfl (λvq iq=>?_);o_head SX iq im (by omega) (λv4 H4 S4 i4=>?_);o_head cK (ds:=[N (bV left),TW (eY xs (bV left))]) (by simp) (.cons (im.by S4) (.cons i4 .nil)) (λv5 H5 S5 i5=>?_);k_few;have T5:=S4.trans S5;refine kO (T5 _ _ et) (by omega) (λH6 E6 e6=>?_);have K6:=E6.keep (T5 _ _ et);have el6:=E6 _ _ nl (T5 _ _ el);have tl6:ak K H6 us (left.map N):=ak.keep (T5.keep.trans K6) _ _ (fQ _) tl'
   have tt6:ak K H6 (ws++[v5]) ((done++[bV left]).map (jI xs)):=by
     rw[vE];exact(ak.keep (T5.keep.trans K6) _ _ (zu7 ..) tt').snoc (i5.ky K6 (MU ..))
   have im6:=(im.by T5).fH K6;have S6:ah H H6:=(S3.trans T5).grow n1 E6;generalize hmx:bV left=mxx at *;o_head pD (.of el6) (λD i ys σ' H'=>(∃o,σ'=[o,some vm])/\H6 D=none/\ah H6 H'/\H' D=some (.lst ys)/\ak K H' ys (((left.take i).filter λy=>!decide (y=mxx)).map N)) (λD H' n s e=>⟨⟨_,rfl⟩,n,s,e,.nil⟩) (λD i ys σ' H' h=>h.2.2.1.seq (.of el6)) ?_ ?_
   . rintro D i x ys σ' H7 hx ⟨⟨o,rfl⟩,n7,S7,e7,t7⟩
     obtain⟨hi,ix⟩:=df tl6 hx;have ix7:=ix.by S7;have im7:=im6.by S7;have hyl:=t7.length;rw[wm]at hyl;have hfl:=WH (λy=>!decide (y=mxx)) (left.take i);rw[Wn]at hfl;k_few
     . rename_i z
       refine kQ e7 (by omega) (λH8 E8 e8=>⟨⟨_,rfl⟩,n7,S7.grow n7 E8,e8,?_⟩);have K8:=E8.keep e7;rw[lI hi,W5,WY,decide_eq_false z,vE];exact(ak.keep K8 _ _ (fQ _) t7).append (.cons (ix7.fH K8) .nil)
     . rename_i z
       refine⟨ys,⟨_,rfl⟩,n7,S7,e7,?_⟩;rw[lI hi,W5,WY,decide_eq_true (by first | exact z | exact qp.mp z)];have:([]:List Rat).filter (λy=>!decide (y=mxx))=[]:=rfl
       simpa using t7
   . rintro D ys σ' H7 ⟨_,n7,S7,e7,t7⟩
     have hul:=tl6.length;rw[wm]at hul;rw[hul,Wx]at t7;k_few;exact⟨(left.filter λy=>!decide (y=mxx)).length,by omega,D,_,done++[mxx],ys,ws++[v5],f',_,rfl,rfl,S6.trans S7,(λz=>by subst z;rw[e6]at n7;cases n7),S7 _ _ e6,ak.same S7 _ _ tt6,e7,t7,λy hy=>sub y (ve.mp hy).1,by omega,by rw[wT];simp only[Wh];omega,by rw[VG];exact heq⟩
def Pn(K:wb):Sp:=λvs H Q _=>∃x0 x1,vs=[x0,x1] /\ ∃(lw:wf)(left:List Nat)(ps:List Rat),x0=.ref lw/\H lw=some (.lst (vz left))/\Is K H x1 (LN ps)/\(∀w∈left,w<ps.length)/\left.length<=900/\(∀i,ag 4000 (ps.getD i 0)) /\ ∀v H',ah H H'->Is K H' v (TW (aF ps left))->Q v H'
theorem MB{K:wb}{H:Hp}{Q:VK}{E:XK}{lw:wf}{left:List Nat}{ps:List Rat}{v:V}(e:H lw=some (.lst (vz left)))(h:Is K H v (LN ps))(hw:∀w∈left,w<ps.length)(hl:left.length<=900)(b:∀i,ag 4000 (ps.getD i 0))(q:∀v H',ah H H'->Is K H' v (TW (aF ps left))->Q v H'):Pn K [.ref lw,v] H Q E:=⟨_,_,rfl,lw,left,ps,rfl,e,h,hw,hl,b,q⟩
theorem zvk(ps:List Rat)(l:List Nat):(aF ps l).length<=l.length:=WH _ _
theorem JK(T:Txt K mg a):aJ P w K mg base aS 2 a.GF a.Fw sD (Pn K):=by
 refine T.An.F.ok Zu ?_ ?_;wtm_at "b2";refine⟨_,(av (aE (dQ (show aO _ (.type "tuple") (d5 K)from fI) rfl T.z_tuple eA (ae (d4 rfl (cF.by (N':=["worm","phases"]) (src:=[none,some 1]) rfl (show cV _ (aC yO).names yi ["worm","phases"] [none,some 1]=true from by decide +kernel)) (gx (pv 0)) (λ_ _ _ _ _=>(bL (i:=0) (show(["worm","phases"]:List Str).Nodup from by decide) rfl (Or.inl rfl))) (λ_ _ _ _ _=>(pY (ee (dD (au (gz (K:=K) (mg:=mg) (a:=a) T) hr T.fM (ae (dH (show fZ _ (cQ K)from cY) (pv 1) (pv 0) (λ_ _=>rfl)) (ae (bW (v:=.ref a.dG) rfl T.eF rfl) af))))))) (λ_ _ _ _ _=>(pv 0))) af)))),?_⟩;wtm_at "cl";rw[show start yi [x0,x1]=[some x0,some x1]from rfl];obtain⟨lw,left,ps,rfl,e1,hx,hw,hl,bp,q⟩:=h;o_head pD (.of e1) (λD i ys σ' H'=>(∃o,σ'=[o,some x1])/\H D=none/\ah H H'/\H' D=some (.lst (vz (aF ps (left.take i))))) (λD H' n s e=>⟨⟨_,rfl⟩,n,s,e⟩) (λD i ys σ' H' h=>h.2.2.1.seq (.of e1)) ?_ ?_
 ·rintro D i x ys σ' H1 hx' ⟨⟨o,rfl⟩,n,S1,e2⟩
  obtain⟨hi,rfl⟩:=BZ hx';have hx1:=hx.by S1;have hlt:=hw _ (vJ hi);have bw:=bp left[i];have hle:=zvk ps (left.take i);have htl:(left.take i).length<=900:=by rw[Wn];omega
  o_head jW hx1 (by omega) (by omega) (λv iv=>?_);rw[wP]at iv;generalize hww:left[i]=ww at *;k_few
  ·rename_i z
   refine kQ e2 (by rw[jo];omega) (λH6 E6 e6=>⟨⟨_,rfl⟩,n,S1.grow n E6,?_⟩);rw[ox hi,hww,Zf z,B0];exact e6
  ·rename_i z
   refine⟨[],⟨_,rfl⟩,n,S1,?_⟩;rw[ox hi,hww,Yr (by first | exact z | exact qp.mp z)];exact e2
 ·rintro D ys σ' H1 ⟨_,n,S1,e2⟩
  rw[jo,Wx]at e2;o_head yE (.of e2) (λl H2 n2 S2 e3=>?_);exact q _ H2 (S1.trans S2) (CK.mpr ⟨l,rfl,.of e3⟩)
def Kv(K:wb):Sp:=λvs H Q _=>∃x0,vs=[x0] /\ ∃(a b:Rat)(xs:List Rat)(m:Nat),Is K H x0 (bD a b xs)/\ag 10 a/\ag 10 b/\1<=xs.length/\xs.length<=8/\Cm m xs/\m+2+21*xs.length<=3950 /\ ∀v H',ah H H'->Is K H' v (GD a b xs)->Q v H'
theorem A1{K:wb}{H:Hp}{Q:VK}{E:XK}{a b:Rat}{xs:List Rat}{m:Nat}{v:V}(h:Is K H v (bD a b xs))(ba:ag 10 a)(bb:ag 10 b)(h1:1<=xs.length)(h8:xs.length<=8)(c:Cm m xs)(hm:m+2+21*xs.length<=3950)(q:∀v H',ah H H'->Is K H' v (GD a b xs)->Q v H'):Kv K [v] H Q E:=⟨_,rfl,a,b,xs,m,h,ba,bb,h1,h8,c,hm,q⟩
structure zBH(K:wb)(a b:Rat)(xs:List Rat)(m:Nat)(H H':Hp)(vw:V)(lp lv ll:wf)(left:List Nat)(ps:List Rat)(done:List (List Nat))(f:Nat)(pv wv:List V)(vwave:V):Prop where
 same:ah H H'
 hp:H lp=none
 hv:H lv=none
 iw:Is K H' vw (N (1-bV xs))
 nv:lp≠lv
 Bp:ll≠lp
 tL:ll≠lv
 ep:H' lp=some (.lst pv)
 tp:ak K H' pv (ps.map N)
 el:H' ll=some (.lst (vz left))
 ev:H' lv=some (.lst wv)
 tv:ak K H' wv (done.map TW)
 iv:Is K H' vwave (TW (aF ps left))
 nd:left.Nodup
 lt:∀w∈left,w<xs.length
 len:ps.length=xs.length
 fl:left.length<=f
 dl:done.length+left.length<=xs.length
 cm:Cm (m+2+21*(xs.length-left.length)) ps
 w1:done++(cq a b f ps left).1=cf a b xs
 w2:(cq a b f ps left).2=(dS a b xs).2
def ME(K:wb)(a b:Rat)(xs:List Rat)(m:Nat)(H:Hp)(x0 vw:V)(lp lv:wf)(k:Nat)(σ':L2.St)(H':Hp):Prop:=∃(ll:wf)(left:List Nat)(ps:List Rat)(done:List (List Nat))(f:Nat)(pv wv:List V)(vwave:V)(o6 o7:Option V),σ'=[some x0,some vw,some (.ref lp),some (.ref ll),some (.ref lv),some vwave,o6,o7,none]/\k=left.length/\zBH K a b xs m H H' vw lp lv ll left ps done f pv wv vwave
theorem oG{H:Hp}{p q:wf}{o:HO}(h:H p=none)(k:H q=some o):p≠q:=λe=>by rw[e,k]at h;cases h
theorem ZY{α β γ : Type}(f : α -> β)(g : β -> γ)(l:List α):(!((l.map f).map g).isEmpty) = !l.isEmpty:=by cases l<;>rfl
theorem zxa{α : Type}{l:List α}(h:l≠[]):(!l.isEmpty)=true:=by cases l with
 | nil=>exact absurd rfl h
 | cons x l=>rfl
theorem DN(T:Txt K mg a):aJ P w K mg base aS 4 a.lH a.HQ tf (Kv K):=by
 refine T.rg.F.ok ig ?_ ?_;wtm_at "b1"
 refine⟨_,(ao (az 1 ig.nd (au (tZ T) hr T.nE (ae (bW (v:=.ref a.dG) rfl T.eF rfl) (ae (au (Ph T) hr T.Ap (ae (ar (pv 0)) af)) af))))
     (ao (lP (i:=2) ig.nd rfl (Or.inl rfl) rfl (cF.by (N':=["phase","wait"]) (src:=[none,some 1]) rfl (show cV _ (aC nq).names nS ["phase","wait"] [none,some 1]=true from by decide +kernel)) (jT (ar (pv 0))) (λ_ _ _ _ _=>(bL (i:=0) (show(["phase","wait"]:List Str).Nodup from by decide) rfl (Or.inl rfl))) (λ_ _ _ _ _=>dY) (λ_ _ _ _ _=>(au (f_ (K:=K) (mg:=mg) (a:=a) T) hr T.fL (ae (pv 0) (ae (pv 1) af)))))
     (ao (az 3 ig.nd (zpG rfl rfl T.z_list rfl T.z_range (ae (bR (show aO _ (.builtin "len") (cN K)from dX) rfl T.z_len dE (ae (pv 2) af)) af)))
     (ao (az 4 ig.nd (e_ af))
     (ao (az 5 ig.nd (au (JK T) hr T.An (ae (pv 3) (ae (pv 2) af))))
     (ao (lU vL (Cj (pv 5)) (ao (mD (md WM WK WL kE (pv 4) (ae (pv 5) af)))
     (ao (az 3 ig.nd (d4 rfl (cF.by (N':=["worm","wave"]) (src:=[none,some 5]) rfl (show cV _ (aC nq).names nS ["worm","wave"] [none,some 5]=true from by decide +kernel)) (gx (pv 3)) (λ_ _ _ _ _=>(bL (i:=0) (show(["worm","wave"]:List Str).Nodup from by decide) rfl (Or.inl rfl))) (λ_ _ _ _ _=>(pY (bS (show aN _ (wU .NotIn) (j9 K true)from zu3) (pv 0) (pv 1) (by with_unfolding_all rfl)))) (λ_ _ _ _ _=>(pv 0))))
     (ao (az 6 ig.nd (au (zf T) hr T.nD (ae (ar (pv 0)) (ae (bR (show aO _ (.builtin "len") (cN K)from dX) rfl T.z_len dE (ae (pv 5) af)) af))))
     (ao (gk vL rfl (gx (pv 3)) (bL (i:=7) ig.nd rfl (Or.inl rfl)) (av (mC (au (IJ T) hr T.Ao (ae (pv 6) (ae (dH cY (pv 2) (pv 7) (λ_ _=>rfl)) af))) (pA (pv 2) (pv 7) oq))))
     (av (az 5 ig.nd (au (JK T) hr T.An (ae (pv 3) (ae (pv 2) af))))))))))
     (ao (lP (i:=8) ig.nd rfl (Or.inl rfl) rfl (cF.by (N':=["worm","phase","left"]) (src:=[none,none,some 3]) rfl (show cV _ (aC nq).names nS ["worm","phase","left"] [none,none,some 3]=true from by decide +kernel)) (zww rfl T.z_enumerate (ae (pv 2) af)) (λ_ _ _ _ _=>by exact(show PG _ _ (kz K 2 _)from mW (n:=2) rfl (gC (bL (i:=0) (show(["worm","phase","left"]:List Str).Nodup from by decide) rfl (Or.inl rfl)) (gC (bL (i:=1) (show(["worm","phase","left"]:List Str).Nodup from by decide) rfl (Or.inl rfl)) nk)))) (λ_ _ _ _ _=>dY) (λ_ _ _ _ _=>(yI (bS (show aN _ (wU .In) (j9 K false)from zBq) (pv 0) (pv 2) (by with_unfolding_all rfl)) (pv 1) (bW (v:=.ref a.cW) rfl T.dF rfl))))
     (av (aE (br (ae (pv 1) (ae (dQ (show aO _ (.type "tuple") (d5 K)from fI) rfl T.z_tuple eA (ae (pv 4) af)) (ae (br (ae (ar (pv 0)) (ae (dQ (show aO _ (.type "tuple") (d5 K)from fI) rfl T.z_tuple eA (ae (pv 8) af)) af))) af))))))))))))),?_⟩
 wtm_at "cl";rw[show start nS [x0]=[some x0,none,none,none,none,none,none,none,none]from rfl];obtain⟨ra,rb,xs,m,hw,ba,bb,h1,h8,cm,hm,q⟩:=h;have bx:∀i,ag 4000 (xs.getD i 0):=λi=>(cm.get i).mono (by omega)
 have bm:ag 3950 (bV xs):=(cm.eW (gO h1)).mono (by omega);o_head aD (j:=1) hw rfl (λvp ip=>?_);o_head PK (.inr ip) h1 bx (λvm im=>?_);k_few;rename_i vw H1 S1 iw;refine aD (j:=1) (hw.by S1) rfl (λvp1 ip1=>?_);obtain⟨ap,us,rfl,hu,tu⟩:=bM.mp ip1;refine jF (o0:=none) (tl:=[some vw]) hu rfl (λj y H'=>Is K H' y (N ((bA xs).getD j 0))) ?_ ?_
 . intro D i x ys o H2 hx inv
   obtain⟨hi,ix⟩:=df tu hx;have S2:=inv.same;have ix2:=ix.by S2;have iw2:=iw.by S2;have bi:=bx i;have bw:ag 3952 (1-bV xs):=(ag.one.sub bm).mono (by decide);k_few;rename_i v3 H3 S3 i3;exact eU inv (by omega) eZ ⟨_,rfl⟩ S3 (by rw[ZJ hi];exact i3)
 . intro lp ys H2 hnp S2 hD hl hr
   have hl':ys.length=(bA xs).length:=by rw[hl,tu.length,wm,fh]
   have tp:ak K H2 ys ((bA xs).map N):=fE hl' hr;have iw2:=iw.by S2;have T2:=S1.trans S2;have hpH:H lp=none:=iW S1 hnp;clear hl hr hu tu ip1 ip im iw S1 S2 hnp;o_head TQ (c_ hD tp) ?_;rw[fh];o_head Tc (n:=xs.length) (by omega) (λll H3 n3 S3 e3=>?_);o_head fi (by simp) (λlv H4 n4 S4 e4=>?_);k_few;have hD4:=S4 _ _ (S3 _ _ hD);have tp4:ak K H4 ys ((bA xs).map N):=ak.same (S3.trans S4) _ _ tp;have jy:Cm (m+2) (bA xs):=(Cm.rise (h:=0) (cm.jO (ys:=0::xs) λy hy=>by rcases wK.mp hy with rfl | hy;(exact .inr rfl);exact .inl hy) (gO h1)).jO λy hy=>.inl (wy _ hy)
   have b3:∀i,ag 4000 ((bA xs).getD i 0):=λi=>(jy.get i).mono (by omega)
   refine MB (S4 _ _ e3) (c_ hD4 tp4) (λw hw'=>by rw[fh];exact wG.mp hw') (by rw[vk];omega) b3 (λvwave H5 S5 i5=>?_);have T5:=T2.trans (S3.trans (S4.trans S5));have hvH:H lv=none:=iW (T2.trans S3) n4;have nv:lp≠lv:=(oG n4 (S3 _ _ hD)).symm;have Bp:ll≠lp:=oG n3 hD;have tL:ll≠lv:=(oG n4 e3).symm
   have G0:ME K ra rb xs m H x0 vw lp lv xs.length [some x0,some vw,some (.ref lp),some (.ref ll),some (.ref lv),some vwave,none,none,none] H5:=by
     refine⟨ll,wq xs.length,bA xs,[],xs.length,ys,[],vwave,none,none,rfl,by rw[vk],T5,hpH,hvH,iw2.by (S3.trans (S4.trans S5)),nv,Bp,tL,S5 _ _ hD4,ak.same S5 _ _ tp4,S5 _ _ (S4 _ _ e3),S5 _ _ e4,.nil,i5,WZ,λw hw'=>wG.mp hw',fh xs,by rw[vk];exact wo _,by rw[vk];simp,jy.mono (by omega),?_,rfl⟩;rw[Qs];rfl
   clear T5 S5 S4 S3 T2 hD hD4 tp tp4 b3 jy n3 n4 e3 e4 iw2 i5 hl';o_head sy (ME K ra rb xs m H x0 vw lp lv) _ G0 ?_;clear G0 nv Bp tL;rintro k σ' H6 ⟨ll,left,ps,done,f,pv,wv,vwave,o6,o7,rfl,hk,G⟩;have bp:∀i,ag 4000 (ps.getD i 0):=λi=>(G.cm.get i).mono (by have:=G.dl;omega)
   o_head Yt (show Is K H6 vwave (.tuple (((aF ps left).map λ(w:Nat)=>(w:Int)).map PyData.int))from G.iv) ?_;rw[ZY]
   by_cases he:aF ps left=[]
   . rw[show(!(aF ps left).isEmpty)=false by rw[he];rfl]
     refine mX ?_;have w1:=G.w1;have w2:=G.w2;rw[mM he]at w1 w2;rw[We]at w1;have eps:ps=(dS ra rb xs).2.2:=congrArg Uj w2;have elf:left=(dS ra rb xs).2.1:=congrArg Ui w2;have hph:iF left ps=cX ra rb xs:=by rw[cX,<- eps,<- elf]
     o_head zwq (.of G.ep) (o0:=none) (o0':=none) (tl:=[some (.ref ll)]) rfl (λj y H'=>Is K H' y (N ((iF left ps).getD j 0))) eZ ?_ ?_
     . intro D i x zs o1 o2 H7 c hx inv hc
       obtain⟨hi,ix⟩:=df G.tp hx;have S7:=inv.2.2.1;refine m4 (.of hc) rfl ?_;o_head ZZ (aK.of (S7 _ _ G.el)) ?_;k_few
       . rename_i z
         exact yt inv (by have:=G.len;omega) eZ ⟨_,_,rfl⟩ (ah.refl _) (by rw[lZ hi,if_pos z];exact ix.by S7)
       . rename_i z
         exact yt inv (by have:=G.len;omega) eZ ⟨_,_,rfl⟩ (ah.refl _) (by rw[lZ hi,if_neg z];exact dM 0 (T.d9 _) rfl rfl)
     . intro D zs H7 hn S7 hD hl hr
       have hpl:=G.tp.length;rw[wm]at hpl;have tz:ak K H7 zs ((iF left ps).map N):=fE (by rw[hl,Od,hpl]) hr;rw[hph]at tz;have tv:=ak.same S7 _ _ G.tv;have ev:=S7 _ _ G.ev;have iw7:=G.iw.by S7;have T7:=G.same.trans S7;rw[w1]at tv;o_head gX (cB.mpr ⟨lv,wv,rfl,.of ev,tv⟩) (λv8 H8 S8 i8=>?_);o_head aD (j:=0) (hw.by (T7.trans S8)) rfl (λv9 i9=>?_);o_head gX (c_ (S8 _ _ hD) (ak.same S8 _ _ tz)) (λv10 H10 S10 i10=>?_);o_head cK (ds:=[R ra rb,TN (cX ra rb xs)]) (by simp) (.cons (i9.by S10) (.cons i10 .nil)) (λv11 H11 S11 i11=>?_);o_head cK (ds:=[N (1-bV xs),kH (cf ra rb xs),bD ra rb (cX ra rb xs)]) (by simp) (.cons (iw7.by (S8.trans (S10.trans S11))) (.cons (i8.by (S10.trans S11)) (.cons i11 .nil))) (λv12 H12 S12 i12=>?_);exact q v12 H12 (T7.trans (S8.trans (S10.trans (S11.trans S12)))) i12
   . rw[zxa he]
     refine mB ?_;refine yM ?_;have hwl:=G.tv.length;rw[wm]at hwl;have hdl:=G.dl;have hlen:=DF ps left;have hpos:0<(aF ps left).length:=qa.mpr he;o_head kS (aK.of G.ev) ?_;o_head kO G.ev (by omega) (λH7 E7 e7=>?_);have K7:bG H6 H7:=E7.keep G.ev;have S7:ah H H7:=G.same.grow G.hv E7;have el7:=E7 _ _ G.tL G.el;have ep7:=E7 _ _ G.nv G.ep;have tp7:=ak.keep K7 _ _ (fQ _) G.tp;have iv7:=G.iv.ky K7 (CA _);have iw7:=G.iw.fH K7
     have tv7:ak K H7 (wv++[vwave]) ((done++[aF ps left]).map TW):=by
       rw[vE];exact(ak.keep K7 _ _ (tN _) G.tv).snoc iv7
     obtain⟨aw,rfl,hsw⟩:=CK.mp iv7;o_head pD (.of el7) (λD i ys σ' H'=>(∃o,σ'=[o,some (.ref aw)])/\H7 D=none/\ah H7 H'/\H' D=some (.lst (vz (bK (left.take i) (aF ps left))))) (λD H' n s e=>⟨⟨_,rfl⟩,n,s,e⟩) (λD i ys σ' H' h=>h.2.2.1.seq (.of el7)) ?_ ?_
     . rintro D i x ys σ' H8 hx' ⟨⟨o,rfl⟩,n,S8,e8⟩
       obtain⟨hi,rfl⟩:=BZ hx';have hle:(bK (left.take i) (aF ps left)).length<=(left.take i).length:=WH _ _;rw[Wn]at hle;o_head zsH (S8.jx hsw) ?_;generalize hww:left[i]=ww at *;k_few
       . rename_i z
         refine kQ e8 (by rw[jo];omega) (λH9 E9 e9=>⟨⟨_,rfl⟩,n,S8.grow n E9,?_⟩);rw[ox hi,hww,zvd z,B0];exact e9
       . rename_i z
         refine⟨[],⟨_,rfl⟩,n,S8,?_⟩;rw[ox hi,hww,Z3 (by first | exact z | exact qp.mp z)];exact e8
     . rintro D ys σ' H8 ⟨_,n8,S8,e8⟩
       rw[jo,Wx]at e8;have nD1:D≠lp:=oG n8 ep7;have nD2:D≠lv:=oG n8 e7;have T8:=S7.trans S8;have iv8:=iv7.by S8;o_head aD (j:=0) (hw.by T8) rfl (λvr ir=>?_);o_head Bu iv8 ?_;o_head AX ir ba bb (by omega) (by omega) (λvpush H9 S9 ipush=>?_);rw[wP]at ipush;have bf:ag 700 (ra^(aF ps left).length):=(ba.pow _).mono (by omega);have bg:ag 1500 (aB ra rb (aF ps left).length):=(ba.aB bb _).mono (by omega);have T9:=S8.trans S9;have ep9:=T9 _ _ ep7;have tp9:ak K H9 pv (ps.map N):=ak.same T9 _ _ tp7;have e9:=S9 _ _ e8;have ev9:=T9 _ _ e7;have ndl:=mT (wave:=aF ps left) G.nd;have ltl:=mK (wave:=aF ps left) G.lt;generalize hL:bK left (aF ps left)=left' at *;o_head yS (.of e9) (λi σ'' H''=>∃o pv',σ''=[some x0,some vw,some (.ref lp),some (.ref D),some (.ref lv),some (.ref aw),some vpush,o,none]/\Exc lp H9 H''/\H'' lp=some (.lst pv')/\ak K H'' pv' ((cC (ra^(aF ps left).length) (aB ra rb (aF ps left).length) ps (left'.take i)).map N)) ⟨_,pv,rfl,Exc.refl _ _,ep9,tp9⟩ (λi σ'' H'' _ ⟨_,_,_,e,_⟩=>.of (e _ _ nD1 e9)) ?_ ?_
       . rintro i x σ'' H10 hx' ⟨o,pv',rfl,E10,e10,t10⟩
         obtain⟨hi,rfl⟩:=BZ hx';have K10:bG H9 H10:=E10.keep ep9;have hlt:=ltl _ (vJ hi);have hpl:=g6 (ra^(aF ps left).length) (aB ra rb (aF ps left).length) (left'.take i) ps;have hps:=G.len
         have bq:ag 4000 ((cC (ra^(aF ps left).length) (aB ra rb (aF ps left).length) ps (left'.take i)).getD left'[i] 0):=by
           have nt:(left'.take i).Nodup:=ndl.sublist (XM ..);rw[iV _ _ _ _ nt (λw hw'=>by rw[hps];exact ltl w (ui _ _ hw'))];rw[if_neg]
           . exact bp _
           . intro hm
             obtain⟨j,hj,ej⟩:=wX hm;rw[Wn]at hj;rw[XR]at ej;exact absurd ej ((Wa.mp ndl) j i (by omega) hi (by omega))
         have ip10:=ipush.ky K10 (Bs _ _);generalize hww:left'[i]=ww at *;generalize hqs:cC (ra^(aF ps left).length) (aB ra rb (aF ps left).length) ps (left'.take i)=qs at *;o_head jW (c_ e10 t10) (by omega) (by omega) (λv11 i11=>?_);rw[wP]at i11;o_head NJ ip10 i11 bf bg (bq.mono (by decide)) (λv12 H12 S12 i12=>?_);have e12:=S12 _ _ e10;have hvl:=t10.length;rw[wm]at hvl;o_head r8 (j:=ww) e12 (by unfold gG;rw[if_pos (by omega),if_pos (by omega)];simp) (λH13 E13 e13=>?_);refine⟨_,_,rfl,E10.trans (S12.exc.trans E13),e13,?_⟩;have K13:=E13.keep e12;rw[ox hi,hww,zq7,hqs];refine fE (by rw[Vw,Vw];exact hvl) (λj v hj=>?_);rw[VH]at hj
         by_cases hjw:ww=j
         . subst hjw
           rw[if_pos rfl,if_pos (by omega)]at hj;cases hj;rw[RV (by omega)];exact i12.fH K13
         . rw[if_neg hjw]at hj
           rw[N8 hjw];obtain⟨_,ij⟩:=df t10 hj;exact(ij.by S12).fH K13
       . rintro σ'' H10 ⟨o,pv',rfl,E10,e10,t10⟩
         rw[jo,Wx]at t10;have K10:bG H9 H10:=E10.keep ep9;have hps:=G.len
         have cm10:Cm (m+2+21*(xs.length-left'.length)) (cC (ra^(aF ps left).length) (aB ra rb (aF ps left).length) ps left'):=by
           have c0:Cm (m+2+21*(xs.length-left.length)) (0::ps):=G.cm.jO λy hy=>by rcases wK.mp hy with rfl | hy;(exact .inr rfl);exact .inl hy
           exact((c0.wave ba bb (aF ps left).length ndl (λw hw'=>by rw[hps];exact ltl w hw')).jO λy hy=>.inl (wy _ hy)).mono (by omega)
         have hpl:=g6 (ra^(aF ps left).length) (aB ra rb (aF ps left).length) left' ps;have w1:=G.w1;have w2:=G.w2;have hfl:=G.fl;obtain⟨f',rfl⟩:∃f',f=f'+1:=⟨f-1,by omega⟩;rw[jg he,hL]at w1 w2;generalize hqs:cC (ra^(aF ps left).length) (aB ra rb (aF ps left).length) ps left'=qs at *;k_few;have e10':=E10 _ _ nD1 e9;refine MB e10' (c_ e10 t10) (λw hw'=>by rw[hpl,hps];exact ltl w hw') (by omega) (λi=>(cm10.get i).mono (by omega)) (λvwave2 H11 S11 i11=>?_);k_few;have KA:=T9.keep.trans K10;refine⟨left'.length,by omega,D,left',qs,done++[aF ps left],f',pv',wv++[V.ref aw],vwave2,_,_,rfl,rfl,?_⟩;exact⟨((S7.trans T9).grow G.hp E10).trans S11,G.hp,G.hv,(iw7.fH KA).by S11,G.nv,nD1,nD2,S11 _ _ e10,ak.same S11 _ _ t10,S11 _ _ e10',S11 _ _ (E10 _ _ G.nv.symm ev9),ak.same S11 _ _ (ak.keep KA _ _ (tN _) tv7),i11,ndl,ltl,by rw[hpl];exact hps,by omega,by rw[wT];simp;omega,cm10,by rw[VG];exact w1,w2⟩
def Jz(K:wb):Sp:=λvs H Q _=>∃x0 x1,vs=[x0,x1] /\ ∃(a b:Rat)(xs:List Rat)(n:Int),x1=.int n/\Is K H x0 (bD a b xs)/\ag 10 a/\ag 10 b/\1<=xs.length/\xs.length<=8/\0<=n/\n<=40/\(∀i,i<=n.toNat->Cm 3700 (aP a b xs i::aj a b xs i)) /\ ∀l H',H l=none->ah H H'->Is K H' (.ref l) (.list (fW a b xs n.toNat))->Q (.ref l) H'
theorem MK{K:wb}{H:Hp}{Q:VK}{E:XK}{a b:Rat}{xs:List Rat}{n:Int}{v:V}(h:Is K H v (bD a b xs))(ba:ag 10 a)(bb:ag 10 b)(h1:1<=xs.length)(h8:xs.length<=8)(n0:0<=n)(n1:n<=40)(c:∀i,i<=n.toNat->Cm 3700 (aP a b xs i::aj a b xs i))(q:∀l H',H l=none->ah H H'->Is K H' (.ref l) (.list (fW a b xs n.toNat))->Q (.ref l) H'):Jz K [v,.int n] H Q E:=⟨_,_,rfl,a,b,xs,n,rfl,h,ba,bb,h1,h8,n0,n1,c,q⟩
theorem PZ(T:Txt K mg a):aJ P w K mg base aS 5 a.HK a.GX zq (Jz K):=by
 refine T.Av.F.ok kn ?_ ?_;wtm_at "b2"
 refine⟨_,(ao (az 2 kn.nd (e_ af))
     (ao (az 3 kn.nd (bW (v:=.ref a.cW) rfl T.dF rfl))
     (ao (az 4 kn.nd (pv 0))
     (ao (gk vL rfl (jH rfl T.z_range (ae (pv 1) af)) (bL (i:=5) kn.nd rfl (Or.inl rfl)) (ao (az 6 kn.nd (au (DN T) hr T.rg (ae (pv 4) af)))
     (ao (az 3 kn.nd (au (f_ T) hr T.fL (ae (pv 3) (ae (ar (pv 6)) af))))
     (ao (az 4 kn.nd (ar (pv 6)))
     (av (mD (md WM WK WL kE (pv 2) (ae (br (ae (pv 3) (ae (ar (pv 6)) (ae (ar (pv 4)) af)))) af))))))))
     (av (aE (pv 2))))))),?_⟩
 wtm_at "cl";rw[show start NS [x0,x1]=[some x0,some x1,none,none,none,none,none]from rfl];obtain⟨ra,rb,xs,n,rfl,hw,ba,bb,h1,h8,n0,n1,cm,q⟩:=h;o_head fi (by simp) (λlr H1 nr S1 e1=>?_);o_head kT (n:=n) (by omega) (by omega) (λi σ H'=>∃vh vs o5 o6 us,σ = [some x0,some (.int n),some (.ref lr),some vh,some vs,o5,o6]/\ah H H'/\H' lr=some (.lst us)/\ak K H' us (fW ra rb xs i)/\Is K H' vh (N (aP ra rb xs i))/\Is K H' vs (bD ra rb (aj ra rb xs i))) ⟨_,_,_,_,[],rfl,S1,e1,.nil,dM 0 (T.d9 _) rfl rfl,hw.by S1⟩ ?_ ?_
 . rintro i σ H2 hi ⟨vh,vs,o5,o6,us,rfl,S2,e2,t2,ih,iw⟩
   have hc:=cm i (by omega);have hpl:=bN ra rb xs i;have bh:ag 3700 (aP ra rb xs i):=hc.eW (wC ..);have hc':Cm 3700 (aj ra rb xs i):=hc.jO λy hy=>.inl (wy _ hy)
   have bw:ag 3702 (1-bV (aj ra rb xs i)):=(ag.one.sub (hc'.eW (gO (by omega)))).mono (by decide);o_head A1 iw ba bb (by omega) (by omega) hc' (by rw[hpl];omega) (λv3 H3 S3 i3=>?_);o_head aD (j:=0) i3 rfl (λv4 i4=>?_);have ih3:=ih.by S3;k_few;rename_i v5 H5 S5 i5;refine aD (j:=2) (i3.by S5) rfl (λv6 i6=>?_);have T5:=S3.trans S5;o_head kS (aK.of (T5 _ _ e2)) ?_;o_head aD (j:=1) (i3.by S5) rfl (λv7 i7=>?_);o_head aD (j:=1) i6 rfl (λv8 i8=>?_);o_head cK (ds:=[N (aP ra rb xs (i+1)),kH (cf ra rb (aj ra rb xs i)),TN (aj ra rb xs (i+1))]) (by simp) (.cons i5 (.cons i7 (.cons i8 .nil))) (λv9 H9 S9 i9=>?_);k_few;have T9:=T5.trans S9;have e9:=T9 _ _ e2;have hul:=t2.length;rw[AS]at hul;refine kO e9 (by omega) (λH10 E10 e10=>?_);have K10:=E10.keep e9;have i10:=i9.ky K10 (KW _ _ _)
   have t10:ak K H10 (us++[v9]) (fW ra rb xs (i+1)):=by
     rw[pS];exact(ak.keep K10 _ _ (zpU ..) (ak.same T9 _ _ t2)).snoc i10
   exact⟨_,_,_,_,_,rfl,(S2.trans T9).grow nr E10,e10,t10,(i5.by S9).fH K10,(i6.by S9).ky K10 (S0 _ _ _)⟩
 . rintro σ H2 ⟨vh,vs,o5,o6,us,rfl,S2,e2,t2,ih,iw⟩
   k_few;exact q lr H2 nr S2 (cB.mpr ⟨lr,us,rfl,.of e2,t2⟩)
def BD(a b:Rat)(xs:List Rat)(n:Nat):wD:=.tuple [N (aP a b xs n),bD a b (aj a b xs n)]
def Rx(K:wb):Sp:=λvs H Q _=>∃x0 x1,vs=[x0,x1] /\ ∃(a b:Rat)(xs:List Rat)(n:Int),x1=.int n/\Is K H x0 (bD a b xs)/\ag 10 a/\ag 10 b/\1<=xs.length/\xs.length<=8/\0<=n/\n<=40/\(∀i,i<=n.toNat->Cm 3700 (aP a b xs i::aj a b xs i)) /\ ∀v H',ah H H'->Is K H' v (BD a b xs n.toNat)->Q v H'
theorem zA{K:wb}{H:Hp}{Q:VK}{E:XK}{a b:Rat}{xs:List Rat}{n:Int}{v:V}(h:Is K H v (bD a b xs))(ba:ag 10 a)(bb:ag 10 b)(h1:1<=xs.length)(h8:xs.length<=8)(n0:0<=n)(n1:n<=40)(c:∀i,i<=n.toNat->Cm 3700 (aP a b xs i::aj a b xs i))(q:∀v H',ah H H'->Is K H' v (BD a b xs n.toNat)->Q v H'):Rx K [v,.int n] H Q E:=⟨_,_,rfl,a,b,xs,n,rfl,h,ba,bb,h1,h8,n0,n1,c,q⟩
theorem mF{K:wb}{H:Hp}{Q:VK}{v:V}{ds:List wD}{d:wD}(h:Is K H v (.list (ds++[d])))(q:∀x,Is K H x d->Q x H):cQ K v (.int (-1)) H Q:=by
 obtain⟨a,xs,rfl,hs,t⟩:=cB.mp h;have hl:=t.length;rw[wT,Wh]at hl;obtain⟨x,e1,hx⟩:=t.get (i:=ds.length) (d:=d) (by rw[vv (wo _),Vs];rfl);exact gY hs (ET (by rw[hl];exact e1)) (q x hx)
theorem KL(T:Txt K mg a):aJ P w K mg base aS 6 a.behind a.G1 yr (Rx K):=by
 refine T.Ay.F.ok CT ?_ ?_;wtm_at "b2"
 refine⟨_,(ao (az 2 CT.nd (au (PZ T) hr T.Av (ae (pv 0) (ae (pv 1) af))))
     (ao (bP (ee (Cj (pv 2))) (av (aE (br (ae (bW (v:=.ref a.cW) rfl T.dF rfl) (ae (pv 0) af))))) bQ)
     (ao (az 3 CT.nd (dH cY (pv 2) (iA ib ay) (λ_ _=>rfl)))
     (av (aE (br (ae (ar (pv 3)) (ae (br (ae (ar (pv 0)) (ae (ar (pv 3)) af))) af)))))))),?_⟩
 wtm_at "cl";rw[show start Mb [x0,x1]=[some x0,some x1,none,none]from rfl];obtain⟨ra,rb,xs,n,rfl,hw,ba,bb,h1,h8,n0,n1,cm,q⟩:=h;o_head MK hw ba bb h1 h8 n0 n1 cm (λlr H1 nr S1 i1=>?_);o_head Rh i1 ?_;generalize n.toNat=k at *;cases k with
 | zero =>
   rw[show(!(fW ra rb xs 0).isEmpty)=false from rfl];o_head cK (ds:=[N 0,bD ra rb xs]) (by simp) (.cons (dM 0 (T.d9 _) rfl rfl) (.cons (hw.by S1) .nil)) (λv H2 S2 i2=>?_);exact q v H2 (S1.trans S2) i2
 | succ k =>
   rw[pS]at i1;rw[show(!(fW ra rb xs (k+1)).isEmpty)=true by rw[pS];simp];o_head mF i1 (λv2 i2=>?_);have i2:Is K H1 v2 (ml (aP ra rb xs (k+1)) (cf ra rb (aj ra rb xs k)) (aj ra rb xs (k+1))):=i2;o_head aD (j:=0) i2 rfl (λv3 i3=>?_);o_head aD (j:=0) (hw.by S1) rfl (λv4 i4=>?_);o_head aD (j:=2) i2 rfl (λv5 i5=>?_);o_head cK (ds:=[R ra rb,TN (aj ra rb xs (k+1))]) (by simp) (.cons i4 (.cons i5 .nil)) (λv6 H6 S6 i6=>?_);o_head cK (ds:=[N (aP ra rb xs (k+1)),bD ra rb (aj ra rb xs (k+1))]) (by simp) (.cons (i3.by S6) (.cons i6 .nil)) (λv7 H7 S7 i7=>?_);exact q v7 H7 (S1.trans (S6.trans S7)) i7
def OV(K:wb):Sp:=λvs H Q _=>∃x0,vs=[x0] /\ ∃(a b:Rat)(xs:List Rat),Is K H x0 (bD a b xs)/\Q (.bl (decide (0∈xs))) H
theorem Mx{K:wb}{H:Hp}{Q:VK}{E:XK}{a b:Rat}{xs:List Rat}{v:V}(h:Is K H v (bD a b xs))(q:Q (.bl (decide (0∈xs))) H):OV K [v] H Q E:=⟨_,rfl,a,b,xs,h,q⟩
theorem N6(T:Txt K mg a):aJ P w K mg base aS 1 a.HH a.GW yy (OV K):=by
 refine T.Au.F.ok zsP ?_ ?_;wtm_at "b1";refine⟨_,(av (aE (fq (show aN _ (wU .In) (BR K)from zBv hu) (bW (v:=.ref a.cW) rfl T.dF rfl) (ar (pv 0)) (by with_unfolding_all rfl)))),?_⟩;wtm_at "cl";rw[show start EI [x0]=[some x0]from rfl];obtain⟨ra,rb,xs,hw,q⟩:=h;o_head aD (j:=1) hw rfl (λvp ip=>?_);exact ZP (dM 0 (T.d9 _) rfl rfl) ip q
def bC(xs:List Rat):List Rat:=(ai xs).dropLast
def RX(xs:List Rat):wD:=.tuple [TZ (aY xs),TN (bC xs)]
def PN(K:wb)(a:Ad):Sp:=λvs H Q E=>∃x0,vs=[x0] /\ ∃(ra rb:Rat)(xs:List Rat),Is K H x0 (bD ra rb xs)/\xs.length<=8/\(∀i,ag 4000 (xs.getD i 0))/\(¬ 0∈xs->∀H',ah H H'->E (.ref a.nC) none H')/\(0∈xs->∀v H',ah H H'->Is K H' v (RX xs)->Q v H')
theorem CH{K:wb}{a:Ad}{H:Hp}{Q:VK}{E:XK}{ra rb:Rat}{xs:List Rat}{v:V}(h:Is K H v (bD ra rb xs))(h8:xs.length<=8)(bx:∀i,ag 4000 (xs.getD i 0))(qe:¬ 0∈xs->∀H',ah H H'->E (.ref a.nC) none H')(q:0∈xs->∀v H',ah H H'->Is K H' v (RX xs)->Q v H'):PN K a [v] H Q E:=⟨_,rfl,ra,rb,xs,h,h8,bx,qe,q⟩
theorem MX:∀(n:Nat)(l:List Rat),(hZ n l).length<=n
 | 0,l=>wo _
 | n+1,[]=>by rw[Co];simp
 | n+1,x::l=>by
  rw[mw (by simp),vo];have:=MX n ((x::l).filter λy=>!decide (y=bV (x::l)));omega
theorem A3(T:Txt K mg a):aJ P w K mg base (eJ P w) 4 a.laid a.HX ya (PN K a):=by
 refine T.rh.F.yh t_ ?_ ?_;wtm_at "b1"
 refine⟨_,(ao (bP (ee (dD (au (N6 T) hr T.Au (ae (pv 0) af)))) (av (JM T.Se rfl rfl T.Sd Pq (ae gm af))) bQ)
     (ao (az 1 t_.nd (au (ML T) hr T.AB (ae (pv 0) af)))
     (ao (az 2 t_.nd (dQ (show aO _ (.type "tuple") (d5 K)from fI) rfl T.z_tuple eA (ae (d4 rfl (cF.by (N':=["row"]) (src:=[none]) rfl (show cV _ (aC nP).names sk ["row"] [none]=true from by decide +kernel)) (gx (pv 1)) (λ_ _ _ _ _=>(bL (i:=0) (show(["row"]:List Str).Nodup from by decide) rfl (Or.inl rfl))) (λ_ _ _ _ _=>dY) (λ_ _ _ _ _=>(bR (show aO _ (.builtin "len") (cN K)from dX) rfl T.z_len dE (ae (ou (K:=K) cY (pv 0)) af)))) af)))
     (ao (az 3 t_.nd (dQ (show aO _ (.type "tuple") (d5 K)from fI) rfl T.z_tuple eA (ae (d4 rfl (cF.by (N':=["row"]) (src:=[none]) rfl (show cV _ (aC nP).names sk ["row"] [none]=true from by decide +kernel)) (gx (pE nW (pv 1) nM (pb (iA ib ay)))) (λ_ _ _ _ _=>(bL (i:=0) (show(["row"]:List Str).Nodup from by decide) rfl (Or.inl rfl))) (λ_ _ _ _ _=>dY) (λ_ _ _ _ _=>(ou (K:=K) cY (pv 0)))) af)))
     (av (aE (br (ae (pv 2) (ae (pv 3) af))))))))),?_⟩
 wtm_at "cl";rw[show start sk [x0]=[some x0,none,none,none]from rfl];obtain⟨ra,rb,xs,hw,h8,bx,qe,q⟩:=h;have hvl:(ai xs).length<=8:=vV (MX _ _) h8;o_head Mx hw ?_;k_few
 . rename_i z
   exact⟨by simp;decide,qe z H (ah.refl _)⟩
 . rename_i z
   have z:=(by first | exact z | exact qp.mp z:0∈xs);refine MS hw h8 bx (λlr H1 us n1 S1 e1 t1=>?_);have hul:=t1.length;rw[wm]at hul;o_head kr (.of e1) (o0:=none) (tl:=[]) rfl (λj y _=>y=.int ((aY xs).getD j 0)) ?_ ?_
   . intro D j x ys o H2 hx inv
     obtain⟨hj,ix⟩:=kB t1 hx;rw[wm]at hj;rw[wa,wx,wc hj]at ix;have ix2:Is K H2 x (jI xs (ai xs)[j]):=ix.by inv.same;o_head aD (j:=1) ix2 rfl (λv3 i3=>?_);o_head Bu i3 ?_;o_head eU inv (by omega) (λ_ _ _ _ _ h=>h) ⟨_,rfl⟩ (ah.refl _) ?_;unfold aY;rw[wa,wx,wc hj]
     rfl
   . intro D ys H2 hn S2 hD hl hr
     have hys:ys=(aY xs).map V.int:=KR (by rw[hl,hul];unfold aY;rw[wm]) hr;subst hys;o_head yE (.of hD) (λl3 H3 n3 S3 e3=>?_);have i3:Is K H3 (.ref l3) (TZ (aY xs)):=nZ.mpr ⟨l3,rfl,.of e3⟩;have T3:=S2.trans S3;o_head yD (cB.mpr ⟨lr,us,rfl,.of (T3 _ _ e1),ak.same T3 _ _ t1⟩) (λl4 H4 us4 n4 S4 e4 t4=>?_);rw[C0,<- Q7]at t4;o_head kr (.of e4) (o0:=none) (tl:=[]) rfl (λj y H'=>Is K H' y (N ((bC xs).getD j 0))) ?_ ?_
     . intro D' j x ys o H5 hx inv
       obtain⟨hj,ix⟩:=kB t4 hx;have hj2:j<(bC xs).length:=by rw[wm]at hj;exact hj
       have hj8:(bC xs).length<=8:=by unfold bC;rw[Xf];omega
       rw[wa,wx,wc (show j<(ai xs).dropLast.length from hj2)]at ix;have ix5:Is K H5 x (jI xs (bC xs)[j]):=ix.by inv.same;o_head aD (j:=0) ix5 rfl (λv6 i6=>?_);o_head eU inv (by omega) eZ ⟨_,rfl⟩ (ah.refl _) ?_;rw[wa,wc hj2];exact i6
     . intro D' zs H5 hn5 S5 hD5 hl5 hr5
       have hu4:=t4.length;rw[wm]at hu4;have tz:ak K H5 zs ((bC xs).map N):=fE (by rw[hl5,hu4];rfl) hr5;o_head gX (c_ hD5 tz) (λv6 H6 S6 i6=>?_);o_head cK (ds:=[TZ (aY xs),TN (bC xs)]) (by simp) (.cons (i3.by (S4.trans (S5.trans S6))) (.cons i6 .nil)) (λv7 H7 S7 i7=>?_);exact q z v7 H7 (S1.trans (T3.trans (S4.trans (S5.trans (S6.trans S7))))) i7
theorem U7{m:Nat}{xs:List Rat}(h:Cm m xs)(i j:Nat):ag (m+2) (xs.getD i 0+(1-xs.getD j 0)):=by
 obtain⟨B,h0,h1,h2⟩:=h
 have key:∀i,∃t:Int,xs.getD i 0=wz t B/\Bd m t:=λi=>by
  rcases wB i xs.length with q | q
  ·rw[wa,wc q]
   exact h2 _ (vJ q)
  ·rw[wa,wL q]
   exact⟨0,by simp,⟨by simp;exact Wf m⟩⟩
 obtain⟨t,et,bt⟩:=key i;obtain⟨z,ez,bz⟩:=key j
 have e2:wz t B+(1-wz z B)=wz (t+B-z) B:=by
  symm
  refine fJ (by omega) ?_;have q1:=cD t (show B≠0 by omega);have q2:=cD z (show B≠0 by omega);have q3:((t+B-z:Int):Rat)=(t:Rat)+(B:Rat)-(z:Rat):=by push_cast;rfl
  rw[q3,<- q1,<- q2]
  grind
 rw[et,ez,e2];exact ag.divInt (by omega) (((bt.add h1).sub bz).mono (by omega)) (h1.mono (by omega))
def MJ(K:wb):Sp:=λvs H Q _=>∃x0 x1 x2 x3,vs=[x0,x1,x2,x3] /\ ∃(a b:Rat)(n i:Int)(xs:List Rat)(m:Nat),x1=.int n/\x3=.int i/\Is K H x0 (R a b)/\Is K H x2 (LN xs)/\ag 10 a/\ag 10 b/\0<=n/\n<=64/\0<=i/\i<xs.length/\xs.length<=100/\Cm m xs/\m<=8000 /\
 ∀l H' us,H l=none->ah H H'->H' l=some (.lst us)->ak K H' us ((cZ a b n.toNat xs i.toNat).map N)->Q (.ref l) H'
theorem zj6{K:wb}{H:Hp}{Q:VK}{E:XK}{a b:Rat}{n i:Int}{xs:List Rat}{m:Nat}{v w:V}(h1:Is K H v (R a b))(h2:Is K H w (LN xs))(b1:ag 10 a)(b2:ag 10 b)(h0:0<=n)(h64:n<=64)(i0:0<=i)(i1:i<xs.length)(hl:xs.length<=100)(hm:Cm m xs)(hm2:m<=8000)
  (q:∀l H' us,H l=none->ah H H'->H' l=some (.lst us)->ak K H' us ((cZ a b n.toNat xs i.toNat).map N)->Q (.ref l) H'):MJ K [v,.int n,w,.int i] H Q E:=⟨_,_,_,_,rfl,a,b,n,i,xs,m,rfl,rfl,h1,h2,b1,b2,h0,h64,i0,i1,hl,hm,hm2,q⟩
theorem Yu(T:Txt K mg a):aJ P w K mg base aS 4 a.Fx a.Ff sY (MJ K):=by
 refine T.Fj.F.ok rD ?_ ?_;wtm_at "b4"
 refine⟨_,(ao (az 4 rD.nd (au (tZ T) hr T.nE (ae (bW (v:=.ref a.dG) rfl T.eF rfl) (ae (dH cY (pv 2) (pv 3) (λ_ _=>rfl)) af))))
     (ao (az 5 rD.nd (au (zf T) hr T.nD (ae (pv 0) (ae (pv 1) af))))
     (ao (lP (i:=6) rD.nd rfl (Or.inl rfl) rfl (cF.by (N':=["phase","push","wait"]) (src:=[none,some 5,some 4]) rfl (show cV _ (aC y7).names Cq ["phase","push","wait"] [none,some 5,some 4]=true from by decide +kernel)) (gx (pv 2)) (λ_ _ _ _ _=>(bL (i:=0) (show(["phase","push","wait"]:List Str).Nodup from by decide) rfl (Or.inl rfl))) (λ_ _ _ _ _=>dY) (λ_ _ _ _ _=>(au (IJ (K:=K) (mg:=mg) (a:=a) T) hr T.Ao (ae (pv 1) (ae (au (f_ (K:=K) (mg:=mg) (a:=a) T) hr T.fL (ae (pv 0) (ae (pv 2) af))) af)))))
     (ao (mC (bW (v:=.ref a.cW) rfl T.dF rfl) (pA (pv 6) (pv 3) oq))
     (av (aE (pv 6))))))),?_⟩
 wtm_at "cl";rw[show start Cq [x0,x1,x2,x3]=[some x0,some x1,some x2,some x3,none,none,none]from rfl];obtain⟨a',b',n,i,xs,m,rfl,rfl,hr',hx,ba,bb,h0,h64,i0,i1,hl,hm,hm2,q⟩:=h;have bi:ag 8000 (xs.getD i.toNat 0):=(hm.get _).mono hm2;have bw:ag 8002 (1-xs.getD i.toNat 0):=(ag.one.sub bi).mono (by decide);have bf:ag 700 (a'^n.toNat):=(ba.pow n.toNat).mono (by omega);have bg:ag 1500 (aB a' b' n.toNat):=(ba.aB bb n.toNat).mono (by omega);o_head jW hx i0 i1 (λv1 iv1=>?_);k_few;rename_i v2 H2 S2 iv2;refine AX (hr'.by S2) ba bb h0 h64 (λv3 H3 S3 iv3=>?_);have T3:=S2.trans S3;have iv2':=iv2.by S3;have hx3:=hx.by T3;clear iv1 iv2 S2 S3 hx hr';k_few;obtain⟨lx,vs,rfl,hs,t⟩:=cB.mp hx3;refine kr hs (o0:=none) (tl:=[some v3,some v2]) rfl (λj v H=>Is K H v (N ((xs.map λx=>push a' b' n.toNat (x+(1-xs.getD i.toNat 0))).getD j 0))) ?_ ?_
 . rintro D j x ys o H1 hx' inv
   obtain⟨hj,ix⟩:=df t hx';have ix1:=ix.by inv.same;have jv2:=iv2'.by inv.same;have jv3:=iv3.by inv.same;have bx:ag 8000 (xs.getD j 0):=(hm.get j).mono hm2;k_few;rename_i v4 H4 S4 iv4;refine NJ (jv3.by S4) iv4 bf bg ((U7 hm j i.toNat).mono (by omega)) (λv5 H5 S5 iv5=>?_);exact eU inv (by omega) eZ ⟨_,rfl⟩ (S4.trans S5) (by rw[lQ hj,gB];exact iv5)
 . rintro D ys H4 hn S4 e4 hl4 hr4
   have hvl:=t.length;rw[wm]at hvl;have hyl:ys.length=xs.length:=by omega
   clear hs t hx3 iv2' iv3;o_head r8 (j:=i.toNat) e4 (by unfold gG;rw[if_pos i0,if_pos (by omega)]) (λH5 E5 e5=>?_);k_few;have hD:=iW T3 hn;refine q D H5 _ hD ((T3.trans S4).grow hD E5) e5 (fE (by rw[Vw,gI];exact hyl) λj v hv=>?_);rw[VH]at hv
   by_cases hij:i.toNat=j
   . subst hij
     rw[if_pos rfl,if_pos (by omega)]at hv;cases hv;rw[fF _ _ _ _ _ _ (by omega),if_pos rfl];exact dM 0 (T.d9 _) rfl rfl
   . rw[if_neg hij]at hv
     have hj:j<xs.length:=by
       rcases wB j ys.length with z | z
       . omega
       . rw[wL z]at hv;cases hv
     have hz:=hr4 j v hv;rw[lQ hj]at hz;rw[fF _ _ _ _ _ _ hj,if_neg (WA hij)];exact hz.fH (E5.keep e4)
structure cz(a b:Rat)(ns:List Int)(xs:List Rat):Prop where
 ba:ag 10 a
 bb:ag 10 b
 n0:∀n∈ns,0<=n/\n<=64
 len:ns.length=xs.length+1
 bX:ns.length<=50
 cm:∃m,Cm m xs/\m+2*ns.length+21*upTo ns ns.length<=8000
theorem AM{ns:List Int} : ∀{k j:Nat},k<=j->j<=ns.length->upTo ns k<=upTo ns j:=by
 intro k j hk
 induction j with
 | zero => intro _; have : k = 0 := by omega
           subst this;exact wo _
 | succ j ih =>
   intro hj;rcases wB k (j+1)with z | z
   . rw[oN (by omega)]
     have:=ih (by omega) (by omega);omega
   . have:k=j+1:=by omega
     subst this;exact wo _
theorem cz.row{a b:Rat}{ns:List Int}{xs:List Rat}(h:cz a b ns xs){k:Nat}(hk:k<=ns.length):∃m,Cm m (aH a b ns (xs++[0]) k)/\m<=8000:=by
 obtain⟨m,hm,hm2⟩:=h.cm;refine⟨_,(hm.snoc).rows h.ba h.bb k hk,?_⟩;have:=AM (ns:=ns) hk (wo _);omega
def m5(a b:Rat)(ns:List Int)(xs:List Rat):List (List Rat):=(wq (ns.length+1)).map (aH a b ns (xs++[0]))
theorem pW(a b:Rat)(ns:List Int)(xs:List Rat):(m5 a b ns xs).length=ns.length+1:=by simp[m5]
theorem zm{a b:Rat}{ns:List Int}{xs:List Rat}{k:Nat}(h:k<=ns.length):(m5 a b ns xs).getD k []=aH a b ns (xs++[0]) k:=by
 unfold m5;rw[wa,wx,vQ (by omega)]
 rfl
def OL(K:wb):Sp:=λvs H Q _=>∃x0 x1 x2,vs=[x0,x1,x2] /\ ∃(a b:Rat)(ns:List Int)(xs:List Rat),Is K H x0 (R a b)/\Is K H x1 (TZ ns)/\Is K H x2 (TN xs)/\cz a b ns xs /\ ∀l H',ah H H'->Is K H' (.ref l) (LL (m5 a b ns xs))->Q (.ref l) H'
theorem A4{K:wb}{H:Hp}{Q:VK}{E:XK}{a b:Rat}{ns:List Int}{xs:List Rat}{v w u:V}(h1:Is K H v (R a b))(h2:Is K H w (TZ ns))(h3:Is K H u (TN xs))(ok:cz a b ns xs)(q:∀l H',ah H H'->Is K H' (.ref l) (LL (m5 a b ns xs))->Q (.ref l) H'):OL K [v,w,u] H Q E:=⟨_,_,_,rfl,a,b,ns,xs,h1,h2,h3,ok,q⟩
theorem Ef(T:Txt K mg a):aJ P w K mg base aS 5 a.rl a.He zP (OL K):=by
 refine T.p9.F.ok yd ?_ ?_;wtm_at "b3"
 refine⟨_,(ao (az 3 yd.nd (e_ (ae (aA cb (dQ (show aO _ (.type "list") (kg K)from yB) rfl T.z_list mG (ae (pv 2) af)) (e_ (ae (bW (v:=.ref a.cW) rfl T.dF rfl) af))) af)))
     (ao (gk vL rfl (JB rfl T.z_enumerate (ae (pv 1) af)) (mW (n:=2) rfl (gC (bL (i:=4) yd.nd rfl (Or.inl rfl)) (gC (bL (i:=5) yd.nd rfl (Or.inl rfl)) nk))) (av (mD (md WM WK WL kE (pv 3) (ae (au (Yu T) hr T.Fj (ae (pv 0) (ae (pv 5) (ae (dH cY (pv 3) (pv 4) (λ_ _=>rfl)) (ae (pv 4) af))))) af)))))
     (av (aE (pv 3))))),?_⟩
 wtm_at "cl";rw[show start Kc [x0,x1,x2]=[some x0,some x1,some x2,none,none,none]from rfl];obtain⟨a',b',ns,xs,hr',hn',hp',ok,q⟩:=h;have hlen:=ok.len;have hfew:=ok.bX;o_head zJ hp' (λl1 H1 us hl1 S1 e1 t1=>?_);have hul:=t1.length;rw[wm]at hul;o_head fi (by simp) (λl2 H2 hl2 S2 e2=>?_);refine nj (S2 _ _ e1) e2 (Va (iO (by simp;omega))) (λl3 H3 hl3 S3 e3=>?_);o_head fi (by simp) (λlt H4 hlt S4 e4=>?_);have T4:ah H H4:=S1.trans (S2.trans (S3.trans S4));have e3':=S4 _ _ e3;have ne43:l3≠lt:=λz=>by subst z;rw[e3]at hlt;cases hlt
 have t3:ak K H4 (us++[V.ref a.cW]) ((xs++[0]).map N):=by
   rw[vE];exact(ak.same (S2.trans (S3.trans S4)) _ _ t1).append (.cons (dM 0 (T.d9 _) rfl rfl) .nil)
 have hD:=iW (S1.trans (S2.trans S3)) hlt;clear hl1 hl2 hl3 S1 S2 S3 S4 e1 e2 e3 t1 hlt;k_few;obtain⟨an,rfl,hsn⟩:=nZ.mp hn'
 refine zvp (T4.jx hsn) (λk σ H'=>∃o1 o2 vs,σ = [some x0,some (.ref an),some x2,some (.ref lt),o1,o2]/\ah H H'/\H' lt=some (.lst vs)/\vs.length=k+1 /\ ∀j v,vs[j]? = some v->∃lj ws,v=.ref lj/\lj≠lt/\H' lj=some (.lst ws)/\ak K H' ws ((aH a' b' ns (xs++[0]) j).map N))
   ⟨_,_,_,rfl,T4,e4,rfl,λj v hv=>?_⟩ (λk σ H' _ ⟨_,_,_,_,s,_⟩=>s.jx hsn) ?_ ?_
 . match j,hv with
   | 0,e=>cases wQ e;exact⟨l3,_,rfl,ne43,e3',t3⟩
   | j+1,e=>simp at e
 . rintro k x σ H5 t H6 hx ⟨o1,o2,vs,rfl,S5,e5,hl5,hr5⟩ ht S6 e6
   have hk:k<ns.length:=by
     rcases wB k ns.length with z | z
     . exact z
     . rw[wL (by simpa using z)]at hx;cases hx
   have hxv:x=.int (ns.getD k 0):=by
     rw[wx,wc hk]at hx;rw[wa,wc hk];exact(wQ hx).symm
   subst hxv;have hnk:=ok.n0 (ns.getD k 0) (by rw[wa,wc hk];exact vJ hk);refine m4 (.of e6) rfl ?_;k_few;have e5':=S6 _ _ e5;refine kS (aK.of e5') ?_;k_few;have hkv:∃v,vs[k]? = some v:=⟨vs[k]'(by omega),wc (by omega)⟩;obtain⟨v,hv⟩:=hkv;obtain⟨lk,ws,rfl,nek,ek,tk⟩:=hr5 k v hv;refine gY (aK.of e5') (j5 hv) ?_;k_few;obtain⟨m,hm,hm2⟩:=ok.row (k:=k) (by omega);have hrl:=cJ a' b' ns (xs++[0]) k;rw[wT]at hrl;have T6:=S5.trans S6;refine zj6 (hr'.by T6) (c_ (S6 _ _ ek) (ak.same S6 _ _ tk)) ok.ba ok.bb hnk.1 hnk.2 (by omega) (by rw[hrl];simp;omega) (by rw[hrl];simp;omega) hm hm2 (λl7 H7 us7 hl7 S7 e7 t7=>?_);have e5'':=S7 _ _ e5';have ne7:l7≠lt:=λz=>by subst z;rw[e5']at hl7;cases hl7
   o_head kO e5'' (by omega) (λH8 E8 e8=>?_);have K8:bG H7 H8:=E8.keep e5'';refine⟨_,_,_,rfl,(T6.trans S7).grow hD E8,e8,by simp[hl5],λj v hv=>?_⟩;rcases wB j vs.length with z | z
   . rw[vR z]at hv
     obtain⟨lj,wj,rfl,nej,ej,tj⟩:=hr5 j v hv;exact⟨lj,wj,rfl,nej,E8 _ _ nej (S7 _ _ (S6 _ _ ej)),ak.keep (S6.keep.trans (S7.keep.trans K8)) _ _ (fQ _) tj⟩
   . have hj:j=vs.length:=by
       rcases wB vs.length j with q | q
       . rw[wL (by simp;omega)]at hv;cases hv
       . omega
     subst hj;rw[vv (wo _),Vs]at hv;cases wQ hv;rw[hl5];refine⟨l7,us7,rfl,ne7,E8 _ _ ne7 e7,ak.keep K8 _ _ (fQ _) ?_⟩;rw[aH]
     simpa using t7
 . rintro σ H5 ⟨o1,o2,vs,rfl,S5,e5,hl5,hr5⟩
   o_head q lt H5 S5 (cB.mpr ⟨lt,vs,rfl,.of e5,Kt (by rw[hl5,pW];simp) λj v hv=>?_⟩)
   have hj:j<vs.length:=by
     rcases wB j vs.length with z | z
     . exact z
     . rw[wL z]at hv;cases hv
   obtain⟨lj,wj,rfl,nej,ej,tj⟩:=hr5 j v hv;rw[zm (by simp at hl5;omega)];exact c_ ej tj
def cu(a b:Rat)(ns:List Int)(xs:List Rat):List Rat:=(aH a b ns (xs++[0]) ns.length).dropLast
def P_(K:wb):Sp:=λvs H Q _=>∃x0 x1 x2,vs=[x0,x1,x2] /\ ∃(a b:Rat)(ns:List Int)(xs:List Rat),Is K H x0 (R a b)/\Is K H x1 (TZ ns)/\Is K H x2 (TN xs)/\cz a b ns xs /\ ∀v H',ah H H'->Is K H' v (TN (cu a b ns xs))->Q v H'
theorem NK{K:wb}{H:Hp}{Q:VK}{E:XK}{a b:Rat}{ns:List Int}{xs:List Rat}{v w u:V}(h1:Is K H v (R a b))(h2:Is K H w (TZ ns))(h3:Is K H u (TN xs))(ok:cz a b ns xs)(q:∀v H',ah H H'->Is K H' v (TN (cu a b ns xs))->Q v H'):P_ K [v,w,u] H Q E:=⟨_,_,_,rfl,a,b,ns,xs,h1,h2,h3,ok,q⟩
theorem NH(T:Txt K mg a):aJ P w K mg base aS 6 a.FX a.Fm yK (P_ K):=by
 refine T.Al.F.ok zlc ?_ ?_;wtm_at "b3";refine⟨_,(av (aE (dQ (show aO _ (.type "tuple") (d5 K)from fI) rfl T.z_tuple eA (ae (pE nW (dH cY (au (Ef T) hr T.p9 (ae (pv 0) (ae (pv 1) (ae (pv 2) af)))) (iA ib ay) (λ_ _=>rfl)) nM (pb (iA ib ay))) af)))),?_⟩;wtm_at "cl";rw[show start DA [x0,x1,x2]=[some x0,some x1,some x2]from rfl];obtain⟨a',b',ns,xs,hr',hn',hp',ok,q⟩:=h;o_head A4 hr' hn' hp' ok (λl H1 S1 i1=>?_);o_head Z1 i1 (by rw[pW];omega) (λv2 i2=>?_);rw[pW,qV,zm (wo _)]at i2;o_head yD i2 (λl3 H3 ys hn3 S3 e3 t3=>?_);rw[C0,<- Q7]at t3;o_head gX (c_ e3 t3) (λw H4 S4 i4=>?_);exact q w H4 (S1.trans (S3.trans S4)) i4
theorem J4{a b:Rat}{ns:List Int}{xs:List Rat}{m:Nat}(ok:cz a b ns xs)(c:Cm m xs)(hm:m+2*ns.length+21*upTo ns ns.length<=8000){k:Nat}(hk:k<=ns.length):Cm 8000 (dZ a b ns (xs++[0]) k::aH a b ns (xs++[0]) k):=by
 have h1:=AM (ns:=ns) hk (wo _);exact(c.snoc.AI ok.ba ok.bb (ns:=ns) k hk).mono (by omega)
def Mw(K:wb):Sp:=λvs H Q _=>∃x0 x1 x2,vs=[x0,x1,x2] /\ ∃(a b:Rat)(ns:List Int)(xs:List Rat)(m:Nat),Is K H x0 (R a b)/\Is K H x1 (TZ ns)/\Is K H x2 (TN xs)/\cz a b ns xs/\Cm m xs/\m+2*ns.length+21*upTo ns ns.length<=8000 /\ ∀v H',ah H H'->Is K H' v (N (eQ a b ns xs))->Q v H'
theorem zm8{K:wb}{H:Hp}{Q:VK}{E:XK}{a b:Rat}{ns:List Int}{xs:List Rat}{m:Nat}{v w u:V}(h1:Is K H v (R a b))(h2:Is K H w (TZ ns))(h3:Is K H u (TN xs))(ok:cz a b ns xs)(hm:Cm m xs)(hm2:m+2*ns.length+21*upTo ns ns.length<=8000)(q:∀v H',ah H H'->Is K H' v (N (eQ a b ns xs))->Q v H'):Mw K [v,w,u] H Q E:=⟨_,_,_,rfl,a,b,ns,xs,m,h1,h2,h3,ok,hm,hm2,q⟩
theorem YZ(T:Txt K mg a):aJ P w K mg base aS 6 a.GI a.FI zX (Mw K):=by
 refine T.FU.F.ok oZ ?_ ?_;wtm_at "b3"
 refine⟨_,(ao (az 3 oZ.nd (bW (v:=.ref a.cW) rfl T.dF rfl))
     (ao (az 4 oZ.nd (au (Ef T) hr T.p9 (ae (pv 0) (ae (pv 1) (ae (pv 2) af)))))
     (ao (gk vL rfl (jH rfl T.z_range (ae (bR (show aO _ (.builtin "len") (cN K)from dX) rfl T.z_len dE (ae (pv 1) af)) af)) (bL (i:=5) oZ.nd rfl (Or.inl rfl)) (av (az 3 oZ.nd (au (f_ T) hr T.fL (ae (pv 3) (ae (au (tZ T) hr T.nE (ae (bW (v:=.ref a.dG) rfl T.eF rfl) (ae (dH cY (dH cY (pv 4) (pv 5) (λ_ _=>rfl)) (pv 5) (λ_ _=>rfl)) af))) af))))))
     (av (aE (pv 3)))))),?_⟩
 wtm_at "cl";rw[show start Jt [x0,x1,x2]=[some x0,some x1,some x2,none,none,none]from rfl];obtain⟨a',b',ns,xs,m,hr',hn',hp',ok,hm,hm2,q⟩:=h;o_head A4 hr' hn' hp' ok (λl H1 S1 i1=>?_);o_head Bt (hn'.by S1) ?_;have hlen:=ok.len;have hfew:=ok.bX;refine kT (n:=(ns.length:Int)) (by omega) (by omega) (λk σ H'=>∃v o,σ = [some x0,some x1,some x2,some v,some (.ref l),o]/\ah H1 H'/\Is K H' v (N (dZ a' b' ns (xs++[0]) k))) ⟨_,_,rfl,ah.refl _,dM 0 (T.d9 _) rfl rfl⟩ ?_ ?_
 . rintro k σ H2 hk ⟨v,o,rfl,S2,iv⟩
   have hk':k<ns.length:=by simpa using hk
   have c:=J4 ok hm hm2 (k:=k) (by omega);have b1:ag 8000 (dZ a' b' ns (xs++[0]) k):=c.eW (wC ..);have b2:ag 8000 ((aH a' b' ns (xs++[0]) k).getD k 0):=(oA c λy hy=>wy _ hy).get k;have b4:ag 8002 (1-(aH a' b' ns (xs++[0]) k).getD k 0):=(ag.one.sub b2).mono (by decide);have i2:=i1.by S2;o_head Mu i2 (by omega) (by rw[pW];omega) (λv3 i3=>?_);rw[wP,zm (by omega)]at i3;o_head jW i3 (by omega) (by rw[cJ,wT];simp;omega) (λv4 i4=>?_);rw[wP]at i4;k_few;exact⟨_,_,rfl,S2.trans (ah.trans (by assumption) (by assumption)),by assumption⟩
 . rintro σ H2 ⟨v,o,rfl,S2,iv⟩
   k_few;exact q _ _ (S1.trans S2) iv
def eC(a b:Rat)(ns:List Int)(xs:List Rat):List Rat:=(wq ns.length).map λk=>(aH a b ns (xs++[0]) (k+1)).getD ((k+1) % ns.length) 0
theorem iT(a b:Rat)(ns:List Int)(xs:List Rat):(eC a b ns xs).length=ns.length:=by simp[eC]
theorem kG{a b:Rat}{ns:List Int}{xs:List Rat}{k:Nat}(h:k<ns.length):(eC a b ns xs).getD k 0=(aH a b ns (xs++[0]) (k+1)).getD ((k+1) % ns.length) 0:=by
 unfold eC;rw[wa,wx,vQ h]
 rfl
def Nc(K:wb):Sp:=λvs H Q _=>∃x0 x1 x2,vs=[x0,x1,x2] /\ ∃(a b:Rat)(ns:List Int)(xs:List Rat),Is K H x0 (R a b)/\Is K H x1 (TZ ns)/\Is K H x2 (TN xs)/\cz a b ns xs /\ ∀v H',ah H H'->Is K H' v (TN (eC a b ns xs))->Q v H'
theorem Mp{K:wb}{H:Hp}{Q:VK}{E:XK}{a b:Rat}{ns:List Int}{xs:List Rat}{v w u:V}(h1:Is K H v (R a b))(h2:Is K H w (TZ ns))(h3:Is K H u (TN xs))(ok:cz a b ns xs)(q:∀v H',ah H H'->Is K H' v (TN (eC a b ns xs))->Q v H'):Nc K [v,w,u] H Q E:=⟨_,_,_,rfl,a,b,ns,xs,h1,h2,h3,ok,q⟩
theorem Kj(T:Txt K mg a):aJ P w K mg base aS 6 a.gQ a.HU y9 (Nc K):=by
 refine T.AF.F.ok Bi ?_ ?_;wtm_at "b3"
 refine⟨_,(ao (az 3 Bi.nd (au (Ef T) hr T.p9 (ae (pv 0) (ae (pv 1) (ae (pv 2) af)))))
     (ao (az 4 Bi.nd (bR (show aO _ (.builtin "len") (cN K)from dX) rfl T.z_len dE (ae (pv 1) af)))
     (av (aE (dQ (show aO _ (.type "tuple") (d5 K)from fI) rfl T.z_tuple eA (ae (d4 rfl (cF.by (N':=["turn","rows","count"]) (src:=[none,some 3,some 4]) rfl (show cV _ (aC rH).names Ck ["turn","rows","count"] [none,some 3,some 4]=true from by decide +kernel)) (jH rfl T.z_range (ae (pv 4) af)) (λ_ _ _ _ _=>(bL (i:=0) (show(["turn","rows","count"]:List Str).Nodup from by decide) rfl (Or.inl rfl))) (λ_ _ _ _ _=>dY) (λ_ _ _ _ _=>(dH (show fZ _ (cQ K)from cY) (dH (show fZ _ (cQ K)from cY) (pv 1) (aA cb (pv 0) ay) (λ_ _=>rfl)) (aA gv (aA cb (pv 0) ay) (pv 2)) (λ_ _=>rfl)))) af)))))),?_⟩
 wtm_at "cl";rw[show start Ck [x0,x1,x2]=[some x0,some x1,some x2,none,none]from rfl];obtain⟨a',b',ns,xs,hr',hn',hp',ok,q⟩:=h;have hlen:=ok.len;have hfew:=ok.bX;o_head A4 hr' hn' hp' ok (λl H1 S1 i1=>?_);o_head Bt (hn'.by S1) ?_;o_head zyB (n:=(ns.length:Int)) (by omega) (by omega) (o0:=none) (tl:=[some (.ref l),some (.int (ns.length:Int))]) rfl (λi v H=>Is K H v (N ((eC a' b' ns xs).getD i 0))) ?_ ?_
 . rintro D i ys o H2 hi inv
   have hi':i<ns.length:=by simpa using hi
   have i2:=i1.by inv.same;have hn0:(0:Int)<(ns.length:Int):=by omega
   o_head Mu i2 (by omega) (by rw[pW];omega) (λv3 i3=>?_);rw[show((i:Int)+1).toNat=i+1 by omega,zm (by omega)]at i3;k_few;have e:((i:Int)+1) % (ns.length:Int)=(((i+1) % ns.length:Nat):Int):=by push_cast;rfl
   have hm:(i+1) % ns.length<ns.length:=Qe _ (by omega);rw[e];refine jW i3 (by omega) (by rw[cJ,wT];simp;omega) (λv4 i4=>?_);rw[wP,<- kG hi']at i4;exact eU inv (by omega) eZ ⟨_,rfl⟩ (ah.refl _) i4
 . rintro D ys H2 hn S2 e2 hl2 hr2
   o_head gX (c_ e2 (fE (by rw[hl2,iT];simp) hr2)) (λw H3 S3 i3=>?_);exact q w H3 (S1.trans (S2.trans S3)) i3
theorem r_{bs:List Bool}{zs:List V}(hl:zs.length=bs.length)(h:∀j z,zs[j]? = some z->z=V.bl (bs.getD j true)):zs=bs.map V.bl:=by
 refine Vj (by rw[wm];exact hl) λi h1 h2=>?_
 rw[h i _ (wc h1),Vk,wa,wc (by omega)]
 rfl
def dh(xs:List Rat):List Rat:=[1]++xs++[0]
theorem zM(xs:List Rat):(dh xs).length=xs.length+2:=by simp[dh]
def lO(xs:List Rat):List Bool:=(wq (xs.length+1)).map λi=>decide ((dh xs).getD (i+1) 0<(dh xs).getD i 0)
def kD(ts:List Rat):List Bool:=ts.map λx=>decide (x<1)
def d7(a b:Rat)(ns:List Int)(xs:List Rat):Bool:=(lO xs).all id&&(kD (eC a b ns xs)).all id
theorem Yc{xs:List Rat}{i:Nat}(h:i<xs.length+1):(lO xs).getD i true=decide ((dh xs).getD (i+1) 0<(dh xs).getD i 0):=by
 unfold lO;rw[wa,wx,vQ h]
 rfl
theorem zuq{ts:List Rat}{i:Nat}(h:i<ts.length):(kD ts).getD i true=decide (ts.getD i 0<1):=by
 unfold kD;rw[wa,wx,wa,wc h]
 rfl
theorem Jg{m:Nat}{xs:List Rat}(h:Cm m xs)(i:Nat):ag m ((dh xs).getD i 0):=by
 unfold dh;rcases Nat.eq_zero_or_pos i with rfl | hi
 ·exact ag.one.mono h.pos
 ·obtain⟨j,rfl⟩:∃j,i=j+1:=⟨i-1,by omega⟩
  exact h.snoc.get j
theorem N_{a b:Rat}{ns:List Int}{xs:List Rat}(ok:cz a b ns xs){i:Nat}(hi:i<ns.length):ag 8000 ((eC a b ns xs).getD i 0):=by
 rw[kG hi];obtain⟨m,hm,hm2⟩:=ok.row (k:=i+1) (by omega);exact(hm.get _).mono hm2
def Js(K:wb):Sp:=λvs H Q _=>∃x0 x1 x2,vs=[x0,x1,x2] /\ ∃(a b:Rat)(ns:List Int)(xs:List Rat),Is K H x0 (R a b)/\Is K H x1 (TZ ns)/\Is K H x2 (TN xs)/\cz a b ns xs /\ ∀H',ah H H'->Q (.bl (d7 a b ns xs)) H'
theorem DS{K:wb}{H:Hp}{Q:VK}{E:XK}{a b:Rat}{ns:List Int}{xs:List Rat}{v w u:V}(h1:Is K H v (R a b))(h2:Is K H w (TZ ns))(h3:Is K H u (TN xs))(ok:cz a b ns xs)(q:∀H',ah H H'->Q (.bl (d7 a b ns xs)) H'):Js K [v,w,u] H Q E:=⟨_,_,_,rfl,a,b,ns,xs,h1,h2,h3,ok,q⟩
theorem Bx(T:Txt K mg a):aJ P w K mg base aS 7 a.HP a.GZ yo (Js K):=by
 refine T.p8.F.ok Lv ?_ ?_;wtm_at "b3"
 refine⟨_,(ao (az 3 Lv.nd (aA cb (aA cb (e_ (ae (bW (v:=.ref a.dG) rfl T.eF rfl) af)) (dQ (show aO _ (.type "list") (kg K)from yB) rfl T.z_list mG (ae (pv 2) af))) (e_ (ae (bW (v:=.ref a.cW) rfl T.dF rfl) af))))
     (ao (bP (ee (dD (bR (show aO _ (.builtin "all") (mJ K)from tP rfl) rfl T.z_all sN (ae (d4 rfl (cF.by (N':=["upper","lower"]) (src:=[none,none]) rfl (show cV _ (aC pq).names zy ["upper","lower"] [none,none]=true from by decide +kernel)) (zyw rfl T.z_zip (ae (pv 3) (ae (pE nW (pv 3) (pb ay) nM) af))) (λ_ _ _ _ _=>by exact(show PG _ _ (kz K 2 _)from mW (n:=2) rfl (gC (bL (i:=0) (show(["upper","lower"]:List Str).Nodup from by decide) rfl (Or.inl rfl)) (gC (bL (i:=1) (show(["upper","lower"]:List Str).Nodup from by decide) rfl (Or.inl rfl)) nk)))) (λ_ _ _ _ _=>dY) (λ_ _ _ _ _=>(au (gz (K:=K) (mg:=mg) (a:=a) T) hr T.fM (ae (pv 1) (ae (pv 0) af))))) af)))) (av (aE iZ)) bQ)
     (av (aE (bR (show aO _ (.builtin "all") (mJ K)from tP rfl) rfl T.z_all sN (ae (d4 rfl (cF.by (N':=["top"]) (src:=[none]) rfl (show cV _ (aC pq).names zy ["top"] [none]=true from by decide +kernel)) (jT (au (Kj T) hr T.AF (ae (pv 0) (ae (pv 1) (ae (pv 2) af))))) (λ_ _ _ _ _=>(bL (i:=0) (show(["top"]:List Str).Nodup from by decide) rfl (Or.inl rfl))) (λ_ _ _ _ _=>dY) (λ_ _ _ _ _=>(au (gz (K:=K) (mg:=mg) (a:=a) T) hr T.fM (ae (pv 0) (ae (bW (v:=.ref a.dG) rfl T.eF rfl) af))))) af)))))),?_⟩
 wtm_at "cl";rw[show start zy [x0,x1,x2]=[some x0,some x1,some x2,none]from rfl];obtain⟨a',b',ns,xs,hr',hn',hp',ok,q⟩:=h;have hlen:=ok.len;have hfew:=ok.bX;obtain⟨m,hcm,hcm2⟩:=ok.cm;o_head fi (by simp) (λl0 H1 n1 S1 e1=>?_);o_head zJ (hp'.by S1) (λl1 H2 us n2 S2 e2 t2=>?_);have hul:=t2.length;rw[wm]at hul;refine nj (S2 _ _ e1) e2 (Va (iO (by simp;omega))) (λl2 H3 n3 S3 e3=>?_);o_head fi (by simp) (λl3 H4 n4 S4 e4=>?_);refine nj (S4 _ _ e3) e4 (Va (iO (by simp;omega))) (λl5 H5 n5 S5 e5=>?_);have T5:ah H H5:=S1.trans (S2.trans (S3.trans (S4.trans S5)))
 have t5:ak K H5 ([V.ref a.dG]++us++[V.ref a.cW]) ((dh xs).map N):=by
   unfold dh;rw[vE,vE];exact(ak.append (.cons (dM 1 (T.rn _) rfl rfl) .nil) (ak.same (S3.trans (S4.trans S5)) _ _ t2)).append (.cons (dM 0 (T.d9 _) rfl rfl) .nil)
 have ir5:=hr'.by T5;have in5:=hn'.by T5;have ip5:=hp'.by T5;clear n1 n2 n3 n4 n5 S1 S2 S3 S4 S5 e1 e2 e3 e4 t2 hr' hn' hp';generalize [V.ref a.dG]++us++[V.ref a.cW]=ws at e5 t5;have hws:=t5.length;rw[wm,zM]at hws;o_head yD (c_ e5 t5) (λl6 H6 ys n6 S6 e6 t6=>?_);rw[show(1:Int)=((1:Nat):Int)from rfl,Te _ _ (by rw[wm,zM];omega),<- Xi]at t6;have hys:=t6.length;rw[wm,vU,zM]at hys;have e56:=S6 _ _ e5;have t56:=ak.same S6 _ _ t5;have T6:=T5.trans S6;have ir6:=ir5.by S6;have in6:=in5.by S6;have ip6:=ip5.by S6;clear ir5 in5 ip5 T5 S6 e5 t5 n6;o_head zxL (t:=false) (u:=false) (aK.of e56) (aK.of e6) (by omega) (o0:=none) (o0':=none) (tl:=[]) rfl (λi v H=>v=V.bl ((lO xs).getD i true)) (λ_ _ _ _ _ h=>h) ?_ ?_
 . rintro D i x y zs o1 o2 H7 c hx hy inv e7
   obtain⟨hi,ix⟩:=df t56 hx;obtain⟨hj,iy⟩:=df t6 hy;rw[vU,zM]at hj
   have ed:((dh xs).drop 1).getD i 0=(dh xs).getD (i+1) 0:=by
     rw[wa,QR,wa,Nat.add_comm]
   rw[ed]at iy;have S7:=inv.2.2.1;have b1:ag 8000 ((dh xs).getD i 0):=(Jg hcm i).mono (by omega);have b2:ag 8000 ((dh xs).getD (i+1) 0):=(Jg hcm (i+1)).mono (by omega);refine Nd (m4 (.of e7) rfl ?_);have ix7:=ix.by S7;have iy7:=iy.by S7;k_few;exact yt inv (by omega) (λ_ _ _ _ _ h=>h) ⟨_,_,rfl⟩ (ah.refl _) (by rw[Yc (by omega)])
 . rintro D zs H7 hn S7 e7 hl7 hr7
   have hz:=r_ (bs:=lO xs) (by unfold lO;rw[wm,vk];omega) hr7;rw[hz]at e7;o_head oY (.of e7) ?_;k_few
   . rename_i z
     have ef:d7 a' b' ns xs=false:=by unfold d7;rw[z];rfl
     rw[<- ef];exact q _ (T6.trans S7)
   . rename_i z
     have ef:d7 a' b' ns xs=(kD (eC a' b' ns xs)).all id:=by unfold d7;rw[z];rfl
     rw[ef]at q;refine Mp (ir6.by S7) (in6.by S7) (ip6.by S7) ok (λv8 H8 S8 i8=>?_);have T8:=T6.trans (S7.trans S8);obtain⟨a8,us8,rfl,hs8,t8⟩:=bM.mp i8;have hl8:=t8.length;rw[wm,iT]at hl8;refine jF hs8 (o0:=none) (tl:=[]) rfl (λi v H=>v=V.bl ((kD (eC a' b' ns xs)).getD i true)) ?_ ?_
     . rintro D i x ys' o H9 hx inv
       obtain⟨hi,ix⟩:=df t8 hx;rw[iT]at hi;have ix9:=ix.by inv.same;have b1:ag 8000 ((eC a' b' ns xs).getD i 0):=N_ ok hi;have b2:ag 8000 1:=ag.one.mono (by decide);k_few;exact eU inv (by omega) (λ_ _ _ _ _ h=>h) ⟨_,rfl⟩ (ah.refl _) (by rw[zuq (by rw[iT];exact hi)])
     . rintro D ys' H9 hn9 S9 e9 hl9 hr9
       have hz':=r_ (bs:=kD (eC a' b' ns xs)) (by unfold kD;rw[wm,iT];omega) hr9;rw[hz']at e9;o_head oY (.of e9) ?_;exact q _ (T8.trans S9)
def cg(n:Nat):List Rat:=vf n 0
theorem Oi(n i:Nat):(cg n).getD i 0=0:=by
 unfold cg;rw[wa,xo]
 split<;>rfl
theorem pF(n:Nat):Cm 1 (cg n):=by
 refine⟨1,by decide,⟨by decide⟩,λx hx=>⟨0,?_,⟨by decide⟩⟩⟩;rw[List.eq_of_mem_replicate hx]
 rfl
def RL(K:wb):Sp:=λvs H Q _=>∃x0 x1,vs=[x0,x1] /\ ∃(a b:Rat)(ns:List Int),Is K H x0 (R a b)/\Is K H x1 (TZ ns)/\cz a b ns (cg (ns.length-1))/\0<=ns.sum/\ns.sum<=64 /\ ∀v H',ah H H'->Is K H' v (.tuple [N (a^ns.sum.toNat),TN (cu a b ns (cg (ns.length-1)))])->Q v H'
theorem nN{K:wb}{H:Hp}{Q:VK}{E:XK}{a b:Rat}{ns:List Int}{v w:V}(h1:Is K H v (R a b))(h2:Is K H w (TZ ns))(ok:cz a b ns (cg (ns.length-1)))(h0:0<=ns.sum)(h64:ns.sum<=64)(q:∀v H',ah H H'->Is K H' v (.tuple [N (a^ns.sum.toNat),TN (cu a b ns (cg (ns.length-1)))])->Q v H'):RL K [v,w] H Q E:=⟨_,_,rfl,a,b,ns,h1,h2,ok,h0,h64,q⟩
theorem og(T:Txt K mg a):aJ P w K mg base aS 7 a.G7 a.FV z_ (RL K):=by
 refine T.lD.F.ok Bo ?_ ?_;wtm_at "b2"
 refine⟨_,(ao (az 2 Bo.nd (ar (au (zf T) hr T.nD (ae (pv 0) (ae (bR (show aO _ (.builtin "sum") (Ce K)from Yi rfl) rfl T.z_sum JR (ae (pv 1) af)) af)))))
     (ao (az 3 Bo.nd (dQ (show aO _ (.type "tuple") (d5 K)from fI) rfl T.z_tuple eA (ae (d4 rfl (cF.by (N':=["size"]) (src:=[none]) rfl (show cV _ (aC sL).names Bj ["size"] [none]=true from by decide +kernel)) (jT (pE nW (pv 1) (pb ay) nM)) (λ_ _ _ _ _=>(bL (i:=0) (show(["size"]:List Str).Nodup from by decide) rfl (Or.inl rfl))) (λ_ _ _ _ _=>dY) (λ_ _ _ _ _=>(bW (v:=.ref a.cW) rfl T.dF rfl))) af)))
     (av (aE (br (ae (pv 2) (ae (au (NH T) hr T.Al (ae (pv 0) (ae (pv 1) (ae (pv 3) af)))) af))))))),?_⟩
 wtm_at "cl";rw[show start Bj [x0,x1]=[some x0,some x1,none,none]from rfl];obtain⟨a',b',ns,hr',hn',ok,h0,h64,q⟩:=h;have hlen:=ok.len;have hfew:=ok.bX;o_head zvY hn' ?_;o_head AX hr' ok.ba ok.bb h0 h64 (λv1 H1 S1 i1=>?_);k_few;rename_i v2 i2;have hn1:Is K H1 x1 (.tuple (ns.map PyData.int)):=hn'.by S1;refine zyX hn1 ?_ (λv3 H3 S3 i3=>?_)
 . rintro ⟨e,_⟩
   have e':min 1 (ns.map PyData.int).length=0:=e;rw[wm]at e';omega
 rw[Z0]at i3;obtain⟨a3,vs3,rfl,hs3,t3⟩:=bM.mp i3;have hl3:=t3.length;rw[uh,wm]at hl3;have hzl:(cg (ns.length-1)).length=ns.length-1:=Wt ..;o_head jF hs3 (o0:=none) (tl:=[]) rfl (λi v H=>Is K H v (N ((cg (ns.length-1)).getD i 0))) ?_ ?_
 . rintro D i x ys o H4 hx inv
   have hi:i<vs3.length:=by
     rcases wB i vs3.length with z | z
     . exact z
     . rw[wL z]at hx;cases hx
   k_few;exact eU inv (by omega) eZ ⟨_,rfl⟩ (ah.refl _) (by rw[Oi];exact dM 0 (T.d9 _) rfl rfl)
 . rintro D ys H4 hn4 S4 e4 hl4 hr4
   o_head gX (c_ (xs:=cg (ns.length-1)) e4 (fE (by omega) hr4)) (λv5 H5 S5 i5=>?_);have T5:ah H1 H5:=S3.trans (S4.trans S5);o_head NK ((hr'.by S1).by T5) ((hn'.by S1).by T5) i5 ok (λv6 H6 S6 i6=>?_);k_few;exact cK (by simp) (.cons (i2.by (T5.trans S6)) (.cons i6 .nil)) (λv H' S h=>q v H' (S1.trans (T5.trans (S6.trans S))) h)
def cO(a b:Rat)(ns:List Int):List Rat:=(cu a b ns (cg (ns.length-1))).map (λs=>s / (1-a^ns.sum.toNat))
theorem kK{a b:Rat}{ns:List Int}{xs:List Rat}(h:ns.length=xs.length+1):(cu a b ns xs).length=xs.length:=by
 unfold cu;rw[Xf,cJ];simp
theorem BC{a b:Rat}{ns:List Int}{xs:List Rat}(h:ns.length=xs.length+1){i:Nat}(hi:i<xs.length):(cu a b ns xs).getD i 0=(aH a b ns (xs++[0]) ns.length).getD i 0:=by
 unfold cu;have hl:(aH a b ns (xs++[0]) ns.length).length=xs.length+1:=by rw[cJ];simp
 rw[wa,wa,List.getElem?_dropLast,if_pos (by omega)]
theorem Bb{xs:List Rat}{i:Nat}(h:i<xs.length):(xs++[0]).getD i 0=xs.getD i 0:=by
 rw[wa,wa,vR h]
theorem n_{xs:List Rat} : (xs++[0]).getD xs.length 0=0:=by
 rw[wa,vv (wo _),Vs]
 rfl
theorem K0:∀{ns:List Int},(∀n∈ns,0<=n)->((ns.map xx).sum:Int)=ns.sum
 | [],_=>rfl
 | n::ns,h=>by
  have h1:=K0 (ns:=ns) λm hm=>h m (wy _ hm)
  have h2:=h n (wC ..);rw[w9,Vd,Vd];omega
theorem LY{ns:List Int}(h:∀n∈ns,0<=n):upTo ns ns.length=ns.sum.toNat:=by
 have:=K0 h;unfold GM.upTo;rw[Wx];omega
theorem ZN{a b:Rat}{ns:List Int}{xs:List Rat}(h:ns.length=xs.length+1)(hn:∀n∈ns,0<=n){i:Nat}(hi:i<xs.length):(cu a b ns xs).getD i 0=a^ns.sum.toNat*xs.getD i 0+(cu a b ns (cg (ns.length-1))).getD i 0:=by
 have hz:(cg (ns.length-1)).length=xs.length:=by unfold cg;rw[Wt];omega
 have hu:=LY hn;rw[BC h hi,BC (by omega) (by omega)];have hr:=Cs a b ns (xs++[0]) (cg (ns.length-1)++[0]) (by simp[hz]) (by simp[h]) xs.length (by simp) (by rw[n_];rw[<- hz,n_]) ns.length (wo _) i (by simp;omega);rw[if_neg (by omega),show ns.length-1=xs.length by omega]at hr;rw[show ns.length-1=xs.length by omega]at hz ⊢;rw[n_,Bb hi,Bb (by omega),Oi,hu]at hr
 have hl0:(cg xs.length++[0]).getD xs.length 0=0:=by
  have:=n_ (xs:=cg xs.length);rw[hz]at this;exact this
 rw[hl0]at hr
 grind
theorem sM{a b:Rat}{ns:List Int}(h:1<=ns.length):(cO a b ns).length=ns.length-1:=by
 unfold cO;rw[wm,kK (by unfold cg;rw[Wt];omega)];unfold cg;rw[Wt]
theorem Pg{a b:Rat}{ns:List Int}{i:Nat}(h:i<(cO a b ns).length):(cO a b ns).getD i 0=(cu a b ns (cg (ns.length-1))).getD i 0 / (1-a^ns.sum.toNat):=by
 unfold cO at *;rw[wm]at h;rw[wa,wx,wa,wc h];rfl
theorem Jj{m n:Nat}{xs:List Rat}{g:Rat}(h:Cm m xs)(bg:ag n g)(hg:g≠0):Cm (m+n) (xs.map (λs=>s / g)):=by
 obtain⟨B,h0,bB,hx⟩:=h;have hgn:=rG hg
 have key:∀(t:Int),wz t B / g=wz (t*(g.den:Int)) (B*g.num):=by
  intro t
  conv=>lhs;rw[<- Vr g]
  rw[xG,Rat.inv_divInt,xR]
 rcases Int.lt_or_gt_of_ne hgn with z | z
 ·refine⟨B * -g.num,vN h0 (by omega),bB.mul bg.t.neg,λx hxm=>?_⟩
  obtain⟨s,hs,rfl⟩:=wW.mp hxm;obtain⟨t,rfl,bt⟩:=hx s hs;refine⟨-(t*(g.den:Int)),?_,(bt.mul bg.b).neg⟩
  show wz t B / g=_
  rw[key t,X4,Rat.divInt_neg',Int.neg_neg]
 ·refine⟨B*g.num,vN h0 (by omega),bB.mul bg.t,λx hxm=>?_⟩
  obtain⟨s,hs,rfl⟩:=wW.mp hxm;obtain⟨t,rfl,bt⟩:=hx s hs;exact⟨t*(g.den:Int),key t,bt.mul bg.b⟩
theorem Cv{a b:Rat}{ns:List Int}{xs:List Rat}{m:Nat}(ba:ag 10 a)(bb:ag 10 b)(hm:Cm m xs):Cm (m+2*ns.length+21*upTo ns ns.length) (cu a b ns xs):=by
 obtain⟨B,h0,h1,h2⟩:=(hm.snoc).rows ba bb (ns:=ns) ns.length (wo _);exact⟨B,h0,h1,λx hx=>h2 x (List.dropLast_subset _ hx)⟩
theorem Y2{a b:Rat}{ns:List Int}(ba:ag 10 a)(bb:ag 10 b)(h8:ns.length<=8)(hu:upTo ns ns.length<=8)(hs:ns.sum.toNat<=8)(hF:a^ns.sum.toNat≠1):Cm 268 (cO a b ns):=by
 have bF:ag 81 (a^ns.sum.toNat):=(ba.pow ns.sum.toNat).mono (by omega);have bg:ag 83 (1-a^ns.sum.toNat):=(ag.one.sub bF).mono (by decide);have hg:1-a^ns.sum.toNat≠0:=λe=>hF (by grind)
 exact(Jj (Cv (ns:=ns) ba bb (pF (ns.length-1))) bg hg).mono (by omega)
theorem zoM{a b:Rat}{ns:List Int}(ok:cz a b ns (cg (ns.length-1)))(h8:ns.sum<=8)(i:Nat):ag 400 ((cu a b ns (cg (ns.length-1))).getD i 0):=((Cv ok.ba ok.bb (pF _)).get i).mono (by
 have h1:=LY (λn hn=>(ok.n0 n hn).1);have h2:=ok.bX;omega)
def JY(K:wb):Sp:=λvs H Q _=>∃x0 x1,vs=[x0,x1] /\ ∃(a b:Rat)(ns:List Int),Is K H x0 (R a b)/\Is K H x1 (TZ ns)/\cz a b ns (cg (ns.length-1))/\0<=ns.sum/\ns.sum<=8/\(a^ns.sum.toNat=1->∀H',ah H H'->Q .bj H')/\(a^ns.sum.toNat≠1->∀v H',ah H H'->Is K H' v (TN (cO a b ns))->Q v H')
theorem Mm{K:wb}{H:Hp}{Q:VK}{E:XK}{a b:Rat}{ns:List Int}{v w:V}(h1:Is K H v (R a b))(h2:Is K H w (TZ ns))(ok:cz a b ns (cg (ns.length-1)))(h0:0<=ns.sum)(h8:ns.sum<=8)(q1:a^ns.sum.toNat=1->∀H',ah H H'->Q .bj H')(q2:a^ns.sum.toNat≠1->∀v H',ah H H'->Is K H' v (TN (cO a b ns))->Q v H'):JY K [v,w] H Q E:=⟨_,_,rfl,a,b,ns,h1,h2,ok,h0,h8,q1,q2⟩
theorem Ko(T:Txt K mg a):aJ P w K mg base aS 8 a.Ih a.Hz zr (JY K):=by
 refine T.AE.F.ok Eh ?_ ?_;wtm_at "b2"
 refine⟨_,(ao (az 2 Eh.nd (au (og T) hr T.lD (ae (pv 0) (ae (pv 1) af))))
     (ao (bP (bS (show aN _ (wU .Eq) (cv K)from de hu) (ar (pv 2)) (bW (v:=.ref a.dG) rfl T.eF rfl) (a_ _)) (av (aE g_)) bQ)
     (ao (az 3 Eh.nd (au (tZ T) hr T.nE (ae (bW (v:=.ref a.dG) rfl T.eF rfl) (ae (ar (pv 2)) af))))
     (av (aE (dQ (show aO _ (.type "tuple") (d5 K)from fI) rfl T.z_tuple eA (ae (d4 rfl (cF.by (N':=["shift","gap"]) (src:=[none,some 3]) rfl (show cV _ (aC rM).names Bq ["shift","gap"] [none,some 3]=true from by decide +kernel)) (jT (ar (pv 2))) (λ_ _ _ _ _=>(bL (i:=0) (show(["shift","gap"]:List Str).Nodup from by decide) rfl (Or.inl rfl))) (λ_ _ _ _ _=>dY) (λ_ _ _ _ _=>(au (MR (K:=K) (mg:=mg) (a:=a) T) hr T.AH (ae (pv 0) (ae (pv 1) af))))) af))))))),?_⟩
 wtm_at "cl";rw[show start Bq [x0,x1]=[some x0,some x1,none,none]from rfl];obtain⟨ra,rb,ns,hr',hn',ok,h0,h8,q1,q2⟩:=h;have bF:ag 100 (ra^ns.sum.toNat):=(ok.ba.pow ns.sum.toNat).mono (by omega);o_head nN hr' hn' ok h0 (by omega) (λv1 H1 S1 i1=>?_);o_head aD (j:=0) i1 rfl (λv2 i2=>?_);k_few
 . rename_i z
   exact q1 z H1 S1
 . rename_i z
   refine aD (j:=0) i1 rfl (λv3 i3=>?_);k_few;rename_i v4 H4 S4 i4;have hg:(1-ra^ns.sum.toNat)≠0:=λe=>z (by grind)
   have bg:ag 102 (1-ra^ns.sum.toNat):=(ag.one.sub bF).mono (by decide);refine aD (j:=1) (i1.by S4) rfl (λv5 i5=>?_);obtain⟨ap,us,rfl,hu,tu⟩:=bM.mp i5;refine jF (o0:=none) (tl:=[some v4]) hu rfl (λj y H'=>Is K H' y (N ((cO ra rb ns).getD j 0))) ?_ ?_
   . intro D i x ys o H5 hx inv
     obtain⟨hi,ix⟩:=df tu hx;have ix5:=ix.by inv.same;have i45:=i4.by inv.same
     have hi1000:i<=1000:=by
       have h1:=ok.len;have h2:=ok.bX;have h3:=kK (a:=ra) (b:=rb) (show ns.length=(cg (ns.length-1)).length+1 from ok.len);omega
     o_head J7 ix5 i45 ((zoM ok h8 i).mono (by decide)) (bg.mono (by decide)) hg (λv6 H6 S6 i6=>?_);k_few
     have e:(cO ra rb ns).getD i 0=(cu ra rb ns (cg (ns.length-1))).getD i 0 / (1-ra^ns.sum.toNat):=by
       unfold cO;rw[wa,wx,wa,wc hi];rfl
     exact eU inv hi1000 eZ ⟨_,rfl⟩ S6 (by rw[e];exact i6)
   . intro D ys H5 hn S5 hD hl hr5
     have hl':ys.length=(cO ra rb ns).length:=by
       unfold cO;rw[hl,tu.length,wm,wm]
     refine gX (c_ hD (fE hl' hr5)) (λw H6 S6 i6=>?_);k_few;exact q2 z w H6 (S1.trans (S4.trans (S5.trans S6))) i6
def fC(p q:Rat)(xs ss:List Rat):List Rat:=(wq xs.length).map λi=>p*xs.getD i 0+q*ss.getD i 0
theorem mm(p q:Rat)(xs ss:List Rat):(fC p q xs ss).length=xs.length:=by unfold fC;rw[wm,vk]
theorem PL{p q:Rat}{xs ss:List Rat}{i:Nat}(h:i<xs.length):(fC p q xs ss).getD i 0=p*xs.getD i 0+q*ss.getD i 0:=by
 unfold fC;rw[wa,wx,vQ h];rfl
def Iv(K:wb):Sp:=λvs H Q _=>∃x0 x1 x2 x3,vs=[x0,x1,x2,x3] /\ ∃(d:wD)(p q:Rat)(xs ss:List Rat),Is K H x0 (.tuple [d,TN ss])/\Is K H x1 (TN xs)/\Is K H x2 (N p)/\Is K H x3 (N q)/\ss.length=xs.length/\xs.length<=50/\ag 2000 p/\ag 2000 q/\(∀i,ag 6900 (xs.getD i 0))/\(∀i,ag 6900 (ss.getD i 0)) /\ ∀v H',ah H H'->Is K H' v (TN (fC p q xs ss))->Q v H'
theorem IE{K:wb}{H:Hp}{Q:VK}{E:XK}{d:wD}{p q':Rat}{xs ss:List Rat}{v w u z:V}(h0:Is K H v (.tuple [d,TN ss]))(h1:Is K H w (TN xs))(h2:Is K H u (N p))(h3:Is K H z (N q'))(hl:ss.length=xs.length)(hf:xs.length<=50)(b1:ag 2000 p)(b2:ag 2000 q')(b3:∀i,ag 6900 (xs.getD i 0))(b4:∀i,ag 6900 (ss.getD i 0))(q:∀v H',ah H H'->Is K H' v (TN (fC p q' xs ss))->Q v H'):Iv K [v,w,u,z] H Q E:=⟨_,_,_,_,rfl,d,p,q',xs,ss,h0,h1,h2,h3,hl,hf,b1,b2,b3,b4,q⟩
theorem RH(T:Txt K mg a):aJ P w K mg base aS 3 a.HS a.GS zQ (Iv K):=by
 refine T.Aw.F.ok zsY ?_ ?_;wtm_at "b4";refine⟨_,(av (aE (dQ (show aO _ (.type "tuple") (d5 K)from fI) rfl T.z_tuple eA (ae (d4 rfl (cF.by (N':=["place","shift","of_place","of_shift"]) (src:=[none,none,some 2,some 3]) rfl (show cV _ (aC ze).names rB ["place","shift","of_place","of_shift"] [none,none,some 2,some 3]=true from by decide +kernel)) (Tt rfl T.z_zip (ae (pv 1) (ae (ar (pv 0)) af))) (λ_ _ _ _ _=>by exact(show PG _ _ (kz K 2 _)from mW (n:=2) rfl (gC (bL (i:=0) (show(["place","shift","of_place","of_shift"]:List Str).Nodup from by decide) rfl (Or.inl rfl)) (gC (bL (i:=1) (show(["place","shift","of_place","of_shift"]:List Str).Nodup from by decide) rfl (Or.inl rfl)) nk)))) (λ_ _ _ _ _=>dY) (λ_ _ _ _ _=>(au (f_ (K:=K) (mg:=mg) (a:=a) T) hr T.fL (ae (au (kj (K:=K) (mg:=mg) (a:=a) T) hr T.jh (ae (pv 2) (ae (pv 0) af))) (ae (au (kj (K:=K) (mg:=mg) (a:=a) T) hr T.jh (ae (pv 3) (ae (pv 1) af))) af))))) af)))),?_⟩;wtm_at "cl";rw[show start rB [x0,x1,x2,x3]=[some x0,some x1,some x2,some x3]from rfl];obtain⟨d,p,q',xs,ss,h0,h1,h2,h3,hl,hf,b1,b2,b3,b4,q⟩:=h;obtain⟨a1,us,rfl,hs1,t1⟩:=bM.mp h1;o_head aD (j:=1) h0 rfl (λv5 i5=>?_);obtain⟨a2,ws,rfl,hs2,t2⟩:=bM.mp i5;have l1:=t1.length;have l2:=t2.length;rw[wm]at l1 l2;o_head zyz (t:=true) (u:=true) hs1 hs2 (by omega) (o0:=none) (o0':=none) (tl:=[some x2,some x3]) rfl (λj y H'=>Is K H' y (N ((fC p q' xs ss).getD j 0))) eZ ?_ ?_
 ·intro D j y z zs o1 o2 H7 c hy hz inv hc
  obtain⟨hj,iy⟩:=df t1 hy;obtain⟨_,iz⟩:=df t2 hz;have S7:=inv.2.2.1;have iy7:=iy.by S7;have iz7:=iz.by S7;have ip7:=h2.by S7;have iq7:=h3.by S7;have c1:=b3 j;have c2:=b4 j;have m1:ag 8999 (p*xs.getD j 0):=(b1.mul c1).mono (by decide);have m2:ag 8999 (q'*ss.getD j 0):=(b2.mul c2).mono (by decide);refine m4 (.of hc) rfl ?_;k_few;rename_i v8 H8 S8 i8 v9 H9 S9 i9 v10 H10 S10 i10;rw[<- PL hj]at i10;exact yt inv (by omega) eZ ⟨_,_,rfl⟩ (S8.trans (S9.trans S10)) i10
 ·intro D zs H7 hn S7 hD hl7 hr7
  have tz:ak K H7 zs ((fC p q' xs ss).map N):=fE (by rw[hl7,mm];omega) hr7;o_head gX (c_ hD tz) (λv8 H8 S8 i8=>?_);exact q v8 H8 (S7.trans S8) i8
structure cP(ns:List Int):Prop where
 some:1<=ns.length
 bX:ns.length<=8
 each:∀n∈ns,1<=n/\n<=8
 sum:ns.sum<=8
theorem rY:∀{ns:List Int},(∀n∈ns,0<=n)->((ns.map xx).sum:Int)=ns.sum
 | [],_=>rfl
 | n::ns,h=>by
  have h1:=rY (ns:=ns) λm hm=>h m (wy _ hm)
  have h2:=h n (wC ..);rw[w9,Vd,Vd];omega
theorem cP.upTo{ns:List Int}(h:cP ns):upTo ns ns.length<=8:=by
 have h1:=rY (ns:=ns) λn hn=>by have:=h.each n hn;omega
 have h2:=h.sum;unfold GM.upTo;rw[Wx];omega
def cR(a b:Rat)(ns:List Int):List Rat:=cu a b ns (cg (ns.length-1))
def cA(a b:Rat)(ns:List Int)(n:Nat)(xs:List Rat):List Rat:=(wq xs.length).map λi=>fg (a^ns.sum.toNat) ((cR a b ns).getD i 0) n (xs.getD i 0)
theorem zN(n:Nat):(cg n).length=n:=Wt ..
theorem mf{a b:Rat}{ns:List Int}(h:1<=ns.length):(cR a b ns).length=ns.length-1:=by
 unfold cR;rw[kK (by rw[zN];omega),zN]
theorem dq(a b:Rat)(ns:List Int)(n:Nat)(xs:List Rat):(cA a b ns n xs).length=xs.length:=by unfold cA;rw[wm,vk]
theorem j3{a b:Rat}{ns:List Int}{n:Nat}{xs:List Rat}{i:Nat}(h:i<xs.length):(cA a b ns n xs).getD i 0=fg (a^ns.sum.toNat) ((cR a b ns).getD i 0) n (xs.getD i 0):=by
 unfold cA;rw[wa,wx,vQ h];rfl
theorem Bf{xs ys:List Rat}(hl:xs.length=ys.length)(h:∀i,i<xs.length->xs.getD i 0=ys.getD i 0):xs=ys:=Vj hl λi h1 h2=>by
 have:=h i h1;rw[wa,wa,wc h1,wc h2]at this;exact this
theorem oW(a b:Rat)(ns:List Int)(xs:List Rat):cA a b ns 0 xs=xs:=Bf (dq ..) λi hi=>by
 rw[dq]at hi;rw[j3 hi,Z9]
theorem Rz(a b:Rat)(ns:List Int)(m n:Nat)(xs:List Rat):cA a b ns n (cA a b ns m xs)=cA a b ns (m+n) xs:=Bf (by rw[dq,dq,dq]) λi hi=>by
 rw[dq,dq]at hi;rw[j3 (by rw[dq];exact hi),j3 hi,j3 hi,zxq]
theorem BN{a b:Rat}{ns:List Int}{xs:List Rat}(h:ns.length=xs.length+1)(hn:∀n∈ns,0<=n):cA a b ns 1 xs=cu a b ns xs:=Bf (by rw[dq,kK h]) λi hi=>by
 rw[dq]at hi;rw[j3 hi,zxv,ZN h hn hi]
 rfl
structure dR(a b:Rat)(ns:List Int)(n:Nat):Prop where
 ok:aV a b
 sz:cP ns
 bX:n<=60
 k:(6*ns.sum.toNat+1+1)*n<=1600
theorem RE{a b:Rat}(h:aV a b):ag 6 a:=by
 have h1:=h.a0;have h2:=h.a4;have h3:=h.ad;have n0:0<=a.num:=Qd.mpr (vW h1)
 have n1:a.num<=4*a.den:=by
  have:=(Xb a 4).mp h2
  simpa using this
 have e:(2:Nat)^6=64:=by decide
 exact⟨⟨by rw[e];omega⟩,⟨by rw[e];omega⟩⟩
theorem jb{a b:Rat}(h:aV a b)(S:Nat):ag (6*S+1) (a^S):=(RE h).pow S
theorem dR.le{a b:Rat}{ns:List Int}{m n:Nat}(h:dR a b ns n)(e:m<=n):dR a b ns m:=⟨h.ok,h.sz,vV e h.bX,vV (QC _ e) h.k⟩
theorem dR.pow{a b:Rat}{ns:List Int}{n:Nat}(h:dR a b ns n){i:Nat}(hi:i<=n):ag 1601 ((a^ns.sum.toNat)^i):=((jb h.ok _).pow i).mono (by
 have h1:=(h.le hi).k;have h2:=Wb i (show 6*ns.sum.toNat+1<=6*ns.sum.toNat+1+1 by omega);omega)
theorem dR.aB{a b:Rat}{ns:List Int}{n:Nat}(h:dR a b ns n){i:Nat}(hi:i<=n):ag 1601 (aB (a^ns.sum.toNat) 1 i):=(Ki (jb h.ok _) i).mono (by have:=(h.le hi).k;omega)
theorem lX{a b:Rat}{ns:List Int}(h:aV a b)(k:cP ns):cz a b ns (cg (ns.length-1)):=⟨h.ba,h.bb,λn hn=>by have:=k.each n hn;omega,by rw[zN];have:=k.some;omega,by have:=k.bX;omega,⟨1,pF _,by have:=k.bX;have:=k.upTo;omega⟩⟩
theorem Ej{a b:Rat}{ns:List Int}(h:aV a b)(k:cP ns):Cm 185 (cR a b ns):=(Cv (ns:=ns) h.ba h.bb (pF (ns.length-1))).mono (by have:=k.bX;have:=k.upTo;omega)
theorem Ae{a b:Rat}{ns:List Int}(h:aV a b)(k:cP ns)(i:Nat):ag 185 ((cR a b ns).getD i 0):=(Ej h k).get i
theorem cP.nn{ns:List Int}(k:cP ns):∀n∈ns,0<=n:=λn hn=>by have:=k.each n hn;omega
theorem cP.pos{ns:List Int}(k:cP ns):1<=ns.sum/\ns.sum<=8:=by
 refine⟨?_,k.sum⟩;have h1:=rY k.nn;have h2:=k.some
 match ns,h2,k.each with
 | n::ns,_,he =>
  have:=he n (wC ..);rw[w9,Vd]at h1;omega
theorem zo{a b:Rat}(h:aV a b){S:Nat}(hS:1<=S):a^S=1 ↔ a=1:=by
 obtain⟨m,rfl⟩:∃m,S=m+1:=⟨S-1,by omega⟩
 constructor
 ·intro e
  by_cases z:a<1
  ·have:=zsm h.a0 z m
   rw[e]at this;exact absurd this (by grind)
  ·by_cases y:a=1
   ·exact y
   ·have z3:1<a:=qW (VT.mp z) (WA y)
    have:=Y8 z3 m;rw[e]at this;exact absurd this (by grind)
 ·intro e
  rw[e,GM.one_pow']
theorem zu8{a b:Rat}{ns:List Int}(hF:a^ns.sum.toNat≠1){i:Nat}(hi:i<(cO a b ns).length):(cO a b ns).getD i 0*(1-a^ns.sum.toNat)=(cR a b ns).getD i 0:=by
 rw[Pg hi];exact W3 (λe=>hF (by grind))
theorem Ys{a b:Rat}(h:aV a b)(S n:Nat):ag ((6*S+3)*n+1) ((a^S)^n):=((jb h S).pow n).mono (by have:=Wb n (show 6*S+1<=6*S+3 by omega);omega)
theorem I0{a b:Rat}(h:aV a b)(S n:Nat):ag ((6*S+3)*n+1) (aB (a^S) 1 n):=(Ki (jb h S) n).mono (by have:=Wb n (show 6*S+1+1<=6*S+3 by omega);omega)
def RJ(K:wb):Sp:=λvs H Q _=>∃x0 x1 x2,vs=[x0,x1,x2] /\ ∃(F:Rat)(n:Int)(xs ss:List Rat),x2=.int n/\Is K H x0 (.tuple [N F,TN ss])/\Is K H x1 (TN xs)/\0<=n/\n<=64/\ss.length=xs.length/\xs.length<=50/\ag 2000 F/\(∀i,i<=n.toNat->ag 2000 (F^i))/\(∀i,i<=n.toNat->ag 2000 (aB F 1 i))/\(∀i,ag 6900 (xs.getD i 0))/\(∀i,ag 6900 (ss.getD i 0)) /\ ∀v H',ah H H'->Is K H' v (TN ((wq xs.length).map λi=>fg F (ss.getD i 0) n.toNat (xs.getD i 0)))->Q v H'
theorem Nf{K:wb}{H:Hp}{Q:VK}{E:XK}{F:Rat}{n:Int}{xs ss:List Rat}{v w:V}(h0:Is K H v (.tuple [N F,TN ss]))(h1:Is K H w (TN xs))(n0:0<=n)(n1:n<=64)(hl:ss.length=xs.length)(hf:xs.length<=50)(b0:ag 2000 F)(b1:∀i,i<=n.toNat->ag 2000 (F^i))(b2:∀i,i<=n.toNat->ag 2000 (aB F 1 i))(b3:∀i,ag 6900 (xs.getD i 0))(b4:∀i,ag 6900 (ss.getD i 0))(q:∀v H',ah H H'->Is K H' v (TN ((wq xs.length).map λi=>fg F (ss.getD i 0) n.toNat (xs.getD i 0)))->Q v H'):RJ K [v,w,.int n] H Q E:=⟨_,_,_,rfl,F,n,xs,ss,rfl,h0,h1,n0,n1,hl,hf,b0,b1,b2,b3,b4,q⟩
theorem Nz(T:Txt K mg a):aJ P w K mg base aS 4 a.Ic a.G9 zg (RJ K):=by
 refine T.AA.F.ok NR ?_ ?_;wtm_at "b3"
 refine⟨_,(ao (az 3 NR.nd (au (zf T) hr T.nD (ae (br (ae (ar (pv 0)) (ae (bW (v:=.ref a.dG) rfl T.eF rfl) af))) (ae (pv 2) af))))
     (av (aE (au (RH T) hr T.Aw (ae (pv 0) (ae (pv 1) (ae (ar (pv 3)) (ae (ar (pv 3)) af)))))))),?_⟩
 wtm_at "cl";rw[show start N5 [x0,x1,x2]=[some x0,some x1,some x2,none]from rfl];obtain⟨F,n,xs,ss,rfl,h0,h1,n0,n1,hl,hf,b0,b1,b2,b3,b4,q⟩:=h;o_head aD (j:=0) h0 rfl (λv1 i1=>?_);o_head AO i1 (dM 1 (T.rn _) rfl rfl) (λv2 H2 S2 i2=>?_);o_head NA i2 (b0.mono (by decide)) (ag.one.mono (by decide)) n0 n1 (λi hi=>(b1 i hi).mono (by decide)) (λi hi=>(b2 i hi).mono (by decide)) (λv3 H3 S3 i3=>?_);k_few;rename_i v4 i4 v5 i5;have T3:=S2.trans S3;refine IE (h0.by T3) (h1.by T3) i4 i5 hl hf (b1 _ (wo _)) (b2 _ (wo _)) b3 b4 (λv6 H6 S6 i6=>?_);exact q v6 H6 (T3.trans S6) i6
def N7(K:wb):Sp:=λvs H Q _=>∃x0 x1 x2 x3,vs=[x0,x1,x2,x3] /\ ∃(ra rb:Rat)(ns:List Int)(xs:List Rat)(n:Int),x3=.int n/\Is K H x0 (R ra rb)/\Is K H x1 (TZ ns)/\Is K H x2 (TN xs)/\ns.length=xs.length+1/\0<=n/\dR ra rb ns n.toNat/\(∀i,ag 6900 (xs.getD i 0)) /\ ∀v H',ah H H'->Is K H' v (TN (cA ra rb ns n.toNat xs))->Q v H'
theorem U6{K:wb}{H:Hp}{Q:VK}{E:XK}{ra rb:Rat}{ns:List Int}{xs:List Rat}{n:Int}{v w u:V}(h0:Is K H v (R ra rb))(h1:Is K H w (TZ ns))(h2:Is K H u (TN xs))(hl:ns.length=xs.length+1)(n0:0<=n)(ok:dR ra rb ns n.toNat)(b:∀i,ag 6900 (xs.getD i 0))(q:∀v H',ah H H'->Is K H' v (TN (cA ra rb ns n.toNat xs))->Q v H'):N7 K [v,w,u,.int n] H Q E:=⟨_,_,_,_,rfl,ra,rb,ns,xs,n,rfl,h0,h1,h2,hl,n0,ok,b,q⟩
theorem zkq(T:Txt K mg a):aJ P w K mg base aS 8 a.Fz a.Fg sI (N7 K):=by
 refine T.Fo.F.ok ZW ?_ ?_;wtm_at "b4";refine⟨_,(av (aE (au (Nz T) hr T.AA (ae (au (og T) hr T.lD (ae (pv 0) (ae (pv 1) af))) (ae (pv 2) (ae (pv 3) af)))))),?_⟩;wtm_at "cl";rw[show start CB [x0,x1,x2,x3]=[some x0,some x1,some x2,some x3]from rfl];obtain⟨ra,rb,ns,xs,n,rfl,hr',hn',hx',hl,n0,ok,bx,q⟩:=h;have h8:=ok.sz.bX;have hp:=ok.sz.pos;have hn60:=ok.bX;o_head nN hr' hn' (lX ok.ok ok.sz) (by omega) (by omega) (λv1 H1 S1 i1=>?_);o_head Nf (ss:=cR ra rb ns) i1 (hx'.by S1) n0 (by omega) (by rw[mf (by omega)];omega) (by omega) (by have:=ok.sz.sum;exact(jb ok.ok _).mono (by omega)) (λi hi=>(ok.pow hi).mono (by decide)) (λi hi=>(ok.aB hi).mono (by decide)) bx (λi=>(Ae ok.ok ok.sz i).mono (by decide)) (λv2 H2 S2 i2=>?_);exact q v2 H2 (S1.trans S2) i2
theorem Mf{k:Nat}{F:Rat}(h:ag k F):∀i:Nat,∃U:Int,GM.sumTo (aB F 1) i=wz U ((F.den:Int)^i)/\Bd ((k+2)*i+2) U
 | 0=>⟨0,by simp[GM.sumTo],⟨by simp⟩⟩
 | i+1=>by
  obtain⟨U,e,bU⟩:=Mf h i;obtain⟨T,e2,bT,bd⟩:=ye h i;have hd:(F.den:Int)^i≠0:=qf (gu F);have hd1:(F.den:Int)^(i+1)≠0:=qf (gu F);have ed:(F.den:Int)^(i+1)=(F.den:Int)^i*(F.den:Int):=V3 ..;have h1:(k+2)*(i+1)=(k+2)*i+(k+2):=qU ..;have h2:(k+1)*i<=(k+2)*i:=Wb i (by omega);refine⟨(U+T)*(F.den:Int),?_,((bU.add bT).mul h.b).mono (by omega)⟩
  symm
  refine fJ hd1 ?_;have k1:=cD U hd;have k2:=cD T hd;have e3:(((U+T)*(F.den:Int):Int):Rat)=((U:Rat)+(T:Rat))*((F.den:Int):Rat):=by rw[vO,qK]
  rw[GM.sumTo,e,e2,ed,vO,e3,<- k1,<- k2]
  grind
theorem L8{k:Nat}{F:Rat}(h:ag k F)(i:Nat):ag ((k+2)*i+2) (GM.sumTo (aB F 1) i):=by
 obtain⟨U,e,bU⟩:=Mf h i;obtain⟨T,e2,bT,bd⟩:=ye h i;rw[e];exact ag.divInt (qf (gu F)) bU (bd.mono (by have:=Wb i (show k<=k+2 by omega);omega))
theorem dR.sums{a b:Rat}{ns:List Int}{n:Nat}(h:dR a b ns n){i:Nat}(hi:i<=n):ag 1662 (GM.sumTo (GM.aB (a^ns.sum.toNat) 1) i):=(L8 (jb h.ok _) i).mono (by
 have h1:=(h.le hi).k;have h2:=(h.le hi).bX;have e:(6*ns.sum.toNat+1+2)*i=(6*ns.sum.toNat+1+1)*i+i:=by rw[<- qT]
 omega)
theorem zyh(F s x:Rat)(n:Nat):GM.sumTo (λk=>fg F s k x) n=aB F 1 n*x+GM.sumTo (aB F 1) n*s:=by
 unfold fg;rw[IW]
 have e1:GM.sumTo (λk=>F^k*x) n=aB F 1 n*x:=by
  rw[<- PD F n,Qb,<- Cd];exact tG n λk _=>Qb ..
 have e2:GM.sumTo (λk=>aB F 1 k*s) n=GM.sumTo (aB F 1) n*s:=by
  rw[Qb (GM.sumTo (aB F 1) n) s,<- Cd];exact tG n λk _=>Qb ..
 rw[e1,e2]
def RS(K:wb):Sp:=λvs H Q _=>∃x0 x1 x2,vs=[x0,x1,x2] /\ ∃(a b:Rat)(ns:List Int)(n:Int)(xs:List Rat),x2=.int n/\Is K H x0 (.tuple [N (a^ns.sum.toNat),TN (cR a b ns)])/\Is K H x1 (TN xs)/\0<=n/\dR a b ns n.toNat/\ns.length=xs.length+1/\(∀i,ag 6900 (xs.getD i 0)) /\ ∀v H',ah H H'->Is K H' v (TN (fC (aB (a^ns.sum.toNat) 1 n.toNat) (GM.sumTo (aB (a^ns.sum.toNat) 1) n.toNat) xs (cR a b ns)))->Q v H'
theorem zjs{K:wb}{H:Hp}{Q:VK}{E:XK}{a b:Rat}{ns:List Int}{n:Int}{xs:List Rat}{v w:V}(h0:Is K H v (.tuple [N (a^ns.sum.toNat),TN (cR a b ns)]))(h1:Is K H w (TN xs))(n0:0<=n)(ok:dR a b ns n.toNat)(hl:ns.length=xs.length+1)(bx:∀i,ag 6900 (xs.getD i 0))(q:∀v H',ah H H'->Is K H' v (TN (fC (aB (a^ns.sum.toNat) 1 n.toNat) (GM.sumTo (aB (a^ns.sum.toNat) 1) n.toNat) xs (cR a b ns)))->Q v H'):RS K [v,w,.int n] H Q E:=⟨_,_,_,rfl,a,b,ns,n,xs,rfl,h0,h1,n0,ok,hl,bx,q⟩
theorem ZO(T:Txt K mg a):aJ P w K mg base aS 4 a.Fs a.EZ zl (RS K):=by
 refine T.Fc.F.ok mY ?_ ?_;wtm_at "b3"
 refine⟨_,(ao (az 3 mY.nd (bW (v:=.ref a.cW) rfl T.dF rfl))
     (ao (az 4 mY.nd (bW (v:=.ref a.cW) rfl T.dF rfl))
     (ao (gk vL rfl (jH rfl T.z_range (ae (pv 2) af)) (bL (i:=5) mY.nd rfl (Or.inl rfl)) (ao (az 4 mY.nd (au (f_ T) hr T.fL (ae (pv 4) (ae (pv 3) af))))
     (av (az 3 mY.nd (au (f_ T) hr T.fL (ae (au (kj T) hr T.jh (ae (ar (pv 0)) (ae (pv 3) af))) (ae (bW (v:=.ref a.dG) rfl T.eF rfl) af)))))))
     (av (aE (au (RH T) hr T.Aw (ae (pv 0) (ae (pv 1) (ae (pv 3) (ae (pv 4) af)))))))))),?_⟩
 wtm_at "cl";rw[show start MD [x0,x1,x2]=[some x0,some x1,some x2,none,none,none]from rfl];obtain⟨ra,rb,ns,n,xs,rfl,h0,h1,n0,ok,hl,bx,q⟩:=h;have h8:=ok.sz.bX;have h60:=ok.bX;have bF:ag 49 (ra^ns.sum.toNat):=(jb ok.ok _).mono (by have:=ok.sz.sum;omega);generalize hF:ra^ns.sum.toNat=F at *;o_head kT (n:=n) (by omega) (by omega) (λi σ H'=>∃(f g:V)(o:Option V),σ = [some x0,some x1,some (.int n),some f,some g,o]/\ah H H'/\Is K H' f (N (aB F 1 i))/\Is K H' g (N (GM.sumTo (aB F 1) i))) ⟨_,_,_,rfl,ah.refl H,dM 0 (T.d9 _) rfl rfl,dM 0 (T.d9 _) rfl rfl⟩ ?_ ?_
 . rintro i σ H' hi ⟨f,g,o,rfl,S1,hf,hg⟩
   have h01:=h0.by S1;have bf:ag 1601 (aB F 1 i):=by rw[<- hF];exact ok.aB (by omega)
   have bg:ag 1662 (GM.sumTo (aB F 1) i):=by rw[<- hF];exact ok.sums (by omega)
   have bm:ag 1700 (F*aB F 1 i):=(bF.mul bf).mono (by decide);k_few;rename_i v2 H2 S2 i2;refine aD (j:=0) (h01.by S2) rfl (λv3 i3=>?_);have hf2:=hf.by S2;k_few;rename_i v4 H4 S4 i4 v5 H5 S5 i5;exact⟨_,_,_,rfl,S1.trans (S2.trans (S4.trans S5)),i5,i2.by (S4.trans S5)⟩
 . rintro σ H' ⟨f,g,o,rfl,S1,hf,hg⟩
   have bf:ag 2000 (aB F 1 n.toNat):=by rw[<- hF];exact(ok.aB (wo _)).mono (by decide)
   have bg:ag 2000 (GM.sumTo (aB F 1) n.toNat):=by rw[<- hF];exact(ok.sums (wo _)).mono (by decide)
   o_head IE (h0.by S1) (h1.by S1) hf hg (by rw[mf (by omega)];omega) (by omega) bf bg bx (λi=>(Ae ok.ok ok.sz i).mono (by decide)) (λv2 H2 S2 i2=>?_);exact q v2 H2 (S1.trans S2) i2
theorem L3{m j c d:Nat}{p q:Rat}{xs ss:List Rat}(hx:Cm m xs)(hs:Cm j ss)(bp:ag c p)(bq:ag d q):Cm (m+j+c+d+1) (fC p q xs ss):=by
 obtain⟨B,h0,h1,h2⟩:=hx;obtain⟨D,g0,g1,g2⟩:=hs;have hb:0<B*(p.den:Int)*(D*(q.den:Int)):=vN (vN h0 (den_pos p)) (vN g0 (den_pos q));refine⟨_,hb,((h1.mul bp.b).mul (g1.mul bq.b)).mono (by omega),λx hx=>?_⟩;obtain⟨i,hi,rfl⟩:=wW.mp hx;have hi:=wG.mp hi;obtain⟨u,eu,bu⟩:=h2 _ (getD_mem (d:=0) hi)
 have hv:∃v:Int,ss.getD i 0=wz v D/\Bd j v:=by
  rcases wB i ss.length with z | z
  ·exact g2 _ (getD_mem z)
  ·rw[wa,wL z]
   exact⟨0,by simp,⟨by simp;exact Wf j⟩⟩
 obtain⟨v,ev,bv⟩:=hv;refine⟨p.num*u*(D*(q.den:Int))+q.num*v*(B*(p.den:Int)),?_,(((bp.t.mul bu).mul (g1.mul bq.b)).add ((bq.t.mul bv).mul (h1.mul bp.b))).mono (by omega)⟩
 symm
 show wz _ _=p*xs.getD i 0+q*ss.getD i 0
 refine fJ (by omega) ?_;have k1:=cD u (show B≠0 by omega);have k2:=cD v (show D≠0 by omega);have k3:=jK p;have k4:=jK q;rw[eu,ev];simp only[qK,vO];rw[<- k1,<- k2,<- k3,<- k4];generalize wz u B=y;generalize wz v D=z;generalize (B:Rat)=B';generalize (D:Rat)=D';generalize ((p.den:Int):Rat)=P';generalize ((q.den:Int):Rat)=Q'
 grind
theorem zBc{a b:Rat}{ns:List Int}{xs:List Rat}{n m:Nat}(ok:dR a b ns n)(c:Cm m xs):Cm (m+188+2*((6*ns.sum.toNat+3)*n)) (cA a b ns n xs):=(L3 c (Ej ok.ok ok.sz) (Ys ok.ok _ n) (I0 ok.ok _ n)).mono (by omega)
def pQ(a b:Rat)(ns:List Int)(xs:List Rat)(n:Nat):Rat:=GM.sumTo (λk=>eQ a b ns (cA a b ns k xs)) n
def ik(a b:Rat)(ns:List Int)(xs:List Rat)(n:Nat):List Rat:=(fC (aB (a^ns.sum.toNat) 1 n) (GM.sumTo (aB (a^ns.sum.toNat) 1) n) xs (cR a b ns)).map λt=>t / ((n:Int):Rat)
theorem Jm(a b:Rat)(ns:List Int)(xs:List Rat)(n:Nat):(ik a b ns xs n).length=xs.length:=by unfold ik;rw[wm,mm]
theorem Ec{n:Nat}(h:1<=n):((n:Int):Rat)≠0:=λe=>by
 have:=Vf.mp e;omega
theorem LG{a b:Rat}{ns:List Int}{xs:List Rat}{n i:Nat}(hi:i<xs.length):(ik a b ns xs n).getD i 0=(fC (aB (a^ns.sum.toNat) 1 n) (GM.sumTo (aB (a^ns.sum.toNat) 1) n) xs (cR a b ns)).getD i 0 / ((n:Int):Rat):=by
 unfold ik;rw[wa,wx,wc (by rw[mm];exact hi),wa,wc (by rw[mm];exact hi)]
 rfl
theorem YR{a b:Rat}{ns:List Int}{xs:List Rat}(hl:ns.length=xs.length+1){n:Nat}(h1:1<=n):((n:Int):Rat)*eQ a b ns (ik a b ns xs n)=pQ a b ns xs n:=by
 unfold pQ;refine OB hl (λk=>cA a b ns k xs) (λk=>dq ..) n _ h1 (Jm ..) λi hi=>?_
 rw[LG hi,W3 (Ec h1),PL hi,<- zyh];exact tG n λk _=>(j3 hi).symm
theorem Oy{n:Nat}(h:n<=60):ag 6 ((n:Int):Rat):=by
 have e:(2:Nat)^6=64:=by decide
 exact⟨⟨by rw[uS,e];omega⟩,⟨by rw[uT];decide⟩⟩
theorem YM{a b:Rat}(h:aV a b)(S n:Nat):ag ((6*S+3)*n+2) (GM.sumTo (aB (a^S) 1) n):=L8 (jb h S) n
theorem Nh{a b:Rat}{ns:List Int}{xs:List Rat}{n m:Nat}(ok:dR a b ns n)(c:Cm m xs):Cm (m+189+2*((6*ns.sum.toNat+3)*n)) (fC (aB (a^ns.sum.toNat) 1 n) (GM.sumTo (aB (a^ns.sum.toNat) 1) n) xs (cR a b ns)):=(L3 c (Ej ok.ok ok.sz) (I0 ok.ok _ n) (YM ok.ok _ n)).mono (by omega)
theorem zxk{a b:Rat}{ns:List Int}{xs:List Rat}{n m:Nat}(ok:dR a b ns n)(h1:1<=n)(c:Cm m xs):Cm (m+195+2*((6*ns.sum.toNat+3)*n)) (ik a b ns xs n):=by
 unfold ik;exact(Jj (Nh ok c) (Oy ok.bX) (Ec h1)).mono (by omega)
def RC(K:wb):Sp:=λvs H Q _=>∃x0 x1 x2 x3,vs=[x0,x1,x2,x3] /\ ∃(ra rb:Rat)(ns:List Int)(xs:List Rat)(n:Int)(m:Nat),x3=.int n/\Is K H x0 (R ra rb)/\Is K H x1 (TZ ns)/\Is K H x2 (TN xs)/\ns.length=xs.length+1/\0<=n/\dR ra rb ns n.toNat/\Cm m xs/\m+2*((6*ns.sum.toNat+3)*n.toNat)<=6700 /\ ∀v H',ah H H'->Is K H' v (N (pQ ra rb ns xs n.toNat))->Q v H'
theorem zlT{K:wb}{H:Hp}{Q:VK}{E:XK}{ra rb:Rat}{ns:List Int}{xs:List Rat}{n:Int}{m:Nat}{v w u:V}(h0:Is K H v (R ra rb))(h1:Is K H w (TZ ns))(h2:Is K H u (TN xs))(hl:ns.length=xs.length+1)(n0:0<=n)(ok:dR ra rb ns n.toNat)(c:Cm m xs)(hm:m+2*((6*ns.sum.toNat+3)*n.toNat)<=6700)(q:∀v H',ah H H'->Is K H' v (N (pQ ra rb ns xs n.toNat))->Q v H'):RC K [v,w,u,.int n] H Q E:=⟨_,_,_,_,rfl,ra,rb,ns,xs,n,m,rfl,h0,h1,h2,hl,n0,ok,c,hm,q⟩
theorem zzm{K:wb}{H:Hp}{Q:VK}{n:Int}(q:∀v H',ah H H'->Is K H' v (N (n:Rat))->Q v H'):kJ K [.int n,.int 1] H Q:=d_ (r:=(n:Rat)) (uS n).symm (by rw[uT];rfl) q
theorem zmf(T:Txt K mg a):aJ P w K mg base aS 8 a.Gi a.Fu sO (RC K):=by
 refine T.Fy.F.ok Eg ?_ ?_;wtm_at "b4"
 refine⟨_,(ao (bP (bS lY (pv 3) ay (a_ _)) (av (aE (bW (v:=.ref a.cW) rfl T.dF rfl))) bQ)
     (ao (az 4 Eg.nd (br (ae (pv 3) (ae ay af))))
     (ao (az 5 Eg.nd (dQ (show aO _ (.type "tuple") (d5 K)from fI) rfl T.z_tuple eA (ae (d4 rfl (cF.by (N':=["total","count"]) (src:=[none,some 4]) rfl (show cV _ (aC sh).names DG ["total","count"] [none,some 4]=true from by decide +kernel)) (jT (au (ZO T) hr T.Fc (ae (au (og T) hr T.lD (ae (pv 0) (ae (pv 1) af))) (ae (pv 2) (ae (pv 3) af))))) (λ_ _ _ _ _=>(bL (i:=0) (show(["total","count"]:List Str).Nodup from by decide) rfl (Or.inl rfl))) (λ_ _ _ _ _=>dY) (λ_ _ _ _ _=>(au (MR (K:=K) (mg:=mg) (a:=a) T) hr T.AH (ae (pv 0) (ae (pv 1) af))))) af)))
     (av (aE (au (kj T) hr T.jh (ae (pv 4) (ae (au (YZ T) hr T.FU (ae (pv 0) (ae (pv 1) (ae (pv 5) af)))) af)))))))),?_⟩
 wtm_at "cl";rw[show start DG [x0,x1,x2,x3]=[some x0,some x1,some x2,some x3,none,none]from rfl];obtain⟨ra,rb,ns,xs,n,m,rfl,hr',hn',hx',hl,n0,ok,c,hm,q⟩:=h;have h8:=ok.sz.bX;have hp:=ok.sz.pos;have h60:=ok.bX;have hu:=ok.sz.upTo;obtain⟨n,rfl⟩:∃j:Nat,n=(j:Int):=⟨n.toNat,by omega⟩;rw[wP]at q ok h60 hm;k_few
 . rename_i z
   have hz:n=0:=by omega
   subst hz;exact q _ H (ah.refl _) (dM 0 (T.d9 _) rfl rfl)
 . rename_i z
   have h1n:1<=n:=by omega
   have cM:=zxk ok h1n c;have hml:=Jm ra rb ns xs n;have hne:=Ec h1n;have bn:ag 6 ((n:Int):Rat):=Oy h60;refine zzm (λv1 H1 S1 i1=>?_);o_head nN (hr'.by S1) (hn'.by S1) (lX ok.ok ok.sz) (by omega) (by omega) (λv2 H2 S2 i2=>?_);have T2:=S1.trans S2;o_head zjs (a:=ra) (b:=rb) (ns:=ns) i2 (hx'.by T2) (by omega) (by rw[wP];exact ok) hl (λi=>(c.get i).mono (by omega)) (λv3 H3 S3 i3=>?_);rw[wP]at i3;have i13:=i1.by (S2.trans S3);obtain⟨a3,us,rfl,hs3,t3⟩:=bM.mp i3;have hul:=t3.length;rw[wm,mm]at hul;have bw:∀i,ag 8100 ((fC (aB (ra^ns.sum.toNat) 1 n) (GM.sumTo (aB (ra^ns.sum.toNat) 1) n) xs (cR ra rb ns)).getD i 0):=λi=>((Nh ok c).get i).mono (by omega)
   o_head jF hs3 (o0:=none) (tl:=[some v1]) rfl (λj y H'=>Is K H' y (N ((ik ra rb ns xs n).getD j 0))) ?_ ?_
   . intro D j x ys o H4 hx inv
     obtain⟨hj,ix⟩:=df t3 hx;rw[mm]at hj;o_head J7 (ix.by inv.same) (i13.by inv.same) ((bw j).mono (by decide)) (bn.mono (by decide)) hne (λv5 H5 S5 i5=>?_);rw[<- LG hj]at i5;exact eU inv (by omega) eZ ⟨_,rfl⟩ S5 i5
   . intro D ys H4 hn4 S4 e4 hl4 hr4
     have tz:ak K H4 ys ((ik ra rb ns xs n).map N):=fE (by rw[hl4,hul,hml]) hr4;o_head gX (c_ e4 tz) (λv5 H5 S5 i5=>?_);have T5:=T2.trans (S3.trans (S4.trans S5));have rok:cz ra rb ns (ik ra rb ns xs n):=⟨ok.ok.ba,ok.ok.bb,λk hk=>by have:=ok.sz.each k hk;omega,by rw[hml];exact hl,by omega,⟨_,cM,by omega⟩⟩;o_head zm8 (hr'.by T5) (hn'.by T5) i5 rok cM (by omega) (λv6 H6 S6 i6=>?_);have bt:ag 8000 (eQ ra rb ns (ik ra rb ns xs n)):=(J4 rok cM (by omega) (wo _)).eW (wC ..);have i16:=i13.by (S4.trans (S5.trans S6));k_few;rename_i v7 H7 S7 i7;rw[YR hl h1n]at i7;exact q v7 H7 (T5.trans (S6.trans S7)) i7
def lT(ts:List Rat):List Bool:=ts.map λx=>decide (1<x)
theorem U1{ts:List Rat}{i:Nat}(h:i<ts.length):(lT ts).getD i true=decide (1<ts.getD i 0):=by
 unfold lT;rw[wa,wx,wa,wc h]
 rfl
def pR(a b:Rat)(ns:List Int):Bool:=!((lT (eC a b ns (cO a b ns))).any id)
theorem Z2{a b:Rat}{ns:List Int}(h:aV a b)(k:cP ns)(hF:a^ns.sum.toNat≠1):cz a b ns (cO a b ns):=⟨h.ba,h.bb,λn hn=>by have:=k.each n hn;omega,by rw[sM k.some];have:=k.some;omega,by have:=k.bX;omega,⟨268,Y2 h.ba h.bb k.bX k.upTo (by have:=k.sum;omega) hF,by have:=k.bX;have:=k.upTo;omega⟩⟩
def Rl(K:wb):Sp:=λvs H Q _=>∃x0 x1,vs=[x0,x1] /\ ∃(a b:Rat)(ns:List Int),Is K H x0 (R a b)/\Is K H x1 (TZ ns)/\aV a b/\cP ns/\a≠1 /\ ∀H',ah H H'->Q (.bl (pR a b ns)) H'
theorem NV{K:wb}{H:Hp}{Q:VK}{E:XK}{a b:Rat}{ns:List Int}{v w:V}(h1:Is K H v (R a b))(h2:Is K H w (TZ ns))(ok:aV a b)(sz:cP ns)(ha:a≠1)(q:∀H',ah H H'->Q (.bl (pR a b ns)) H'):Rl K [v,w] H Q E:=⟨_,_,rfl,a,b,ns,h1,h2,ok,sz,ha,q⟩
theorem LB(T:Txt K mg a):aJ P w K mg base aS 9 a.FQ a.Fn y_ (Rl K):=by
 refine T.Am.F.ok TM ?_ ?_;wtm_at "b2";refine⟨_,(av (aE (my (bR (show aO _ (.builtin "any") (Br K)from Tg rfl) rfl T.z_any To (ae (d4 rfl (cF.by (N':=["top"]) (src:=[none]) rfl (show cV _ (aC y8).names zu ["top"] [none]=true from by decide +kernel)) (jT (au (Kj T) hr T.AF (ae (pv 0) (ae (pv 1) (ae (au (Ko T) hr T.AE (ae (pv 0) (ae (pv 1) af))) af))))) (λ_ _ _ _ _=>(bL (i:=0) (show(["top"]:List Str).Nodup from by decide) rfl (Or.inl rfl))) (λ_ _ _ _ _=>dY) (λ_ _ _ _ _=>(au (gz (K:=K) (mg:=mg) (a:=a) T) hr T.fM (ae (bW (v:=.ref a.dG) rfl T.eF rfl) (ae (pv 0) af))))) af))))),?_⟩;wtm_at "cl";rw[show start zu [x0,x1]=[some x0,some x1]from rfl];obtain⟨ra,rb,ns,hr',hn',ok,sz,ha,q⟩:=h;have h8:=sz.bX;have hps:=sz.pos;have hF:ra^ns.sum.toNat≠1:=λe=>ha ((zo ok (by omega)).mp e)
 have rok:=Z2 ok sz hF;o_head Mm hr' hn' (lX ok sz) (by omega) (by omega) (λe=>absurd e hF) (λ_ v1 H1 S1 i1=>?_);o_head Mp (hr'.by S1) (hn'.by S1) i1 rok (λv2 H2 S2 i2=>?_);obtain⟨a2,us,rfl,hs2,t2⟩:=bM.mp i2;have hl2:=t2.length;rw[wm,iT]at hl2;refine jF hs2 (o0:=none) (tl:=[]) rfl (λi v H=>v=V.bl ((lT (eC ra rb ns (cO ra rb ns))).getD i true)) ?_ ?_
 ·rintro D i x ys o H3 hx inv
  obtain⟨hi,ix⟩:=df t2 hx;rw[iT]at hi;have ix3:=ix.by inv.same;have b1:=N_ rok hi;have b2:ag 1 1:=ag.one;k_few;exact eU inv (by omega) (λ_ _ _ _ _ h=>h) ⟨_,rfl⟩ (ah.refl _) (by rw[U1 (by rw[iT];exact hi)])
 ·rintro D ys H3 hn3 S3 e3 hl3 hr3
  have hz:=r_ (bs:=lT (eC ra rb ns (cO ra rb ns))) (by unfold lT;rw[wm,iT];omega) hr3;rw[hz]at e3;o_head Y4 (.of e3) ?_;k_few;exact q _ (S1.trans (S2.trans S3))
def ma(ss:List Rat):List Bool:=ss.map λs=>decide (s=0)
theorem ZI{ts:List Rat}{i:Nat}(h:i<ts.length):(ma ts).getD i true=decide (ts.getD i 0=0):=by
 unfold ma;rw[wa,wx,wa,wc h]
 rfl
def d6(a b:Rat)(ns:List Int)(xs:List Rat):Bool:=if 1<a then decide (xs=cO a b ns)else if a=1 then(ma (cR a b ns)).all id else pR a b ns
def Pm(K:wb):Sp:=λvs H Q _=>∃x0 x1 x2,vs=[x0,x1,x2] /\ ∃(a b:Rat)(ns:List Int)(xs:List Rat),Is K H x0 (R a b)/\Is K H x1 (TZ ns)/\Is K H x2 (TN xs)/\aV a b/\cP ns /\ ∀H',ah H H'->Q (.bl (d6 a b ns xs)) H'
theorem znu{K:wb}{H:Hp}{Q:VK}{E:XK}{a b:Rat}{ns:List Int}{xs:List Rat}{v w u:V}(h1:Is K H v (R a b))(h2:Is K H w (TZ ns))(h3:Is K H u (TN xs))(ok:aV a b)(sz:cP ns)(q:∀H',ah H H'->Q (.bl (d6 a b ns xs)) H'):Pm K [v,w,u] H Q E:=⟨_,_,_,rfl,a,b,ns,xs,h1,h2,h3,ok,sz,q⟩
theorem znb(T:Txt K mg a):aJ P w K mg base aS 10 a.GV a.FH zI (Pm K):=by
 refine T.FR.F.ok O3 ?_ ?_;wtm_at "b3"
 refine⟨_,(ao (az 3 O3.nd (au (Lc T) hr T.AG (ae (pv 0) af)))
     (ao (bP (bS (show aN _ (wU .Eq) (cv K)from de hu) (pv 3) gm (a_ _)) (av (aE (fq (show aN _ (wU .Eq) (cv K)from de hu) (dQ (show aO _ (.type "tuple") (d5 K)from fI) rfl T.z_tuple eA (ae (pv 2) af)) (au (Ko T) hr T.AE (ae (pv 0) (ae (pv 1) af))) (a_ _)))) bQ)
     (ao (bP (bS (show aN _ (wU .Eq) (cv K)from de hu) (pv 3) gm (a_ _)) (av (aE (bR (show aO _ (.builtin "all") (mJ K)from tP rfl) rfl T.z_all sN (ae (d4 rfl (cF.by (N':=["shift"]) (src:=[none]) rfl (show cV _ (aC Ac).names A6 ["shift"] [none]=true from by decide +kernel)) (jT (ar (au (og T) hr T.lD (ae (pv 0) (ae (pv 1) af))))) (λ_ _ _ _ _=>(bL (i:=0) (show(["shift"]:List Str).Nodup from by decide) rfl (Or.inl rfl))) (λ_ _ _ _ _=>dY) (λ_ _ _ _ _=>(fq (show aN _ (wU .Eq) (cv K)from de hu) (pv 0) (bW (v:=.ref a.cW) rfl T.dF rfl) (a_ _)))) af)))) bQ)
     (av (aE (au (LB T) hr T.Am (ae (pv 0) (ae (pv 1) af)))))))),?_⟩
 wtm_at "cl";rw[show start A6 [x0,x1,x2]=[some x0,some x1,some x2,none]from rfl];obtain⟨ra,rb,ns,xs,hr',hn',hx',ok,sz,q⟩:=h;have h8:=sz.bX;have h1:=sz.some;have hps:=sz.pos;o_head Lx hr' (ok.ba.mono (by decide)) ?_;unfold oU;unfold d6 at q
 by_cases z1:1<ra
 . rw[if_pos z1]at q ⊢
   have hF:ra^ns.sum.toNat≠1:=λe=>absurd ((zo ok (by omega)).mp e) (by grind)
   o_head gp _ _ true (by rw[vb];decide) ?_;o_head JU hx' ?_;o_head Mm hr' hn' (lX ok sz) (by omega) (by omega) (λe=>absurd e hF) (λ_ v1 H1 S1 i1=>?_);o_head rP (hx'.by S1) i1 ?_;exact q _ S1
 . rw[if_neg z1]at q ⊢
   by_cases z2:ra=1
   . rw[if_pos z2]at q ⊢
     o_head gp _ _ false (by rw[vb];decide) ?_;o_head gp _ _ true (by rw[vb];decide) ?_;o_head nN hr' hn' (lX ok sz) (by omega) (by omega) (λv1 H1 S1 i1=>?_);o_head aD (j:=1) i1 rfl (λv2 i2=>?_);obtain⟨a2,us,rfl,hs2,t2⟩:=bM.mp i2;have hl2:=t2.length;rw[wm]at hl2;have hsl:(cR ra rb ns).length=ns.length-1:=mf h1;have t2:ak K H1 us ((cR ra rb ns).map N):=t2;have hl2:us.length=(cR ra rb ns).length:=hl2;refine jF hs2 (o0:=none) (tl:=[]) rfl (λi v H=>v=V.bl ((ma (cR ra rb ns)).getD i true)) ?_ ?_
     . rintro D i x ys o H3 hx inv
       obtain⟨hi,ix⟩:=df t2 hx;have ix3:=ix.by inv.same;k_few;exact eU inv (by omega) (λ_ _ _ _ _ h=>h) ⟨_,rfl⟩ (ah.refl _) (by rw[ZI hi])
     . rintro D ys H3 hn3 S3 e3 hl3 hr3
       have hz:=r_ (bs:=ma (cR ra rb ns)) (by unfold ma;rw[wm];omega) hr3;rw[hz]at e3;o_head oY (.of e3) ?_;exact q _ (S1.trans S3)
   . rw[if_neg z2]at q ⊢
     o_head gp _ _ false (by rw[vb];decide) ?_;o_head gp _ _ false (by rw[vb];decide) ?_;k_few;exact NV hr' hn' ok sz z2 q
theorem Ye{a b:Rat}{ns:List Int}{xs:List Rat}(hF:a^ns.sum.toNat≠1)(hl:ns.length=xs.length+1)(k:Nat):cA a b ns k xs=fc ((a^ns.sum.toNat)^k) (cO a b ns) xs:=by
 have hs:(cO a b ns).length=xs.length:=by rw[sM (by omega)];omega
 refine kh (by rw[dq,m8 hs,hs]) λi hi=>?_
 rw[dq]at hi;rw[lu hs (by omega),j3 hi,Zd (zu8 hF (by omega))]
theorem yj{a b:Rat}{ns:List Int}{xs:List Rat} : d7 a b ns xs=true ↔ (∀i,i<xs.length+1->(dh xs).getD (i+1) 0<(dh xs).getD i 0) /\ ∀i,i<ns.length->(eC a b ns xs).getD i 0<1:=by
 unfold d7;rw[wV,WI,WI]
 constructor
 ·rintro ⟨h1,h2⟩
  refine⟨λi hi=>?_,λi hi=>?_⟩
  ·have:=h1 _ (wW.mpr ⟨i,wG.mpr hi,rfl⟩)
   exact of_decide_eq_true this
  ·have:=h2 _ (wW.mpr ⟨_,getD_mem (d:=0) (show i<(eC a b ns xs).length by rw[iT];exact hi),rfl⟩)
   exact of_decide_eq_true this
 ·rintro ⟨h1,h2⟩
  refine⟨λx hx=>?_,λx hx=>?_⟩
  ·obtain⟨i,hi,rfl⟩:=wW.mp hx
   exact decide_eq_true (h1 i (wG.mp hi))
  ·obtain⟨t,ht,rfl⟩:=wW.mp hx
   obtain⟨i,hi,rfl⟩:=wW.mp ht;have:=h2 i (wG.mp hi);rw[kG (wG.mp hi)]at this;exact decide_eq_true this
theorem Rf:∀l:List Rat,(∀i,i+1<l.length->l.getD (i+1) 0<l.getD i 0)->l.Pairwise (· > ·)
 | [],_=>.nil
 | x::l,h=>by
  have h':∀i,i+1<l.length->l.getD (i+1) 0<l.getD i 0:=λi hi=>by
   have:=h (i+1) (by simp;omega)
   simpa using this
  have hd:∀j,j<l.length->l.getD j 0<x:=λj=>by
   induction j with
   | zero=>intro hj;have:=h 0 (by simp;omega);simpa using this
   | succ j ih=>intro hj;have h3:=h' j hj;have h4:=ih (by omega);grind
  refine W4.mpr ⟨λy hy=>?_,Rf l h'⟩;obtain⟨j,hj,e⟩:=wX hy;have:=hd j hj;rw[wa,wc hj]at this
  show y<x
  rw[<- e];exact this
theorem Zb{l:List Rat}(h:l.Pairwise (· > ·)){i:Nat}(hi:i+1<l.length):l.getD (i+1) 0<l.getD i 0:=by
 rw[wa,wa,wc hi,wc (show i<l.length by omega)];exact(Wa.mp h) i (i+1) (by omega) hi (by omega)
theorem me(xs:List Rat)(i:Nat):(dh xs).getD (i+1) 0=(xs++[0]).getD i 0:=by
 unfold dh;rw[VG]
 rfl
theorem MT{xs:List Rat}(h:∀i,i<xs.length+1->(dh xs).getD (i+1) 0<(dh xs).getD i 0):gK (xs++[0])/\(xs++[0]).getD 0 0<1:=by
 have pw:(xs++[0]).Pairwise (· > ·):=Rf _ λi hi=>by
  have:=h (i+1) (by simp at hi;omega);rw[me,me]at this;exact this
 refine⟨⟨pw,λy hy=>?_⟩,?_⟩
 ·rcases Wk.mp hy with z | z
  ·exact vW ((qB.mp pw).2.2 y z 0 (vc.mpr rfl))
  ·rw[vc.mp z];exact WS
 ·have:=h 0 (by omega)
  rw[me]at this;exact this
theorem DD{xs:List Rat}(pw:(xs++[0]).Pairwise (· > ·))(one:(xs++[0]).getD 0 0<1):∀i,i<xs.length+1->(dh xs).getD (i+1) 0<(dh xs).getD i 0
 | 0,_=>by rw[me];exact one
 | i+1,hi=>by rw[me,me];exact Zb pw (by simp;omega)
theorem Dq{a b:Rat}{ns:List Int}{xs:List Rat}(h:ns.length=xs.length+1):cu a b ns xs++[0]=aH a b ns (xs++[0]) ns.length:=by
 have hl:=kK (a:=a) (b:=b) h;have hr:(aH a b ns (xs++[0]) ns.length).length=xs.length+1:=by rw[cJ];simp
 refine kh (by rw[hr,wT,hl];rfl) λi hi=>?_
 rw[wT,hl]at hi;have hi:i<xs.length+1:=hi;rcases wB i xs.length with z | z
 ·rw[Bb (by omega),BC h z]
 ·have e:i=xs.length:=by omega
  have e2:(cu a b ns xs++[0]).getD i 0=0:=by rw[e,<- hl];exact n_
  rw[e2,e,h,aH,fF _ _ _ _ _ _ (by rw[cJ];simp),if_pos rfl]
theorem K_{a b:Rat}(a0:0<a)(b0:0<=b){ns:List Int}{row:List Rat}(F:gK row)(one:row.getD 0 0<1)(gQ:∀t,t<row.length->dA a b ns row t<1):∀i,i<=row.length->gK (turned a b ns row i)
 | 0,_=>F
 | i+1,hi=>by
  have ih:=K_ a0 b0 F one gQ i (by omega)
  have oi:(aH a b ns row i).getD i 0<1:=by
   cases i with
   | zero=>exact one
   | succ j =>
    have:=gQ j (by omega);unfold dA at this;rw[xk (by omega)]at this;exact this
  obtain⟨x,l,ex⟩:∃x l,turned a b ns row i=x::l:=by
   cases e:turned a b ns row i with
   | nil =>
    have:=El a b ns row (by omega) i;rw[e]at this;simp at this;omega
   | cons x l=>exact⟨x,l,rfl⟩
  have hx:x=(aH a b ns row i).getD i 0:=by
   have:=BM a b ns row (show i<row.length by omega);rw[ex]at this;exact this
  show gK (kF a b (ns.getD i 0).toNat (turned a b ns row i))
  rw[ex]at ih ⊢;exact ih.step a0 b0 (by rw[hx];exact oi)
theorem zr2{a b:Rat}{ns:List Int}{xs:List Rat}(ok:aV a b)(hn:ns.length=xs.length+1)(f:d7 a b ns xs=true):∀i,i<(cu a b ns xs).length+1->(dh (cu a b ns xs)).getD (i+1) 0<(dh (cu a b ns xs)).getD i 0:=by
 obtain⟨h1,h2⟩:=yj.mp f;obtain⟨F,one⟩:=MT h1;have hl:(xs++[0]).length=ns.length:=by simp[hn]
 have gQ:∀t,t<(xs++[0]).length->dA a b ns (xs++[0]) t<1:=λt ht=>by
  have:=h2 t (by omega);rw[kG (by omega)]at this;unfold dA;rw[hl];exact this
 have Fl:=K_ ok.a0 ok.b0 F one gQ (xs++[0]).length (wo _);rw[hl,zsj a b ns _ hl.symm,<- Dq hn]at Fl;have t:=gQ (ns.length-1) (by omega);unfold dA at t;rw[hl,show ns.length-1+1=ns.length by omega,XA,<- Dq hn]at t;exact DD Fl.pw t
theorem zwQ(c:Rat)(xs:List Rat):fc c xs xs=xs:=kh (m8 rfl) λi hi=>by
 rw[m8 rfl]at hi;rw[lu rfl hi]
 grind
def cw(a b:Rat)(ns:List Int)(xs:List Rat)(k:Nat):Bool:=d7 a b ns (cA a b ns k xs)
theorem ym{a b:Rat}{ns:List Int}(ok:aV a b)(sz:cP ns){k:Nat}(hk:k<=31):dR a b ns k:=⟨ok,sz,by omega,by
 have h1:=sz.sum;have h2:(6*ns.sum.toNat+1+1)*k<=50*k:=Wb k (by omega);omega⟩
theorem KN{a b:Rat}{ns:List Int}{xs:List Rat}{m:Nat}(ok:aV a b)(sz:cP ns)(c:Cm m xs){k:Nat}(hk:k<=31):Cm (m+188+102*k) (cA a b ns k xs):=(zBc (ym ok sz hk) c).mono (by
 have h1:=sz.sum;have h2:(6*ns.sum.toNat+3)*k<=51*k:=Wb k (by omega);omega)
theorem Kx{a b:Rat}{ns:List Int}{xs:List Rat}{m:Nat}(ok:aV a b)(sz:cP ns)(hn:ns.length=xs.length+1)(c:Cm m xs)(hm:m<=3700){k:Nat}(hk:k<=30):cz a b ns (cA a b ns k xs):=⟨ok.ba,ok.bb,λn hn=>by have:=sz.each n hn;omega,by rw[dq];exact hn,by have:=sz.bX;omega,⟨_,KN ok sz c (by omega),by have:=sz.bX;have:=sz.upTo;omega⟩⟩
def AL(K:wb)(a:Ad):Sp:=λvs H Q E=>∃x0 x1 x2,vs=[x0,x1,x2] /\ ∃(ra rb:Rat)(ns:List Int)(xs:List Rat),Is K H x0 (R ra rb)/\Is K H x1 (TZ ns)/\Is K H x2 (TN xs)/\aV ra rb/\cP ns/\ns.length=xs.length+1/\cz ra rb ns xs/\(d6 ra rb ns xs=false->∃n:Nat,n<=30/\(n=30\/cw ra rb ns xs n=false)/\(∀k,k<=n->cz ra rb ns (cA ra rb ns k xs))/\(∀k,k<n->∀j,ag 6900 ((cA ra rb ns k xs).getD j 0))) /\
 (cw ra rb ns xs 0=false->∀H',ah H H'->Q (.int 0) H') /\
 (cw ra rb ns xs 0=true->d6 ra rb ns xs=true->∀H',ah H H'->Q .bj H') /\
 (∀c:Nat,1<=c->c<=30->d6 ra rb ns xs=false->(∀k,k<c->cw ra rb ns xs k=true)->cw ra rb ns xs c=false->∀H',ah H H'->Q (.int (c:Int)) H') /\
 (d6 ra rb ns xs=false->(∀k,k<=30->cw ra rb ns xs k=true)->∀H',ah H H'->E (.ref a.fX) none H')
theorem ZT{K:wb}{a:Ad}{H:Hp}{Q:VK}{E:XK}{ra rb:Rat}{ns:List Int}{xs:List Rat}{v w u:V}(h1:Is K H v (R ra rb))(h2:Is K H w (TZ ns))(h3:Is K H u (TN xs))(ok:aV ra rb)(sz:cP ns)(hn:ns.length=xs.length+1)(r0:cz ra rb ns xs)(hb:d6 ra rb ns xs=false->∃n:Nat,n<=30/\(n=30\/cw ra rb ns xs n=false)/\(∀k,k<=n->cz ra rb ns (cA ra rb ns k xs))/\(∀k,k<n->∀j,ag 6900 ((cA ra rb ns k xs).getD j 0)))
  (q0:cw ra rb ns xs 0=false->∀H',ah H H'->Q (.int 0) H')
  (q1:cw ra rb ns xs 0=true->d6 ra rb ns xs=true->∀H',ah H H'->Q .bj H')
  (q2:∀c:Nat,1<=c->c<=30->d6 ra rb ns xs=false->(∀k,k<c->cw ra rb ns xs k=true)->cw ra rb ns xs c=false->∀H',ah H H'->Q (.int (c:Int)) H')
  (q3:d6 ra rb ns xs=false->(∀k,k<=30->cw ra rb ns xs k=true)->∀H',ah H H'->E (.ref a.fX) none H'):AL K a [v,w,u] H Q E:=⟨_,_,_,rfl,ra,rb,ns,xs,h1,h2,h3,ok,sz,hn,r0,hb,q0,q1,q2,q3⟩
theorem zmS{K:wb}{a:Ad}{H:Hp}{Q:VK}{E:XK}{ra rb:Rat}{ns:List Int}{xs:List Rat}{m:Nat}{v w u:V}(h1:Is K H v (R ra rb))(h2:Is K H w (TZ ns))(h3:Is K H u (TN xs))(ok:aV ra rb)(sz:cP ns)(hn:ns.length=xs.length+1)(c:Cm m xs)(hm:m<=3700)
  (q0:cw ra rb ns xs 0=false->∀H',ah H H'->Q (.int 0) H')
  (q1:cw ra rb ns xs 0=true->d6 ra rb ns xs=true->∀H',ah H H'->Q .bj H')
  (q2:∀c:Nat,1<=c->c<=30->d6 ra rb ns xs=false->(∀k,k<c->cw ra rb ns xs k=true)->cw ra rb ns xs c=false->∀H',ah H H'->Q (.int (c:Int)) H')
  (q3:d6 ra rb ns xs=false->(∀k,k<=30->cw ra rb ns xs k=true)->∀H',ah H H'->E (.ref a.fX) none H'):AL K a [v,w,u] H Q E :=
 ZT h1 h2 h3 ok sz hn (by have:=Kx ok sz hn c hm (k:=0) (by decide);rw[oW]at this;exact this) (λ_=>⟨30,wo 30,.inl rfl,λk hk=>Kx ok sz hn c hm hk,λk hk j=>((KN ok sz c (k:=k) (by omega)).get j).mono (by omega)⟩) q0 q1 q2 q3
theorem zl4(T:Txt K mg a):aJ P w K mg base (eJ P w) 11 a.Gm a.Ft sQ (AL K a):=by
 refine T.FC.F.yh pO ?_ ?_;wtm_at "b3"
 refine⟨_,(ao (bP (ee (dD (au (Bx T) hr T.p8 (ae (pv 0) (ae (pv 1) (ae (pv 2) af)))))) (av (aE ay)) bQ)
     (ao (bP (dD (au (znb T) hr T.FR (ae (pv 0) (ae (pv 1) (ae (pv 2) af))))) (av (aE g_)) bQ)
     (ao (az 3 pO.nd (au (og T) hr T.lD (ae (pv 0) (ae (pv 1) af))))
     (ao (az 4 pO.nd (pv 2))
     (ao (gk X2 rfl (zum rfl T.z_range (ae ay (ae (aA cb (oB rfl T.R7) ay) af))) (bL (i:=5) pO.nd rfl (Or.inl rfl)) (ao (az 4 pO.nd (au (Nz T) hr T.AA (ae (pv 3) (ae (pv 4) (ae ay af)))))
     (av (bP (ee (dD (au (Bx T) hr T.p8 (ae (pv 0) (ae (pv 1) (ae (pv 4) af)))))) (av (aE (pv 5))) bQ))))
     (av (JM T.Sf rfl rfl T.Hg Pq (ae gm af)))))))),?_⟩
 wtm_at "cl";rw[show start IP [x0,x1,x2]=[some x0,some x1,some x2,none,none,none]from rfl];obtain⟨ra,rb,ns,xs,hr',hn',hx',ok,sz,hn,r0,hb,q0,q1,q2,q3⟩:=h;have h8:=sz.bX;have h1:=sz.some;have hps:=sz.pos;have e0:cw ra rb ns xs 0=d7 ra rb ns xs:=by unfold cw;rw[oW]
 o_head DS hr' hn' hx' r0 (λH1 S1=>?_);k_few
 . rename_i z
   exact q0 (by rw[e0];exact z) H1 S1
 . rename_i z
   have hr1:=hr'.by S1;have hn1:=hn'.by S1;have hx1:=hx'.by S1;refine znu hr1 hn1 hx1 ok sz (λH2 S2=>?_);k_few
   . rename_i y
     exact q1 (by rw[e0];exact z) y H2 (S1.trans S2)
   . rename_i y
     have y:d6 ra rb ns xs=false:=by first | exact y | exact um _ ▸ y
     obtain⟨n,n30,stop,rd,bd⟩:=hb y;refine nN (hr1.by S2) (hn1.by S2) (lX ok sz) (by omega) (by omega) (λv3 H3 S3 i3=>?_);have T3:ah H H3:=S1.trans (S2.trans S3);have hr3:=hr'.by T3;have hn3:=hn'.by T3;have hx3:=hx'.by T3;clear hr1 hn1 hx1 S1 S2 S3;o_head zwG ?_;o_head Y7 (lo:=1) (hi:=31) (by decide) (by decide) (by decide) (by decide) (λi σ H'=>∃(v:V)(o:Option V),σ = [some x0,some x1,some x2,some v3,some v,o]/\ah H3 H'/\Is K H' v (TN (cA ra rb ns i xs)) /\ ∀k,k<=i->cw ra rb ns xs k=true) ⟨_,_,rfl,ah.refl _,by rw[oW];exact hx3,λk hk=>by rw[show k=0 by omega,e0];exact z⟩ ?_ ?_
     . rintro i σ H4 hi ⟨v,o,rfl,S4,iv,fr⟩
       have hi:i<30:=hi;have i34:=i3.by S4
       have hin:i<n:=by
         rcases stop with e | e
         . omega
         . rcases wB i n with u | u
           . exact u
           . rw[fr n u]at e;cases e
       o_head Nf (ss:=cR ra rb ns) i34 iv (by decide) (by decide) (by rw[mf h1,dq];omega) (by rw[dq];omega) ((jb ok _).mono (by have:=sz.sum;omega)) (λj hj=>((ym ok sz (k:=1) (by decide)).pow hj).mono (by decide)) (λj hj=>((ym ok sz (k:=1) (by decide)).aB hj).mono (by decide)) (λj=>bd i hin j) (λj=>(Ae ok sz j).mono (by decide)) (λv5 H5 S5 i5=>?_);have i5:Is K H5 v5 (TN (cA ra rb ns 1 (cA ra rb ns i xs))):=i5;rw[Rz]at i5;have T5:=S4.trans S5;o_head DS (hr3.by T5) (hn3.by T5) i5 (rd (i+1) (by omega)) (λH6 S6=>?_);have T6:=T5.trans S6;k_few
       . rename_i w
         have q:=q2 (i+1) (by omega) (by omega) y (λk hk=>fr k (by omega)) (by unfold cw;exact w) H6 (T3.trans T6);rw[show((i+1:Nat):Int)=1+(i:Int) by omega]at q;exact q
       . rename_i w
         refine⟨_,_,rfl,T6,i5.by S6,λk hk=>?_⟩;rcases wB k (i+1)with u | u
         . exact fr k (by omega)
         . have:k=i+1:=by omega
           subst this;unfold cw
           first | exact w | exact Bool.not_eq_false _ ▸ w
     . rintro σ H4 ⟨v,o,rfl,S4,iv,fr⟩
       k_few;exact⟨by simp;decide,q3 y (λk hk=>fr k hk) H4 (T3.trans S4)⟩
theorem zV{a b:Rat}(ok:aV a b){xs ps:List Rat}{fl:Nat->Nat}{ns:List Int}(L:fu xs (ps++[0]) fl ns)(hn:ns.length=ps.length+1)(f:d7 a b ns ps=true) :
  fu (aj a b xs ns.length) (cu a b ns ps++[0]) fl ns/\(∀t,t<ns.length->cf a b (aj a b xs t)=[aZ xs.length fl t])/\aP a b xs ns.length=eQ a b ns ps:=by
 have hl:(ps++[0]).length=ns.length:=by simp[hn]
 have gQ:∀t,t<(ps++[0]).length->dA a b ns (ps++[0]) t<1:=λt ht=>by
  have:=(yj.mp f).2 t (by omega);rw[kG (by omega)]at this;unfold dA;rw[hl];exact this
 obtain⟨P,F,_,W⟩:=yA ok.a0 ok.b0 L _ (wo _) gQ;have ht:=RN ok.a0 ok.b0 L _ (wo _) gQ;rw[hl]at P W ht;rw[<- Dq hn]at P;have st:=MT (zr2 ok hn f);have hbl:=kK (a:=a) (b:=b) hn;have hbl2:(cu a b ns ps++[0]).length=(ps++[0]).length:=by simp[hbl]
 have hpl:=bN a b xs ns.length;refine⟨⟨P,st.1,st.2,by rw[hbl2];exact L.len,λc hc=>?_,λc hc=>?_⟩,W,?_⟩
 ·rw[hpl];exact L.some c (by omega)
 ·rw[hpl];exact L.size c (by omega)
 ·rw[ht];rfl
theorem yC{a b:Rat}(ok:aV a b){xs ps:List Rat}{fl:Nat->Nat}{ns:List Int}(L:fu xs (ps++[0]) fl ns)(hn:ns.length=ps.length+1)(n0:∀n∈ns,0<=n):∀k,(∀j,j<k->cw a b ns ps j=true) ->
  fu (aj a b xs (k*ns.length)) (cA a b ns k ps++[0]) fl ns/\aP a b xs (k*ns.length)=pQ a b ns ps k
 | 0,_=>by
  rw[xm,oW];exact⟨L,rfl⟩
 | k+1,h=>by
  obtain⟨Lk,Hk⟩:=yC ok L hn n0 k λj hj=>h j (by omega)
  have hl:ns.length=(cA a b ns k ps).length+1:=by rw[dq];exact hn
  obtain⟨L1,_,H1⟩:=zV ok Lk hl (h k (by omega));rw[eK,<- BN hl n0,Rz]at L1;have e:(k+1)*ns.length=k*ns.length+ns.length:=qT ..;rw[e];refine⟨L1,?_⟩;rw[<- mS,Hk,H1]
  rfl
theorem IM{a b:Rat}(a0:0<a)(b0:0<=b){xs row:List Rat}{fl:Nat->Nat}{ns:List Int}(L:fu xs row fl ns):∀n,n<=row.length->(¬ ∀t,t<n->dA a b ns row t<1)->∃t,t<n/\1<(cf a b (aj a b xs t)).length
 | 0,_,z=>absurd (λt ht=>by omega) z
 | n+1,hn,z=>by
  by_cases y:∀t,t<n->dA a b ns row t<1
  ·refine⟨n,by omega,YY a0 b0 L (by omega) y (λu=>z λt ht=>?_)⟩
   rcases wB t n with k | k
   ·exact y t k
   ·have:t=n:=by omega
    rw[this];exact u
  ·obtain⟨t,h1,h2⟩:=IM a0 b0 L n (by omega) y
   exact⟨t,by omega,h2⟩
theorem zvs{a b:Rat}(ok:aV a b){xs ps:List Rat}{fl:Nat->Nat}{ns:List Int}(L:fu xs (ps++[0]) fl ns)(hn:ns.length=ps.length+1)(f:d7 a b ns ps=false):∃t,t<ns.length/\1<(cf a b (aj a b xs t)).length:=by
 have hl:(ps++[0]).length=ns.length:=by simp[hn]
 refine IM ok.a0 ok.b0 L ns.length (by omega) λz=>?_
 have:d7 a b ns ps=true:=yj.mpr ⟨DD L.lF.pw L.one,λi hi=>by
  have:=z i hi;unfold dA at this;rw[hl]at this;rw[kG hi];exact this⟩
 rw[f]at this;cases this
theorem Bn{xs row:List Rat}{fl:Nat->Nat}{ns:List Int}{n:Nat}(L:fu xs row fl ns)(hn:xs.length=n):((wq n).map λw=>row.getD (fl w) 0)=xs:=by
 refine kh (by simp[hn]) λw hw=>?_
 have hw:w<n:=by simpa using hw
 rw[L.pl.at' w (by omega),wa,wx,vQ hw]
 rfl
theorem OZ{xs:List Rat}(h1:1<=xs.length)(h8:xs.length<=8):cP (aY xs):=by
 have hs:=rX xs;have hv:=jY xs;have hp:=oS h1;refine⟨by omega,by omega,λn hn=>?_,?_⟩
 ·have h2:=zsa xs n hn
  refine⟨?_,by omega⟩;obtain⟨v,hv,rfl⟩:=wW.mp hn;have hm:=jG hv;obtain⟨j,hj,e⟩:=wX hm;have:j∈eY xs v:=ve.mpr ⟨wG.mpr hj,decide_eq_true (by rw[wa,wc hj];exact e)⟩;have:=qk this;omega
 ·have h3:=Pf xs
  have:=rY (yZ xs);omega
def jJ(a b:Rat)(xs:List Rat)(r:Nat):Prop:=∀k,k<r->cw a b (aY xs) (bC xs) k=true
structure ft(a b:Rat)(xs:List Rat):Prop where
 ok:aV a b
 h1:1<=xs.length
 h8:xs.length<=8
 hp:cT xs
 h0:0∈xs
 cm:Cm 3600 xs
def Ru(K:wb):Sp:=λvs H Q _=>∃x0 x1,vs=[x0,x1] /\ ∃(a b:Rat)(xs:List Rat)(r:Nat),x1=.int (r:Int)/\Is K H x0 (bD a b xs)/\ft a b xs/\r<=30/\jJ a b xs r /\ ∀v H',ah H H'->Is K H' v (BD a b xs (r*(ai xs).length))->Q v H'
theorem Be{K:wb}{H:Hp}{Q:VK}{E:XK}{a b:Rat}{xs:List Rat}{r:Nat}{v:V}(h:Is K H v (bD a b xs))(ok:ft a b xs)(h30:r<=30)(f:jJ a b xs r)(q:∀v H',ah H H'->Is K H' v (BD a b xs (r*(ai xs).length))->Q v H'):Ru K [v,.int (r:Int)] H Q E:=⟨_,_,rfl,a,b,xs,r,rfl,h,ok,h30,f,q⟩
theorem BO{K:wb}{H:Hp} : ∀{xs:List Rat}{us:List V},ak K H us (xs.map N)->∃cs:List wf,us=cs.map V.ref
 | [],us,h=>⟨[],fO.mp h⟩
 | x::xs,us,h=>by
  obtain⟨v,r,rfl,iv,t⟩:=dC.mp h;obtain⟨a,_,rfl,_,_⟩:=bM.mp (show Is K H v (.tuple _)from iv);obtain⟨cs,rfl⟩:=BO t;exact⟨a::cs,rfl⟩
def fm(x:Rat):List Int:=[x.num,(x.den:Int)]
theorem zwW{x y:Rat}(h:fm x=fm y):x=y:=by
 unfold fm at h
 injection h with h1 h2
 injection h2 with h2 _
 exact uZ h1 (by omega)
theorem zs2{xs:List Rat}(h:xs.Nodup):(xs.map fm).Nodup:=by
 unfold List.Nodup at *;rw[qm];exact h.imp λ{a b} n e=>n (zwW e)
theorem OA{xs:List Rat}{j:Nat}(h:j<xs.length):(xs.map fm).getD j []=fm (xs.getD j 0):=by
 rw[wa,wx,wa,wc h]
 rfl
theorem SU{ks:List (List Int)}{us ws:List wf}(nd:ks.Nodup)(hl:ks.length=us.length){j:Nat}(hj:j<us.length):kU (fU ks us ws) (ks.getD j [])=some (ws.getD j 0):=by
 unfold kU fU;rw[List.find?_map];have pw:=Wa.mp nd;cases e:(wq us.length).find? ((λx:NE=>decide (x.1=ks.getD j [])) ∘ λj=>(ks.getD j [],us.getD j 0,ws.getD j 0))with
 | none =>
  have:=List.find?_eq_none.mp e j (wG.mpr hj);simp at this
 | some i =>
  have hm:=wG.mp (xf e);have hp:=uR e;have hp:ks.getD i []=ks.getD j []:=of_decide_eq_true hp;have hi:i<ks.length:=by omega
  have hj':j<ks.length:=by omega
  rw[wa,wa,wc hi,wc hj']at hp
  have hij:i=j:=by
   rcases VJ i j with z | z | z
   ·exact absurd hp (pw i j hi hj' z)
   ·exact z
   ·exact absurd hp.symm (pw j i hj' hi z)
  rw[hij];rfl
theorem zuv{K:wb}{H:Hp}{xs:List Rat}{cs ws:List wf}(t:ak K H (cs.map V.ref) (xs.map N)):tT K H (fU (xs.map fm) cs ws):=by
 intro x hx;obtain⟨j,hj,rfl⟩:=wW.mp hx;have hj:=wG.mp hj;have hl:=t.length;simp only[wm]at hl;have:=(df t (i:=j) (x:=.ref (cs.getD j 0)) (by rw[wx,wa,wc hj];rfl)).2
 show Is K H (.ref (cs.getD j 0)) (TZ ((xs.map fm).getD j []))
 rw[OA (by omega)];exact this
theorem IY(T:Txt K mg a):aJ P w K mg base aS 9 a.Fv a.Fb yp (Ru K):=by
 refine T.Ak.F.ok oQ ?_ ?_;wtm_at "b2"
 refine⟨_,(ao (az 2 oQ.nd (pI (A3 T) hr T.rh O4 (ae (pv 0) af)))
     (ao (az 3 oQ.nd (au (zkq T) hr T.Fo (ae (ar (pv 0)) (ae (ar (pv 2)) (ae (ar (pv 2)) (ae (pv 1) af))))))
     (ao (az 4 oQ.nd (zv9 rfl (W2 (Xp (by decide) _) hu) rfl T.z_dict rfl T.z_zip (ae (aA (show aN _ (WD .Add) (yN K)from Nj) (ar (pv 2)) (br (ae (bW (v:=.ref a.cW) rfl T.dF rfl) af))) (ae (aA (show aN _ (WD .Add) (yN K)from Nj) (pv 3) (br (ae (bW (v:=.ref a.cW) rfl T.dF rfl) af))) af))))
     (ao (az 5 oQ.nd (dQ (show aO _ (.type "tuple") (d5 K)from fI) rfl T.z_tuple eA (ae (d4 rfl (cF.by (N':=["phase","now"]) (src:=[none,some 4]) rfl (show cV _ (aC yw).names Ba ["phase","now"] [none,some 4]=true from by decide +kernel)) (jT (ar (pv 0))) (λ_ _ _ _ _=>(bL (i:=0) (show(["phase","now"]:List Str).Nodup from by decide) rfl (Or.inl rfl))) (λ_ _ _ _ _=>dY) (λ_ _ _ _ _=>(show PE _ _ (BH K _ _)from(Zy (by exact(W2 (Xp (by decide) _) hu)) (pv 1) (pv 0) (λ_ _=>rfl))))) af)))
     (av (aE (br (ae (au (zmf T) hr T.Fy (ae (ar (pv 0)) (ae (ar (pv 2)) (ae (ar (pv 2)) (ae (pv 1) af))))) (ae (br (ae (ar (pv 0)) (ae (pv 5) af))) af))))))))),?_⟩
 wtm_at "cl";rw[show start Ba [x0,x1]=[some x0,some x1,none,none,none,none]from rfl];obtain⟨ra,rb,xs,r,rfl,hw,ok,h30,fr,q⟩:=h;have hz:bC xs++[0]=ai xs:=Cf ok.hp ok.h0;have h1:=ok.h1;have h8:=ok.h8;have sz:=OZ h1 h8;have hsl:=rX xs;have hvl:=jY xs;have hvp:=oS h1;have hpl:(bC xs).length+1=(ai xs).length:=by rw[<- hz];simp
 have hn:(aY xs).length=(bC xs).length+1:=by omega
 have L:fu xs (bC xs++[0]) (aQ xs) (aY xs):=by rw[hz];exact Mv ok.hp.nn ok.hp.lt
 obtain⟨Lr,Hr⟩:=yC ok.ok L hn (yZ xs) r fr;rw[hsl]at Lr Hr;have hel:=Bn Lr (bN ra rb xs _);have bx:∀i,ag 4000 (xs.getD i 0):=λi=>(ok.cm.get i).mono (by decide)
 have cp:Cm 3600 (bC xs):=zc ok.cm;have hlk:dR ra rb (aY xs) ((r:Int)).toNat:=by rw[wP];exact ym ok.ok sz (by omega)
 have hbp:∀i,ag 6900 ((bC xs).getD i 0):=λi=>(cp.get i).mono (by decide)
 o_head CH hw h8 bx (λz=>absurd ok.h0 z) (λ_ vl H1 S1 il=>?_);have hw1:=hw.by S1;o_head aD (j:=0) hw1 rfl (λvr ir=>?_);o_head aD (j:=0) il rfl (λvz iz=>?_);o_head aD (j:=1) il rfl (λvp ip=>?_);o_head U6 ir iz ip hn (by omega) hlk hbp (λv2 H2 S2 i2=>?_);rw[wP]at i2;o_head aD (j:=1) (il.by S2) rfl (λvp2 ip2=>?_);o_head cK (ds:=[N 0]) (by simp) (.cons (dM 0 (T.d9 _) rfl rfl) .nil) (λv3 H3 S3 i3=>?_);refine LO (ip2.by S3) i3 (by rw[wm];simp;omega) (λv4 H4 S4 i4=>?_);o_head cK (ds:=[N 0]) (by simp) (.cons (dM 0 (T.d9 _) rfl rfl) .nil) (λv5 H5 S5 i5=>?_);have S25:=S3.trans (S4.trans S5);refine LO (i2.by S25) i5 (by rw[wm,dq];simp;omega) (λv6 H6 S6 i6=>?_)
 have i46:Is K H6 v4 (TN (ai xs)):=by
   have:=i4.by (S5.trans S6);rw[<- hz];unfold TN;rw[vE];exact this
 have i66:Is K H6 v6 (TN (cA ra rb (aY xs) r (bC xs)++[0])):=by
   unfold TN;rw[vE];exact i6
 have S16:=S2.trans (S25.trans S6);have hw6:=hw1.by S16;have il6:=il.by S16;have T6:=S1.trans S16;clear hw hw1 il ir iz ip i2 ip2 i3 i4 i5 i6 S1 S2 S3 S4 S5 S6 S25 S16;have hrl:(cA ra rb (aY xs) r (bC xs)++[0]).length=(ai xs).length:=by rw[wT,dq];simp;omega
 generalize cA ra rb (aY xs) r (bC xs)++[0]=row at *;obtain⟨aa,us,rfl,hs1,tu⟩:=bM.mp i46;obtain⟨ab,ws,rfl,hs2,tw⟩:=bM.mp i66;obtain⟨cs,rfl⟩:=BO tu;obtain⟨ds,rfl⟩:=BO tw;have hcl:=tu.length;have hdl:=tw.length;simp only[wm]at hcl hdl;have nd:=zs2 (EO xs);have hkl:((ai xs).map fm).length=cs.length:=by rw[wm];omega
 o_head ⟨aa,ab,(ai xs).map fm,cs,ds,rfl,hs1,hs2,by omega,by omega,?_,nd,λD ep hD=>?_⟩
 . rw[V4]
   exact tu
 . have S7:ah H6 (upd H6 D (gP D ep (fU ((ai xs).map fm) cs ds))):=ah.upd hD
   have e7:upd H6 D (gP D ep (fU ((ai xs).map fm) cs ds)) D=some (gP D ep (fU ((ai xs).map fm) cs ds)):=cE;generalize upd H6 D (gP D ep (fU ((ai xs).map fm) cs ds))=H7 at *;have tu7:ak K H7 (cs.map V.ref) ((ai xs).map N):=ak.same S7 _ _ tu;have tw7:ak K H7 (ds.map V.ref) (row.map N):=ak.same S7 _ _ tw;have hw7:=hw6.by S7;o_head aD (j:=1) hw7 rfl (λvq iq=>?_);obtain⟨aq,uq,rfl,hsq,tq⟩:=bM.mp iq;have hql:=tq.length;rw[wm]at hql;refine jF hsq (o0:=none) (tl:=[some (.ref D)]) rfl (λj y H'=>Is K H' y (N (((wq xs.length).map λw=>row.getD (aQ xs w) 0).getD j 0))) ?_ ?_
   . intro D' j x ys o H8 hx inv
     obtain⟨hj,ix⟩:=df tq hx;have S8:=inv.same;obtain⟨ax,_,rfl,_,_⟩:=bM.mp (show Is K H7 x (.tuple _)from ix);have hfl:=(jL xs).lt j hj;have hxe:xs.getD j 0=(ai xs).getD (aQ xs j) 0:=(jL xs).at' j hj;o_head ⟨D,ax,ep,_,fm (xs.getD j 0),ds.getD (aQ xs j) 0,rfl,rfl,S8 _ _ e7,zuv (ak.same S8 _ _ tu7),ix.by S8,?_,?_⟩
     . rw[hxe,<- OA hfl]
       exact SU nd hkl (by omega)
     . refine eU inv (by omega) eZ ⟨_,rfl⟩ (ah.refl _) ?_
       have hr:((wq xs.length).map λw=>row.getD (aQ xs w) 0).getD j 0=row.getD (aQ xs j) 0:=by
         rw[wa,wx,vQ hj];rfl
       rw[hr];exact(df tw7 (i:=aQ xs j) (x:=.ref (ds.getD (aQ xs j) 0)) (by rw[wx,wa,wc (by omega)];rfl)).2.by S8
   . intro D' ys H8 n8 S8 e8 hl8 hr8
     have t8:ak K H8 ys (((wq xs.length).map λw=>row.getD (aQ xs w) 0).map N):=fE (by rw[hl8,hql];simp) hr8;rw[hel]at t8;o_head gX (c_ e8 t8) (λv9 H9 S9 i9=>?_);have S69:=S7.trans (S8.trans S9);o_head aD (j:=0) (hw6.by S69) rfl (λvr9 ir9=>?_);o_head aD (j:=0) (il6.by S69) rfl (λvz9 iz9=>?_);o_head aD (j:=1) (il6.by S69) rfl (λvp9 ip9=>?_);k_few
     refine zlT ir9 iz9 ip9 hn (by omega) hlk cp (by
       have h5:=sz.sum;rw[wP];have:(6*(aY xs).sum.toNat+3)*r<=51*30:=W7 (by omega) h30;omega) (λv10 H10 S10 i10=>?_)
     rw[wP,<- Hr]at i10;o_head aD (j:=0) (hw6.by (S69.trans S10)) rfl (λvr10 ir10=>?_);o_head cK (ds:=[R ra rb,TN (aj ra rb xs (r*(ai xs).length))]) (by simp) (.cons ir10 (.cons (i9.by S10) .nil)) (λv11 H11 S11 i11=>?_);o_head cK (ds:=[N (aP ra rb xs (r*(ai xs).length)),bD ra rb (aj ra rb xs (r*(ai xs).length))]) (by simp) (.cons (i10.by S11) (.cons i11 .nil)) (λv12 H12 S12 i12=>?_);exact q v12 H12 (T6.trans (S69.trans (S10.trans (S11.trans S12)))) i12
def La(K:wb):Sp:=λvs H Q _=>∃x0 x1 x2,vs=[x0,x1,x2] /\ ∃(a b:Rat)(xs:List Rat)(r g:Nat),x1=.int (r:Int)/\x2=.int (g:Int)/\Is K H x0 (bD a b xs)/\aV a b/\1<=xs.length/\xs.length<=8/\(1<=r->ft a b xs/\r<=30/\jJ a b xs r)/\g<=40/\ag 8000 (aP a b xs (r*(ai xs).length))/\(∀i,i<=g->Cm 3700 (aP a b (aj a b xs (r*(ai xs).length)) i::aj a b (aj a b xs (r*(ai xs).length)) i)) /\ ∀v H',ah H H'->Is K H' v (BD a b xs (r*(ai xs).length+g))->Q v H'
theorem znh{K:wb}{H:Hp}{Q:VK}{E:XK}{a b:Rat}{xs:List Rat}{r g:Nat}{v:V}(h:Is K H v (bD a b xs))(ok:aV a b)(h1:1<=xs.length)(h8:xs.length<=8)(f:1<=r->ft a b xs/\r<=30/\jJ a b xs r)(hg:g<=40)(c:ag 8000 (aP a b xs (r*(ai xs).length)))(c2:∀i,i<=g->Cm 3700 (aP a b (aj a b xs (r*(ai xs).length)) i::aj a b (aj a b xs (r*(ai xs).length)) i))(q:∀v H',ah H H'->Is K H' v (BD a b xs (r*(ai xs).length+g))->Q v H'):La K [v,.int (r:Int),.int (g:Int)] H Q E:=⟨_,_,_,rfl,a,b,xs,r,g,rfl,rfl,h,ok,h1,h8,f,hg,c,c2,q⟩
theorem Yy(T:Txt K mg a):aJ P w K mg base aS 10 a.Gz a.FG yY (La K):=by
 refine T.FK.F.ok C3 ?_ ?_;wtm_at "b3"
 refine⟨_,(ao (az 3 C3.nd (yI (bS ny (pv 1) ay (a_ _)) (au (IY T) hr T.Ak (ae (pv 0) (ae (pv 1) af))) (br (ae (bW (v:=.ref a.cW) rfl T.dF rfl) (ae (pv 0) af)))))
     (ao (az 4 C3.nd (au (KL T) hr T.Ay (ae (ar (pv 3)) (ae (pv 2) af))))
     (av (aE (br (ae (au (f_ T) hr T.fL (ae (ar (pv 3)) (ae (ar (pv 4)) af))) (ae (ar (pv 4)) af))))))),?_⟩
 wtm_at "cl";rw[show start Rt [x0,x1,x2]=[some x0,some x1,some x2,none,none]from rfl];obtain⟨ra,rb,xs,r,g,rfl,rfl,hw,ok,h1,h8,f,hg,c,c2,q⟩:=h;k_few
 . rename_i z
   obtain⟨sw,h30,fr⟩:=f (by omega);refine Be hw sw h30 fr (λv1 H1 S1 i1=>?_);o_head aD (j:=1) i1 rfl (λv2 i2=>?_);o_head zA i2 ok.ba ok.bb (by rw[bN];exact h1) (by rw[bN];exact h8) (by omega) (by omega) (by rw[wP];exact c2) (λv3 H3 S3 i3=>?_);rw[wP]at i3;have i13:=i1.by S3;o_head aD (j:=0) i13 rfl (λv4 i4=>?_);o_head aD (j:=0) i3 rfl (λv5 i5=>?_);have b5:ag 3700 (aP ra rb (aj ra rb xs (r*(ai xs).length)) g):=(c2 g (wo _)).eW (wC ..);k_few;rename_i v6 H6 S6 i6;refine aD (j:=1) (i3.by S6) rfl (λv7 i7=>?_);k_few;rw[mS]at i6;rw[eK]at i7;refine cK (ds:=[N (aP ra rb xs (r*(ai xs).length+g)),bD ra rb (aj ra rb xs (r*(ai xs).length+g))]) (by simp) (.cons i6 (.cons i7 .nil)) (λv8 H8 S8 i8=>?_);exact q v8 H8 (S1.trans (S3.trans (S6.trans S8))) i8
 . rename_i z
   have hr0:r=0:=by omega
   refine cK (ds:=[N 0,bD ra rb xs]) (by simp) (.cons (dM 0 (T.d9 _) rfl rfl) (.cons hw .nil)) (λv1 H1 S1 i1=>?_);have i1:Is K H1 v1 (BD ra rb xs (r*(ai xs).length)):=by rw[hr0,xm];exact i1
   o_head aD (j:=1) i1 rfl (λv2 i2=>?_);o_head zA i2 ok.ba ok.bb (by rw[bN];exact h1) (by rw[bN];exact h8) (by omega) (by omega) (by rw[wP];exact c2) (λv3 H3 S3 i3=>?_);rw[wP]at i3;have i13:=i1.by S3;o_head aD (j:=0) i13 rfl (λv4 i4=>?_);o_head aD (j:=0) i3 rfl (λv5 i5=>?_);have b5:ag 3700 (aP ra rb (aj ra rb xs (r*(ai xs).length)) g):=(c2 g (wo _)).eW (wC ..);k_few;rename_i v6 H6 S6 i6;refine aD (j:=1) (i3.by S6) rfl (λv7 i7=>?_);k_few;rw[mS]at i6;rw[eK]at i7;refine cK (ds:=[N (aP ra rb xs (r*(ai xs).length+g)),bD ra rb (aj ra rb xs (r*(ai xs).length+g))]) (by simp) (.cons i6 (.cons i7 .nil)) (λv8 H8 S8 i8=>?_);exact q v8 H8 (S1.trans (S3.trans (S6.trans S8))) i8
def eO(a b:Rat)(xs:List Rat):Option String :=
 if(ai xs).length=1 then some "one"
 else if d7 a b (aY xs) (bC xs)=true then
  if cu a b (aY xs) (bC xs)=bC xs then some "rests"
  else if a<1/\pR a b (aY xs)=true then some "drawn" else none
 else none
def Pk:Option String->V
 | none=>.bj
 | some s=>.str (Wm s)
def L9(K:wb):Sp:=λvs H Q _=>∃x0,vs=[x0] /\ ∃(a b:Rat)(xs:List Rat),Is K H x0 (bD a b xs)/\ft a b xs /\ ∀H',ah H H'->Q (Pk (eO a b xs)) H'
theorem zsd{K:wb}{H:Hp}{Q:VK}{E:XK}{a b:Rat}{xs:List Rat}{v:V}(h:Is K H v (bD a b xs))(ok:ft a b xs)(q:∀H',ah H H'->Q (Pk (eO a b xs)) H'):L9 K [v] H Q E:=⟨_,rfl,a,b,xs,h,ok,q⟩
theorem ft.round{a b:Rat}{xs:List Rat}(h:ft a b xs):cz a b (aY xs) (bC xs)/\cP (aY xs)/\(aY xs).length=(bC xs).length+1:=by
 have hz:bC xs++[0]=ai xs:=Cf h.hp h.h0;have h8:=h.h8;have sz:=OZ h.h1 h8;have hsl:=rX xs;have hvl:=jY xs;have hsu:=M0 xs;have hpl:(bC xs).length+1=(ai xs).length:=by rw[<- hz];simp
 refine⟨⟨h.ok.ba,h.ok.bb,λn hn=>by have:=sz.each n hn;omega,by omega,by omega,⟨3600,zc h.cm,by omega⟩⟩,sz,by omega⟩
theorem zr4(T:Txt K mg a):aJ P w K mg base aS 10 a.HL a.GC sA (L9 K):=by
 refine T.G2.F.ok OG ?_ ?_;wtm_at "b1"
 refine⟨_,(ao (bP (bS (show aN _ (wU .Eq) (cv K)from de hu) (bR (show aO _ (.builtin "len") (cN K)from dX) rfl T.z_len dE (ae (au (ML T) hr T.AB (ae (pv 0) af)) af)) ay (a_ _)) (av (aE gm)) bQ)
     (ao (bP (ee (dD (au (N6 T) hr T.Au (ae (pv 0) af)))) (av (aE g_)) bQ)
     (ao (az 1 OG.nd (pI (A3 T) hr T.rh O4 (ae (pv 0) af)))
     (ao (bP (ee (dD (au (Bx T) hr T.p8 (ae (ar (pv 0)) (ae (ar (pv 1)) (ae (ar (pv 1)) af)))))) (av (aE g_)) bQ)
     (ao (bP (bS (show aN _ (wU .Eq) (cv K)from de hu) (au (NH T) hr T.Al (ae (ar (pv 0)) (ae (ar (pv 1)) (ae (ar (pv 1)) af)))) (ar (pv 1)) (a_ _)) (av (aE gm)) bQ)
     (ao (bP (PW.pt (Yg (bS (show aN _ (wU .Eq) (cv K)from de hu) (au (Lc T) hr T.AG (ae (ar (pv 0)) af)) gm (a_ _)) (Zs (dD (au (LB T) hr T.Am (ae (ar (pv 0)) (ae (ar (pv 1)) af))))))) (av (aE gm)) bQ)
     (av (aE g_)))))))),?_⟩
 wtm_at "cl";rw[show start OR [x0]=[some x0,none]from rfl];obtain⟨ra,rb,xs,hw,ok,q⟩:=h;obtain⟨rok,sz,hn⟩:=ok.round;have h8:=ok.h8;have bx:∀i,ag 4000 (xs.getD i 0):=λi=>(ok.cm.get i).mono (by decide)
 have bp:∀i,ag 4000 ((bC xs).getD i 0):=λi=>((zc ok.cm).get i).mono (by decide)
 unfold eO at q;o_head MS hw h8 bx (λlf H1 us1 n1 S1 e1 t1=>?_);have hul:=t1.length;rw[wm]at hul;have hw1:=hw.by S1;o_head jN (.of e1) ?_;rw[hul];k_few
 . rename_i z
   have z:(ai xs).length=1:=by omega
   rw[if_pos z]at q;exact q _ S1
 . rename_i z
   have z:¬ (ai xs).length=1:=by omega
   rw[if_neg z]at q;refine Mx hw1 ?_;rw[decide_eq_true ok.h0];o_head CH hw1 h8 bx (λz=>absurd ok.h0 z) (λ_ vl H2 S2 il=>?_);have hw2:=hw1.by S2;o_head aD (j:=0) hw2 rfl (λvr ir=>?_);o_head aD (j:=0) il rfl (λvz iz=>?_);o_head aD (j:=1) il rfl (λvp ip=>?_);o_head DS ir iz ip rok (λH3 S3=>?_);have T3:=S1.trans (S2.trans S3);have hw3:=hw2.by S3;have il3:=il.by S3;clear hw hw1 hw2 il ir iz ip S1 S2 S3 e1 t1 n1;k_few
   . rename_i y
     rw[if_neg (by rw[y];decide)]at q;exact q _ T3
   . rename_i y
     rw[if_pos y]at q;refine aD (j:=0) hw3 rfl (λvr ir=>?_);o_head aD (j:=0) il3 rfl (λvz iz=>?_);o_head aD (j:=1) il3 rfl (λvp ip=>?_);o_head NK ir iz ip rok (λv4 H4 S4 i4=>?_);o_head aD (j:=1) (il3.by S4) rfl (λvp4 ip4=>?_);refine rP i4 ip4 ?_;k_few
     . rename_i u
       rw[if_pos u]at q;exact q _ (T3.trans S4)
     . rename_i u
       rw[if_neg u]at q;refine aD (j:=0) (hw3.by S4) rfl (λvr4 ir4=>?_);o_head Lx ir4 (ok.ok.ba.mono (by decide)) ?_;unfold oU
       by_cases z1:1<ra
       . rw[if_pos z1]
         o_head gp _ _ false (by rw[vb];decide) ?_;k_few;rw[if_neg (λh=>absurd h.1 (by grind))]at q;exact q _ (T3.trans S4)
       . rw[if_neg z1]
         by_cases z2:ra=1
         . rw[if_pos z2]
           o_head gp _ _ false (by rw[vb];decide) ?_;k_few;rw[if_neg (λh=>absurd h.1 (by grind))]at q;exact q _ (T3.trans S4)
         . rw[if_neg z2]
           have ha:ra<1:=by
             by_cases h:ra<1
             . exact h
             . exact absurd (qW (VT.mp h) (WA z2)) z1
           o_head gp _ _ true (by rw[vb];decide) ?_;o_head aD (j:=0) (hw3.by S4) rfl (λvr5 ir5=>?_);o_head aD (j:=0) (il3.by S4) rfl (λvz5 iz5=>?_);o_head NV ir5 iz5 ok.ok sz z2 (λH5 S5=>?_);k_few
           . rename_i d
             rw[if_pos ⟨ha,d⟩]at q;exact q _ (T3.trans (S4.trans S5))
           . rename_i d
             rw[if_neg (λh=>by rw[h.2]at d;cases d)]at q;exact q _ (T3.trans (S4.trans S5))
def M5(K:wb):Sp:=λvs H Q _=>∃x0,vs=[x0] /\ ∃(a b:Rat)(xs:List Rat)(g:Nat),Is K H x0 (bD a b xs)/\aV a b/\1<=xs.length/\xs.length<=8/\g<=8/\(∀t,t<=g->Cm 3700 (aj a b xs t))/\(∀t,t<g->(cf a b (aj a b xs t)).length=1)/\(cf a b (aj a b xs g)).length≠1 /\ ∀H',ah H H'->Q (.int ((g+1:Nat):Int)) H'
theorem JO{K:wb}{H:Hp}{Q:VK}{E:XK}{a b:Rat}{xs:List Rat}{g:Nat}{v:V}(h:Is K H v (bD a b xs))(ok:aV a b)(h1:1<=xs.length)(h8:xs.length<=8)(hg:g<=8)(c:∀t,t<=g->Cm 3700 (aj a b xs t))(w1:∀t,t<g->(cf a b (aj a b xs t)).length=1)(w2:(cf a b (aj a b xs g)).length≠1)(q:∀H',ah H H'->Q (.int ((g+1:Nat):Int)) H'):M5 K [v] H Q E:=⟨_,rfl,a,b,xs,g,h,ok,h1,h8,hg,c,w1,w2,q⟩
theorem zj1(T:Txt K mg a):aJ P w K mg base aS 5 a.FD a.E_ zT (M5 K):=by
 refine T.Fi.F.ok oM ?_ ?_;wtm_at "b1"
 refine⟨_,(ao (az 1 oM.nd ay)
     (ao (az 2 oM.nd (au (DN T) hr T.rg (ae (pv 0) af)))
     (ao (lU vL (bS (show aN _ (wU .Eq) (cv K)from de hu) (bR (show aO _ (.builtin "len") (cN K)from dX) rfl T.z_len dE (ae (ar (pv 2)) af)) ay (a_ _)) (ao (UQ (i:=1) oM.nd rfl (Or.inl rfl) ay zBJ)
     (av (az 2 oM.nd (au (DN T) hr T.rg (ae (ar (pv 2)) af))))))
     (av (aE (pv 1)))))),?_⟩
 wtm_at "cl";rw[show start Rr [x0]=[some x0,none,none]from rfl];obtain⟨ra,rb,xs,g,hw,ok,h1,h8,hg,c,w1,w2,q⟩:=h;o_head A1 hw ok.ba ok.bb h1 h8 (c 0 (by omega)) (by omega) (λv2 H2 S2 i2=>?_);o_head sy (λm σ' H'=>∃(t:Nat)(v:V),σ'=[some x0,some (.int ((t+1:Nat):Int)),some v]/\m=g-t/\t<=g/\ah H H'/\Is K H' v (GD ra rb (aj ra rb xs t))) _ ⟨0,v2,rfl,rfl,by omega,S2,i2⟩ ?_;rintro m σ' H3 ⟨t,v,rfl,rfl,ht,S3,iv⟩;o_head aD (j:=1) iv rfl (λv4 i4=>?_);o_head jm i4 ?_;rw[wm];k_few
 . rename_i z
   have z:(cf ra rb (aj ra rb xs t)).length=1:=by omega
   have htg:t<g:=by
     rcases wB t g with y | y
     . exact y
     . have:t=g:=by omega
       subst this;exact absurd z w2
   have hpl:=bN ra rb xs t;have hpl2:=bN ra rb xs (t+1);refine yM ?_;o_head zy9 rfl ?_;o_head Yd ?_;o_head aD (j:=2) iv rfl (λv5 i5=>?_);o_head A1 (show Is K H3 v5 (bD ra rb (aj ra rb xs (t+1)))from i5) ok.ba ok.bb (by omega) (by omega) (c (t+1) (by omega)) (by omega) (λv6 H6 S6 i6=>?_);k_few;exact⟨g-(t+1),by omega,t+1,v6,by push_cast;rfl,rfl,by omega,S3.trans S6,i6⟩
 . rename_i z
   have htg:t=g:=by
     rcases wB t g with y | y
     . exact absurd (by rw[w1 t y];rfl) z
     . omega
   subst htg;exact q H3 S3
def Ov(B:Int)(x:Rat):Prop:=∃t:Int,x=wz t B
theorem Ov.zero(B:Int):Ov B 0:=⟨0,by simp⟩
theorem Ov.more{B d:Int}{x:Rat}(h:Ov B x)(hB:0<B)(hd:0<d):Ov (B*d) x:=by
 obtain⟨t,rfl⟩:=h;exact⟨t*d,pX hB hd⟩
theorem YQ(t u:Int):∃m,Bd m t/\Bd m u:=⟨t.natAbs+u.natAbs,⟨W2 (by omega:t.natAbs<=t.natAbs+u.natAbs) Xq⟩,⟨W2 (by omega:u.natAbs<=t.natAbs+u.natAbs) Xq⟩⟩
theorem Tq{a b:Rat}(h:aV a b):Bd 6 a.num:=by
 have h1:=h.a0;have h2:=h.a4;have h3:=h.ad;have n0:0<=a.num:=Qd.mpr (vW h1)
 have n1:a.num<=4*a.den:=by
   have:=(Xb a 4).mp h2
   simpa using this
 exact ⟨by have : (2 : Nat) ^ 6 = 64 := by decide
           omega⟩
theorem zBX{a b:Rat}(h:aV a b):Bd 4 (a.den:Int):=by
 have h3:=h.ad
 exact ⟨by have : (2 : Nat) ^ 4 = 16 := by decide
           omega⟩
theorem Za{a b:Rat}(h:aV a b):Bd 4 b.num:=by
 have h1:=h.b0;have h2:=h.b1;have h3:=h.bd;have n0:0<=b.num:=Qd.mpr h1
 have n1:b.num<=b.den:=by
   have:=(Xb b 1).mp h2
   simpa using this
 exact ⟨by have : (2 : Nat) ^ 4 = 16 := by decide
           omega⟩
theorem Ov.push{a b:Rat}(ok:aV a b){B:Int}{x:Rat}(hB:0<B)(hd:(b.den:Int) ∣ B)(h:Ov B x)(n:Nat):Ov (B*(a.den:Int)^n) (push a b n x):=by
 obtain⟨t,rfl⟩:=h;obtain⟨m,h1,h2⟩:=YQ t B;obtain⟨_,_,_,T,e,_⟩:=J6 (Tq ok) (zBX ok) (Za ok) hB hd h1 h2 n;exact⟨T,e⟩
theorem pT(a:Rat)(n:Nat):0<(a.den:Int)^n:=X5 (den_pos a)
theorem Ov.up{a:Rat}{B:Int}{x:Rat}(h:Ov B x)(hB:0<B)(n:Nat):Ov (B*(a.den:Int)^n) x:=h.more hB (pT a n)
theorem Ma{B:Int}{xs:List Rat}(h:∀x∈xs,Ov B x)(i:Nat):Ov B (xs.getD i 0):=by
 rcases wB i xs.length with z | z
 ·exact h _ (getD_mem z)
 ·rw[wa,wL z];exact Ov.zero B
theorem Yl{B:Int}{xs:List Rat}(h:∀i,i<xs.length->Ov B (xs.getD i 0)):∀x∈xs,Ov B x:=λx hx=>by
 obtain⟨j,hj,rfl⟩:=wX hx;have:=h j hj;rw[wa,wc hj]at this;exact this
theorem NZ{a b:Rat}(ok:aV a b):∀(n:Nat)(B:Int)(ps:List Rat)(left:List Nat),0<B->(b.den:Int) ∣ B->left.Nodup->(∀w∈left,w<ps.length)->(∀x∈ps,Ov B x)->∀x∈(cq a b n ps left).2.2,Ov (B*(a.den:Int)^(cq a b n ps left).1.flatten.length) x
 | 0,B,ps,left,hB,_,_,_,h=>λx hx=>by
  have:Ov (B*(a.den:Int)^0) x:=by rw[Qw,xC];exact h x hx
  exact this
 | n+1,B,ps,left,hB,hd,nd,lt,h=>by
  by_cases e:aF ps left=[]
  ·rw[mM e]
   intro x hx;have:Ov (B*(a.den:Int)^0) x:=by rw[Qw,xC];exact h x hx
   exact this
  ·rw[jg e]
   have nd':(bK left (aF ps left)).Nodup:=mT nd;have lt':=mK (wave:=aF ps left) lt
   have ih:=NZ ok n (B*(a.den:Int)^(aF ps left).length) (cC (a^(aF ps left).length) (aB a b (aF ps left).length) ps (bK left (aF ps left))) (bK left (aF ps left)) (vN hB (pT a _)) (qE hd (VI ..)) nd' (λw hw=>by rw[g6];exact lt' w hw) (Yl λi hi=>by
    rw[iV _ _ _ _ nd' lt']
    split
    ·rw[<- gB];exact(Ma h i).push ok hB hd _
    ·exact(Ma h i).up hB _)
   intro x hx;have:=ih x hx
   show Ov (B*(a.den:Int)^(aF ps left::_).flatten.length) x
   rw[VF,wT,ua,<- qc];exact this
theorem Ov.rise{B:Int}{x y:Rat}(hx:Ov B x)(hy:Ov B y)(hB:0<B):Ov B (x+(1-y)):=by
 obtain⟨t,rfl⟩:=hx;obtain⟨z,rfl⟩:=hy;refine⟨t+B-z,?_⟩
 symm
 refine fJ (by omega) ?_;have q1:=cD t (show B≠0 by omega);have q2:=cD z (show B≠0 by omega);have q3:((t+B-z:Int):Rat)=(t:Rat)+(B:Rat)-(z:Rat):=by push_cast;rfl
 rw[q3,<- q1,<- q2]
 grind
def i_(a b:Rat)(xs:List Rat):Nat:=(cf a b xs).flatten.length
theorem zx6{a b:Rat}(ok:aV a b){B:Int}(hB:0<B)(hd:(b.den:Int) ∣ B){xs:List Rat}(h1:1<=xs.length)(h:∀x∈xs,Ov B x):∀y∈cX a b xs,Ov (B*(a.den:Int)^i_ a b xs) y:=by
 have hr:∀x∈bA xs,Ov B x:=λx hx=>by
  obtain⟨y,hy,rfl⟩:=wW.mp hx;exact(h y hy).rise (h _ (gO h1)) hB
 have:=NZ ok xs.length B (bA xs) (wq xs.length) hB hd WZ (λw hw=>by rw[fh];exact wG.mp hw) hr;intro y hy;rcases Z8 y hy with z | z
 ·exact this y z
 ·rw[z];exact Ov.zero _
def bZ(a b:Rat)(xs:List Rat):Nat->Nat
 | 0=>0
 | k+1=>bZ a b xs k+i_ a b (aj a b xs k)
theorem mV(a b:Rat)(xs:List Rat)(m:Nat):∀k,bZ a b xs (m+k)=bZ a b xs m+bZ a b (aj a b xs m) k
 | 0=>rfl
 | k+1=>by
  show bZ a b xs (m+k)+i_ a b (aj a b xs (m+k))=bZ a b xs m+(bZ a b (aj a b xs m) k+i_ a b (aj a b (aj a b xs m) k))
  rw[mV a b xs m k,eK];omega
theorem Pl{a b:Rat}(ok:aV a b){B:Int}(hB:0<B)(hd:(b.den:Int) ∣ B){xs:List Rat}(h1:1<=xs.length)(h:∀x∈xs,Ov B x):∀k,(∀y∈aj a b xs k,Ov (B*(a.den:Int)^bZ a b xs k) y)/\Ov (B*(a.den:Int)^bZ a b xs k) (aP a b xs k)
 | 0=>by
  show(∀y∈xs,Ov (B*(a.den:Int)^0) y)/\Ov (B*(a.den:Int)^0) 0
  rw[Qw,xC];exact⟨h,Ov.zero B⟩
 | k+1=>by
  obtain⟨hp,hh⟩:=Pl ok hB hd h1 h k;have hBk:=vN hB (pT a (bZ a b xs k));have hpl:=bN a b xs k
  have e:B*(a.den:Int)^bZ a b xs (k+1)=B*(a.den:Int)^bZ a b xs k*(a.den:Int)^i_ a b (aj a b xs k):=by
   rw[qc,<- ua];rfl
  rw[e];refine⟨zx6 ok hBk (qE hd (VI ..)) (by omega) hp,?_⟩;exact(Ov.rise hh (hp _ (gO (by omega))) hBk).up hBk _
theorem Oh{a b:Rat}(a0:0<a)(b0:0<=b){xs:List Rat}(h1:1<=xs.length)(hp:cT xs):∀k:Nat,0<=aP a b xs k/\aP a b xs k<=((k:Int):Rat)
 | 0=>⟨WS,WS⟩
 | k+1=>by
  obtain⟨l,u⟩:=Oh a0 b0 h1 hp k;have hk:=hp.at a0 b0 k;have hm:=gO (xs:=aj a b xs k) (by rw[bN];exact h1);have m0:=hk.nn _ hm;have m1:=hk.lt _ hm;have e:aP a b xs (k+1)=aP a b xs k+(1-bV (aj a b xs k)):=rfl;have ek:(((k+1:Nat):Int):Rat)=((k:Int):Rat)+1:=by push_cast;rfl
  rw[e,ek];exact⟨by grind,by grind⟩
theorem MZ{B:Int}{m l:Nat}{x:Rat}(hB:0<B)(bB:Bd m B)(h:Ov B x)(x0:0<=x)(x1:x<=(((2^l:Nat):Int):Rat)):∃t:Int,x=wz t B/\Bd (m+l+1) t:=by
 obtain⟨t,rfl⟩:=h;refine⟨t,rfl,?_⟩;have q1:=cD t (show B≠0 by omega);have hBr:(0:Rat)<(B:Rat):=uH.mpr hB;have t0:(0:Rat)<=(t:Rat):=by rw[<- q1];exact QF x0 (vW hBr)
 have t1:(t:Rat)<=(((2^l:Nat):Int):Rat)*(B:Rat):=by
  rw[<- q1];exact Qx x1 (vW hBr)
 have t0':0<=t:=Rat.intCast_nonneg.mp t0
 have t1':t<=((2^l:Nat):Int)*B:=by
  rw[<- vO]at t1;exact Vo.mp t1
 have b:=bB.lt;refine⟨?_⟩
 have hb:t.natAbs<=2^l*B.natAbs:=by
  have e:((2^l*B.natAbs:Nat):Int)=((2^l:Nat):Int)*B:=by
   rw[Vx]
   congr 1
   omega
  omega
 have:2^l*B.natAbs<2^l*2^m:=Nat.mul_lt_mul_of_pos_left b (Wf l);have e2:2^(m+l+1)=2^l*2^m*2:=by rw[WP,QM,qt (2^m)]
 omega
theorem zza{a b:Rat}(ok:aV a b){B:Int}{m:Nat}(h:Bd m B)(n:Nat):Bd (m+3*n) (B*(a.den:Int)^n):=by
 refine⟨?_⟩;have h1:=h.lt;have h8:=ok.ad;rw[xQ,Int.natAbs_pow,Int.natAbs_natCast,QM,Nat.pow_mul];have e:(2:Nat)^3=8:=by decide
 rw[e];have h2:a.den^n<=8^n:=Nat.pow_le_pow_left h8 n;have hp:0<8^n:=Nat.pow_pos (by decide);exact W2 (QC _ h2) (Nat.mul_lt_mul_of_pos_right h1 hp)
theorem Ov.sub{B:Int}{x y:Rat}(hx:Ov B x)(hy:Ov B y)(hB:0<B):Ov B (x-y):=by
 obtain⟨t,rfl⟩:=hx;obtain⟨z,rfl⟩:=hy;refine⟨t-z,?_⟩
 symm
 refine fJ (by omega) ?_;have q1:=cD t (show B≠0 by omega);have q2:=cD z (show B≠0 by omega);have q3:((t-z:Int):Rat)=(t:Rat)-(z:Rat):=by push_cast;rfl
 rw[q3,<- q1,<- q2]
 grind
theorem Zw{a b:Rat}(ok:aV a b){m:Nat}{xs:List Rat}(c:o_ b.den m xs)(h1:1<=xs.length)(hp:cT xs){i k l:Nat}(hk:k<=2^l):Cm (m+3*bZ a b xs (i+k)+l+1) (aP a b (aj a b xs i) k::aj a b (aj a b xs i) k):=by
 obtain⟨B,hB,hd,bB,hx⟩:=c;have hov:=Pl ok hB hd h1 (λx hx'=>let ⟨t,e,_⟩:=hx x hx';⟨t,e⟩);obtain⟨hph,hh⟩:=hov (i+k);have hBk:=vN hB (pT a (bZ a b xs (i+k)))
 have hi:Ov (B*(a.den:Int)^bZ a b xs (i+k)) (aP a b xs i):=by
  have:=((hov i).2).up (a:=a) (vN hB (pT a (bZ a b xs i))) (bZ a b (aj a b xs i) k);rw[qc,<- ua,<- mV]at this;exact this
 have hhk:Ov (B*(a.den:Int)^bZ a b xs (i+k)) (aP a b (aj a b xs i) k):=by
  have e:aP a b (aj a b xs i) k=aP a b xs (i+k)-aP a b xs i:=by
   have:=mS a b xs i k
   grind
  rw[e];exact hh.sub hi hBk
 have bb:=zza ok bB (bZ a b xs (i+k));have hpi:=hp.at ok.a0 ok.b0 i;have hpk:=hpi.at ok.a0 ok.b0 k;have hl:(((k:Nat):Int):Rat)<=(((2^l:Nat):Int):Rat):=Vo.mpr (by omega)
 have h1l:(1:Rat)<=(((2^l:Nat):Int):Rat):=by
  have:((1:Int):Rat)<=(((2^l:Nat):Int):Rat):=Vo.mpr (by have:=Wf l;omega);exact this
 refine⟨_,hBk,bb.mono (by omega),λx hx'=>?_⟩;rcases wK.mp hx' with rfl | hx'
 ·have hb:=Oh ok.a0 ok.b0 (xs:=aj a b xs i) (by rw[bN];exact h1) hpi k
  exact MZ hBk bb hhk hb.1 (xj hb.2 hl)
 ·have:=hph x (by rw[<- eK];exact hx')
  exact MZ hBk bb this (hpk.nn x hx') (xj (vW (hpk.lt x hx')) h1l)
theorem zvx{a b:Rat}(a0:0<a)(b0:0<=b){xs:List Rat}(h1:1<=xs.length)(hp:cT xs):i_ a b xs<=xs.length:=by
 obtain⟨v,J⟩:=DM a0 b0 h1 hp.nn hp.lt;unfold i_;rw[J.perm.length_eq];unfold seg;have:=WH (λw=>decide (0<=aQ xs w)&&decide (aQ xs w<v)) (wq xs.length);rw[vk]at this;exact this
theorem mj{a b:Rat}(a0:0<a)(b0:0<=b){xs:List Rat}(h1:1<=xs.length)(hp:cT xs):∀k,bZ a b xs k<=k*xs.length
 | 0=>Ww _
 | k+1=>by
  have ih:=mj a0 b0 h1 hp k;have hl:=bN a b xs k;have:=zvx a0 b0 (xs:=aj a b xs k) (by omega) (hp.at a0 b0 k);rw[qT]
  show bZ a b xs k+i_ a b (aj a b xs k)<=_
  omega
theorem zr7{a b:Rat}(a0:0<a)(b0:0<=b){xs:List Rat}(h1:1<=xs.length)(hp:cT xs):1<=(cf a b xs).length:=by
 obtain⟨v,J⟩:=DM a0 b0 h1 hp.nn hp.lt;obtain⟨ws,e,_⟩:=J.first;rw[e];simp
theorem Lz{a b:Rat}(a0:0<a)(b0:0<=b){xs:List Rat}(h1:1<=xs.length)(hp:cT xs):(ai (cX a b xs)).length<=(ai xs).length/\(1<(cf a b xs).length->(ai (cX a b xs)).length<(ai xs).length):=by
 obtain⟨v,J⟩:=DM a0 b0 h1 hp.nn hp.lt;have e:=congrArg List.length J.new;rw[iI,wT,vU,iI,Wh]at e;have v1:=J.v1;have vm:=J.vm;exact⟨by omega,λh=>by have:=J.more.mp h;omega⟩
theorem L7{a b:Rat}(a0:0<a)(b0:0<=b){xs:List Rat}(h1:1<=xs.length)(hp:cT xs):∀k,(ai (aj a b xs k)).length<=(ai xs).length
 | 0=>wo _
 | k+1=>vV (Lz a0 b0 (xs:=aj a b xs k) (by rw[bN];exact h1) (hp.at a0 b0 k)).1 (L7 a0 b0 h1 hp k)
theorem NI{a b:Rat}(ok:aV a b){xs ps:List Rat}{fl:Nat->Nat}{ns:List Int}(L:fu xs (ps++[0]) fl ns)(hn:ns.length=ps.length+1)(f:d7 a b ns ps=true):∀t,t<=ns.length->bZ a b xs t=upTo ns t
 | 0,_=>rfl
 | t+1,ht=>by
  have ih:=NI ok L hn f t (by omega);have hw:=(zV ok L hn f).2.1 t (by omega);have hl:(ps++[0]).length=ns.length:=by simp[hn]
  have hs:=L.size t (by omega)
  show bZ a b xs t+i_ a b (aj a b xs t)=_
  unfold i_;rw[hw,ih,oN (by omega),hs];simp
theorem Nn{a b:Rat}(ok:aV a b){xs ps:List Rat}{fl:Nat->Nat}{ns:List Int}(L:fu xs (ps++[0]) fl ns)(hn:ns.length=ps.length+1)(n0:∀n∈ns,0<=n):∀k,(∀j,j<k->cw a b ns ps j=true)->bZ a b xs (k*ns.length)=k*upTo ns ns.length
 | 0,_=>by rw[xm,xm];rfl
 | k+1,h=>by
  have ih:=Nn ok L hn n0 k λj hj=>h j (by omega)
  obtain⟨Lk,_⟩:=yC ok L hn n0 k λj hj=>h j (by omega)
  have hl:ns.length=(cA a b ns k ps).length+1:=by rw[dq];exact hn
  rw[qT,mV,ih,NI ok Lk hl (h k (by omega)) _ (wo _),qT]
structure gD(a b:Rat)(xs:List Rat)(r g:Nat):Prop where
 kx:r<=30
 free:jJ a b xs r
 ends:cw a b (aY xs) (bC xs) r=false
 g1:1<=g
 gN:g<=(ai xs).length
 one:∀t,t+1<g->(cf a b (aj a b (aj a b xs (r*(ai xs).length)) t)).length=1
 join:1<(cf a b (aj a b (aj a b xs (r*(ai xs).length)) (g-1))).length
theorem NU{p:Nat->Prop} : ∀n,(∃t,t<n /\ ¬ p t)->∃g,g<n/\(∀t,t<g->p t) /\ ¬ p g
 | 0,h=>by obtain⟨t,ht,_⟩:=h;omega
 | n+1,h=>by
  by_cases z:∃t,t<n /\ ¬ p t
  ·obtain⟨g,h1,h2,h3⟩:=NU n z
   exact⟨g,by omega,h2,h3⟩
  ·obtain⟨t,ht,hp⟩:=h
   have htn:t=n:=by
    rcases wB t n with y | y
    ·exact absurd ⟨t,y,hp⟩ z
    ·omega
   subst htn;exact⟨t,by omega,λs hs=>qp.mp λy=>z ⟨s,hs,y⟩,hp⟩
structure Y3(a b:Rat)(xs:List Rat):Prop where
 hz:bC xs++[0]=ai xs
 hn:(aY xs).length=(bC xs).length+1
 hs:(aY xs).length=(ai xs).length
 L:fu xs (bC xs++[0]) (aQ xs) (aY xs)
theorem pK{a b:Rat}{xs:List Rat}(hp:cT xs)(h0:0∈xs):Y3 a b xs:=by
 have hz:bC xs++[0]=ai xs:=Cf hp h0;have hsl:=rX xs;have hpl:(bC xs).length+1=(ai xs).length:=by rw[<- hz];simp
 exact⟨hz,by omega,hsl,by rw[hz];exact Mv hp.nn hp.lt⟩
theorem JA{a b:Rat}{xs:List Rat}(ok:aV a b)(h1:1<=xs.length)(hp:cT xs)(h0:0∈xs){r:Nat}(h30:r<=30)(f:jJ a b xs r)(e:cw a b (aY xs) (bC xs) r=false):∃g,gD a b xs r g:=by
 obtain⟨hz,hn,hs,L⟩:=pK (a:=a) (b:=b) hp h0;obtain⟨Lr,_⟩:=yC ok L hn (yZ xs) r f;obtain⟨t,ht,hj⟩:=zvs ok Lr (by rw[dq];exact hn) e;rw[hs]at ht hj;obtain⟨g,g1,g2,g3⟩:=NU (p:=λt=>(cf a b (aj a b (aj a b xs (r*(ai xs).length)) t)).length=1) (ai xs).length ⟨t,ht,λz=>by rw[z]at hj;omega⟩;refine⟨g+1,h30,f,e,by omega,by omega,λt ht=>g2 t (by omega),?_⟩;have:=zr7 (a:=a) (b:=b) ok.a0 ok.b0 (xs:=aj a b (aj a b xs (r*(ai xs).length)) g) (by rw[bN,bN];exact h1) ((hp.at ok.a0 ok.b0 _).at ok.a0 ok.b0 _);rw[qV];have g3:¬ (cf a b (aj a b (aj a b xs (r*(ai xs).length)) g)).length=1:=g3;omega
theorem gD.bZ{a b:Rat}{xs:List Rat}{r g:Nat}(R:gD a b xs r g)(ok:aV a b)(h1:1<=xs.length)(hp:cT xs)(h0:0∈xs){t:Nat}(ht:t<=g):bZ a b xs (r*(ai xs).length+t)<=30*xs.length+xs.length*xs.length:=by
 obtain⟨hz,hn,hs,L⟩:=pK (a:=a) (b:=b) hp h0;have h2:=Nn ok L hn (yZ xs) r R.free;rw[hs]at h2;have h3:=M0 xs;rw[hs]at h3;have h4:=mj ok.a0 ok.b0 (xs:=aj a b xs (r*(ai xs).length)) (by rw[bN];exact h1) (hp.at ok.a0 ok.b0 _) t;rw[bN]at h4;rw[mV,h2];have h5:r*upTo (aY xs) (ai xs).length<=30*xs.length:=W7 R.kx h3;have h6:t*xs.length<=xs.length*xs.length:=Wb _ (by have:=R.gN;have:=jY xs;omega);omega
theorem gD.Ii{a b:Rat}{xs:List Rat}{r g:Nat}(R:gD a b xs r g)(ok:aV a b)(h1:1<=xs.length)(hp:cT xs):(ai (aj a b xs (r*(ai xs).length+g))).length<(ai xs).length:=by
 have g1:=R.g1
 have e:aj a b xs (r*(ai xs).length+g)=cX a b (aj a b (aj a b xs (r*(ai xs).length)) (g-1)):=by
  rw[<- eK];obtain⟨k,rfl⟩:∃k,g=k+1:=⟨g-1,by omega⟩
  rfl
 have h2:cT (aj a b (aj a b xs (r*(ai xs).length)) (g-1)):=(hp.at ok.a0 ok.b0 _).at ok.a0 ok.b0 _;have hl:(aj a b (aj a b xs (r*(ai xs).length)) (g-1)).length=xs.length:=by rw[bN,bN]
 have h3:=(Lz ok.a0 ok.b0 (xs:=aj a b (aj a b xs (r*(ai xs).length)) (g-1)) (by omega) h2).2 R.join;have h4:=L7 ok.a0 ok.b0 (xs:=xs) h1 hp (r*(ai xs).length+(g-1));rw[eK]at h3;rw[eK]at e;rw[e];omega
theorem zqh{a b:Rat}{ns:List Int}{xs:List Rat}(ok:aV a b)(sz:cP ns)(hn:ns.length=xs.length+1)(st:d6 a b ns xs=true):cu a b ns xs=xs\/(a<1/\pR a b ns=true):=by
 have hps:=sz.pos;unfold d6 at st
 by_cases z1:1<a
 ·rw[if_pos z1]at st
  have e:=of_decide_eq_true st;have hF:a^ns.sum.toNat≠1:=λe=>absurd ((zo ok (by omega)).mp e) (by grind)
  refine .inl ?_;rw[<- BN hn sz.nn,Ye hF hn 1];rw[<- e,zwQ]
 ·rw[if_neg z1]at st
  by_cases z2:a=1
  ·rw[if_pos z2]at st
   refine .inl ?_;rw[<- BN hn sz.nn]
   exact kh (dq ..) λi hi=>by
    rw[dq]at hi;have hi':i<(cR a b ns).length:=by rw[mf (by omega)];omega
    have hz:(cR a b ns).getD i 0=0:=by
     rw[WI]at st;have:=st _ (wW.mpr ⟨_,getD_mem (d:=0) hi',rfl⟩);exact of_decide_eq_true this
    rw[j3 hi,hz];unfold fg;rw[z2,GM.one_pow',GM.one_pow']
    grind
  ·rw[if_neg z2]at st
   refine .inr ⟨?_,st⟩
   by_cases h:a<1
   ·exact h
   ·exact absurd (qW (VT.mp h) (WA z2)) z1
theorem YK{a b:Rat}{xs:List Rat}(ok:ft a b xs)(h:eO a b xs=none)(f:cw a b (aY xs) (bC xs) 0=true):d6 a b (aY xs) (bC xs)=false:=by
 obtain⟨_,sz,hn⟩:=ok.round;unfold cw at f;rw[oW]at f;cases e:d6 a b (aY xs) (bC xs)with
 | false=>rfl
 | true =>
  unfold eO at h;rw[if_pos f]at h
  split at h
  ·cases h
  ·split at h
   ·cases h
   ·rename_i y
    rcases zqh ok.ok sz hn e with z | z
    ·exact absurd z y
    ·rw[if_pos z]at h;cases h
def ku(h:Rat)(xs:List Rat)(r g:Nat):wD:=.tuple [N h,TN xs,.int (r:Int),.int (g:Int)]
def Rj(K:wb)(a:Ad):Sp:=λvs H Q E=>∃x0 x1,vs=[x0,x1] /\ ∃(ra rb h:Rat)(xs:List Rat),Is K H x0 (N h)/\Is K H x1 (bD ra rb xs)/\ft ra rb xs/\eO ra rb xs=none/\(∀r g t,gD ra rb xs r g->t<=g->Cm 3600 (aj ra rb xs (r*(ai xs).length+t))) /\
 ((∀k,k<=30->cw ra rb (aY xs) (bC xs) k=true)->∀H',ah H H'->E (.ref a.fX) none H') /\ ∀r g v H',gD ra rb xs r g->ah H H'->Is K H' v (ku h xs r g)->Q v H'
theorem ZK{K:wb}{a:Ad}{H:Hp}{Q:VK}{E:XK}{ra rb h:Rat}{xs:List Rat}{v w:V}(h1:Is K H v (N h))(h2:Is K H w (bD ra rb xs))(ok:ft ra rb xs)(hw:eO ra rb xs=none)(c:∀r g t,gD ra rb xs r g->t<=g->Cm 3600 (aj ra rb xs (r*(ai xs).length+t)))(qe:(∀k,k<=30->cw ra rb (aY xs) (bC xs) k=true)->∀H',ah H H'->E (.ref a.fX) none H')(q:∀r g v H',gD ra rb xs r g->ah H H'->Is K H' v (ku h xs r g)->Q v H'):Rj K a [v,w] H Q E:=⟨_,_,rfl,ra,rb,h,xs,h1,h2,ok,hw,c,qe,q⟩
theorem Zi(T:Txt K mg a):aJ P w K mg base (eJ P w) 12 a.Hv a.F9 sj (Rj K a):=by
 refine T.GB.F.yh zx ?_ ?_;wtm_at "b2"
 refine⟨_,(ao (az 2 zx.nd (pI (A3 T) hr T.rh Ep (ae (pv 1) af)))
     (ao (az 3 zx.nd (pI (zl4 T) hr T.FC Ep (ae (ar (pv 1)) (ae (ar (pv 2)) (ae (ar (pv 2)) af)))))
     (ao (az 4 zx.nd (au (zj1 T) hr T.Fi (ae (ar (au (IY T) hr T.Ak (ae (pv 1) (ae (pv 3) af)))) af)))
     (av (aE (br (ae (pv 0) (ae (ar (pv 1)) (ae (pv 3) (ae (pv 4) af)))))))))),?_⟩
 wtm_at "cl";rw[show start O2 [x0,x1]=[some x0,some x1,none,none,none]from rfl];obtain⟨ra,rb,hr',xs,ih,hw,ok,hno,hc,qe,q⟩:=h;obtain⟨rok,sz,hn⟩:=ok.round;have h8:=ok.h8;have bx:∀i,ag 4000 (xs.getD i 0):=λi=>(ok.cm.get i).mono (by decide)
 o_head CH hw h8 bx (λz=>absurd ok.h0 z) (λ_ vl H1 S1 il=>?_);have hw1:=hw.by S1;o_head aD (j:=0) hw1 rfl (λvr ir=>?_);o_head aD (j:=0) il rfl (λvz iz=>?_);o_head aD (j:=1) il rfl (λvp ip=>?_);o_head zmS ir iz ip ok.ok sz hn (zc ok.cm) (by decide) (λz H2 S2=>?_) (λz y H2 S2=>?_) (λc c1 c2 y z w H2 S2=>?_) (λy z H2 S2=>?_)
 . have RR:(0:Nat)<=30:=by decide
   have FF:jJ ra rb xs 0:=λk hk=>by omega
   have EE:=z;k_few;obtain⟨g,R⟩:=JA ok.ok ok.h1 ok.hp ok.h0 RR FF EE;have g1:=R.g1;have gN:=R.gN;have hvl:=jY xs;refine Be (r:=0) (hw1.by S2) ok RR FF (λv3 H3 S3 i3=>?_);o_head aD (j:=1) i3 rfl (λv4 i4=>?_);k_few;have hj:=R.join;refine JO (g:=g-1) i4 ok.ok (by rw[bN];exact ok.h1) (by rw[bN];exact h8) (by omega) (λt ht=>by rw[eK];exact(hc _ g t R (by omega)).mono (by decide)) (λt ht=>R.one t (by omega)) (by omega) (λH5 S5=>?_);rw[show g-1+1=g by omega];have S15:=S2.trans (S3.trans S5);o_head aD (j:=1) (hw1.by S15) rfl (λv6 i6=>?_);o_head cK (ds:=[N hr',TN xs,.int ((0:Nat):Int),.int (g:Int)]) (by simp) (.cons (ih.by (S1.trans S15)) (.cons i6 (.cons (cc.mpr rfl) (.cons (cc.mpr rfl) .nil)))) (λv7 H7 S7 i7=>?_);exact q 0 g v7 H7 R (S1.trans (S15.trans S7)) i7
 . rw[YK ok hno z]at y
   cases y
 . have RR:=c2
   have FF:jJ ra rb xs c:=z;have EE:=w;k_few;obtain⟨g,R⟩:=JA ok.ok ok.h1 ok.hp ok.h0 RR FF EE;have g1:=R.g1;have gN:=R.gN;have hvl:=jY xs;refine Be (r:=c) (hw1.by S2) ok RR FF (λv3 H3 S3 i3=>?_);o_head aD (j:=1) i3 rfl (λv4 i4=>?_);k_few;have hj:=R.join;refine JO (g:=g-1) i4 ok.ok (by rw[bN];exact ok.h1) (by rw[bN];exact h8) (by omega) (λt ht=>by rw[eK];exact(hc _ g t R (by omega)).mono (by decide)) (λt ht=>R.one t (by omega)) (by omega) (λH5 S5=>?_);rw[show g-1+1=g by omega];have S15:=S2.trans (S3.trans S5);o_head aD (j:=1) (hw1.by S15) rfl (λv6 i6=>?_);o_head cK (ds:=[N hr',TN xs,.int (c:Int),.int (g:Int)]) (by simp) (.cons (ih.by (S1.trans S15)) (.cons i6 (.cons (cc.mpr rfl) (.cons (cc.mpr rfl) .nil)))) (λv7 H7 S7 i7=>?_);exact q c g v7 H7 R (S1.trans (S15.trans S7)) i7
 . exact qe z H2 (S1.trans S2)
def oD(a b:Rat)(xs:List Rat)(i r g:Nat):Prop:=(i=0/\r=0/\g=1)\/(1<=i/\eO a b (aj a b xs i)=none/\gD a b (aj a b xs i) r g)
def dw(a b:Rat)(xs:List Rat)(i r g:Nat):Nat:=i+(r*(ai (aj a b xs i)).length+g)
def gj(a b:Rat)(xs:List Rat):Nat->List (Nat × Nat × Nat)->Nat->Prop
 | i,[],n=>i=n
 | i,e::es,n=>e.1=i/\oD a b xs i e.2.1 e.2.2/\gj a b xs (dw a b xs i e.2.1 e.2.2) es n
theorem gj.snoc{a b:Rat}{xs:List Rat} : ∀{es:List (Nat × Nat × Nat)}{i n r g:Nat},gj a b xs i es n->oD a b xs n r g->gj a b xs i (es++[(n,r,g)]) (dw a b xs n r g)
 | [],i,n,r,g,h,k=>by
  have e:i=n:=h;subst e;exact⟨rfl,k,rfl⟩
 | e::es,i,n,r,g,h,k=>⟨h.1,h.2.1,gj.snoc h.2.2 k⟩
def mi(a b:Rat)(xs:List Rat)(e:Nat × Nat × Nat):wD:=ku (aP a b xs e.1) (aj a b xs e.1) e.2.1 e.2.2
def sJ(a b:Rat)(xs:List Rat)(n:Nat)(w:String):wD:=.tuple [N (aP a b xs n),TN (aj a b xs n),.str (Wm w)]
def gU(a b:Rat)(xs:List Rat)(es:List (Nat × Nat × Nat))(n:Nat)(w:String):List wD:=es.map (mi a b xs)++[sJ a b xs n w]
theorem Ey(h:Rat)(xs:List Rat)(r g:Nat):cS (ku h xs r g)=true:=by rw[ku,cS,bY,bY,bY,bY,bY,j8,sZ];rfl
theorem zuN(a b:Rat)(xs:List Rat)(n:Nat)(w:String):cS (sJ a b xs n w)=true:=by rw[sJ,cS,bY,bY,bY,bY,j8,sZ];rfl
structure dB(a b:Rat)(xs:List Rat):Prop where
 ok:aV a b
 h1:1<=xs.length
 h6:xs.length<=6
 ph:∀x∈xs,eD x
theorem dB.hp{a b:Rat}{xs:List Rat}(h:dB a b xs):cT xs:=⟨λx hx=>(h.ph x hx).nn,λx hx=>(h.ph x hx).lt⟩
theorem dB.cmD{a b:Rat}{xs:List Rat}(h:dB a b xs):o_ b.den 47 xs:=by
 have h6:=h.h6
 have b6:∀j,ag 6 (xs.getD j 0):=λj=>by
  rcases wB j xs.length with z | z
  ·exact(h.ph _ (getD_mem z)).eW
  ·rw[wa,wL z];exact ag.zero.mono (by decide)
 have c0:Cm 43 xs:=(Cm.Sq b6).mono (by omega);exact o_.of c0 (den_pos b) ⟨by have:=h.ok.bd;have:(2:Nat)^4=16:=(by decide);omega⟩
def j_(a b:Rat)(xs:List Rat)(i:Nat):Prop:=bZ a b xs i+216*(ai (aj a b xs i)).length<=6+216*6/\i+186*(ai (aj a b xs i)).length<=1+186*6
structure pf(a b:Rat)(xs:List Rat)(es:List (Nat × Nat × Nat))(n:Nat)(w:String):Prop where
 walk:gj a b xs 0 es n
 e1:1<=es.length
 bX:es.length<=9
 n1:1<=n
 word:eO a b (aj a b xs n)=some w
 sp:j_ a b xs n
theorem dB.jy{a b:Rat}{xs:List Rat}(h:dB a b xs){i k:Nat}(hg:bZ a b xs (i+k)<=1100)(hk:k<=1024):Cm 3500 (aP a b (aj a b xs i) k::aj a b (aj a b xs i) k) :=
 (Zw h.ok h.cmD h.h1 h.hp (i:=i) (k:=k) (l:=10) (by rw[show(2:Nat)^10=1024 by decide];exact hk)).mono (by omega)
theorem dB.cm{a b:Rat}{xs:List Rat}(h:dB a b xs){i:Nat}(hg:bZ a b xs i<=1100)(hi:i<=1024):Cm 3500 (aP a b xs i::aj a b xs i):=h.jy (i:=0) (k:=i) (by rw[Nat.zero_add];exact hg) hi
theorem dB.AK{a b:Rat}{xs:List Rat}(h:dB a b xs){i:Nat}(h1:1<=i)(c:Cm 3500 (aP a b xs i::aj a b xs i)):ft a b (aj a b xs i) :=
 ⟨h.ok,by rw[bN];exact h.h1,by rw[bN];have:=h.h6;omega,h.hp.at h.ok.a0 h.ok.b0 i,h.hp.zero h.ok.a0 h.ok.b0 h.h1 h1,(oA c λy hy=>wy _ hy).mono (by decide)⟩
theorem dB.nf{a b:Rat}{xs:List Rat}(h:dB a b xs)(i:Nat):1<=(ai (aj a b xs i)).length/\(ai (aj a b xs i)).length<=6:=by
 have:=jY (aj a b xs i);rw[bN]at this;have h6:=h.h6;exact⟨oS (by rw[bN];exact h.h1),by omega⟩
theorem dB.one{a b:Rat}{xs:List Rat}(h:dB a b xs):j_ a b xs 1:=by
 have h6:=h.h6;have:=mj h.ok.a0 h.ok.b0 h.h1 h.hp 1;have:=(h.nf 1).2;exact⟨by omega,by omega⟩
theorem dB.within{a b:Rat}{xs:List Rat}(h:dB a b xs){i r g t:Nat}(i1:1<=i)(sp:j_ a b xs i)(n2:2<=(ai (aj a b xs i)).length)(R:gD a b (aj a b xs i) r g)(ht:t<=g):bZ a b xs (i+(r*(ai (aj a b xs i)).length+t))<=1100/\i+(r*(ai (aj a b xs i)).length+t)<=1024/\bZ a b xs (i+(r*(ai (aj a b xs i)).length+t))<=bZ a b xs i+216/\r*(ai (aj a b xs i)).length+t<=186:=by
 have h6:=h.h6;have nf:=(h.nf i).2;have hl:=bN a b xs i;have g1:=R.bZ h.ok (by rw[hl];exact h.h1) (h.hp.at h.ok.a0 h.ok.b0 i) (h.hp.zero h.ok.a0 h.ok.b0 h.h1 i1) ht;rw[hl]at g1
 have g2:30*xs.length+xs.length*xs.length<=216:=by
  have:xs.length*xs.length<=6*6:=W7 h6 h6;omega
 have g3:r*(ai (aj a b xs i)).length<=30*6:=W7 R.kx nf;have g4:=R.gN;obtain⟨s1,s2⟩:=sp;rw[mV];exact⟨by omega,by omega,by omega,by omega⟩
theorem dB.next{a b:Rat}{xs:List Rat}(h:dB a b xs){i r g:Nat}(i1:1<=i)(sp:j_ a b xs i)(n2:2<=(ai (aj a b xs i)).length)(R:gD a b (aj a b xs i) r g):j_ a b xs (dw a b xs i r g):=by
 obtain⟨_,_,w1,w2⟩:=h.within i1 sp n2 R (wo g);have f:=R.Ii h.ok (by rw[bN];exact h.h1) (h.hp.at h.ok.a0 h.ok.b0 i);rw[eK]at f;obtain⟨s1,s2⟩:=sp;unfold j_ dw;exact⟨by omega,by omega⟩
theorem LM{a b:Rat}{xs:List Rat}(h:eO a b xs=none)(h1:1<=(ai xs).length):2<=(ai xs).length:=by
 unfold eO at h
 split at h
 ·cases h
 ·omega
def dJ(es:List (Nat × Nat × Nat))(n j:Nat):Nat:=(es.map (·.1)++[n]).getD j 0
theorem gj.first{a b:Rat}{xs:List Rat}{es:List (Nat × Nat × Nat)}{i n:Nat}(h:gj a b xs i es n):dJ es n 0=i:=by
 cases es with
 | nil=>exact(show i=n from h).symm
 | cons e es=>exact h.1
theorem gj.at{a b:Rat}{xs:List Rat} : ∀{es:List (Nat × Nat × Nat)}{i n:Nat},gj a b xs i es n->∀j (hj:j<es.length),es[j].1=dJ es n j/\oD a b xs es[j].1 es[j].2.1 es[j].2.2/\dw a b xs es[j].1 es[j].2.1 es[j].2.2=dJ es n (j+1)
 | [],_,_,_,j,hj=>absurd hj (by simp)
 | e::es,i,n,h,j,hj=>by
  cases j with
  | zero =>
   have h1:=h.2.2.first;have e1:=h.1;refine⟨rfl,?_,?_⟩
   ·show oD a b xs e.1 e.2.1 e.2.2
    rw[e1];exact h.2.1
   ·show dw a b xs e.1 e.2.1 e.2.2=dJ es n 0
    rw[h1,e1]
  | succ j=>exact gj.at h.2.2 j (by simpa using hj)
theorem zuu(es:List (Nat × Nat × Nat))(n:Nat):dJ es n es.length=n:=by
 unfold dJ;rw[wa,vv (by simp)];simp
def zev(a b:Rat)(xs:List Rat):Prop:=∃es i,gj a b xs 0 es i/\1<=i/\eO a b (aj a b xs i)=none /\ ∀k,k<=30->cw a b (aY (aj a b xs i)) (bC (aj a b xs i)) k=true
def C8(K:wb)(a:Ad):Sp:=λvs H Q E=>∃x0,vs=[x0] /\ ∃(ra rb:Rat)(xs:List Rat),Is K H x0 (bD ra rb xs)/\dB ra rb xs /\
 (zev ra rb xs->∀H',ah H H'->E (.ref a.fX) none H') /\ ∀l H' es n w,pf ra rb xs es n w->H l=none->ah H H'->Is K H' (.ref l) (.list (gU ra rb xs es n w))->Q (.ref l) H'
theorem UW{K:wb}{a:Ad}{H:Hp}{Q:VK}{E:XK}{ra rb:Rat}{xs:List Rat}{v:V}(h:Is K H v (bD ra rb xs))(ok:dB ra rb xs)(qe:zev ra rb xs->∀H',ah H H'->E (.ref a.fX) none H')(q:∀l H' es n w,pf ra rb xs es n w->H l=none->ah H H'->Is K H' (.ref l) (.list (gU ra rb xs es n w))->Q (.ref l) H'):C8 K a [v] H Q E:=⟨_,rfl,ra,rb,xs,h,ok,qe,q⟩
theorem UI(T:Txt K mg a):aJ P w K mg base (eJ P w) 13 a.Hy a.Gn zY (C8 K a):=by
 refine T.p7.F.yh lg ?_ ?_;wtm_at "b1"
 refine⟨_,(ao (az 1 lg.nd (e_ (ae (br (ae (bW (v:=.ref a.cW) rfl T.dF rfl) (ae (ar (pv 0)) (ae ay (ae ay af))))) af)))
     (ao (az 2 lg.nd g_)
     (ao (lU X2 (bS EF (pv 2) g_ (a_ _)) (ao (az 3 lg.nd (dH cY (pv 1) (iA ib ay) (λ_ _=>rfl)))
     (ao (az 4 lg.nd (au (Yy T) hr T.FK (ae (br (ae (ar (pv 0)) (ae (ar (pv 3)) af))) (ae (ar (pv 3)) (ae (ar (pv 3)) af)))))
     (ao (az 5 lg.nd (au (f_ T) hr T.fL (ae (ar (pv 3)) (ae (ar (pv 4)) af))))
     (ao (az 2 lg.nd (au (zr4 T) hr T.G2 (ae (ar (pv 4)) af)))
     (av (mD (md WM WK WL kE (pv 1) (ae (yI (bS EF (pv 2) g_ (a_ _)) (pI (Zi T) hr T.GB Ep (ae (pv 5) (ae (ar (pv 4)) af))) (br (ae (pv 5) (ae (ar (ar (pv 4))) (ae (pv 2) af))))) af)))))))))
     (av (aE (pv 1)))))),?_⟩
 wtm_at "cl";rw[show start K9 [x0]=[some x0,none,none,none,none,none]from rfl];obtain⟨ra,rb,xs,hw,ok,qe,q⟩:=h;o_head aD (j:=1) hw rfl (λv1 i1=>?_);o_head cK (ds:=[N 0,TN xs,.int 0,.int 1]) (by simp) (.cons (dM 0 (T.d9 _) rfl rfl) (.cons i1 (.cons (cc.mpr rfl) (.cons (cc.mpr rfl) .nil)))) (λv2 H2 S2 i2=>?_);o_head fi (by simp) (λlr H3 n3 S3 e3=>?_);have hlr:H lr=none:=iW S2 n3;k_few
 refine sy (λm σ' H'=>∃(us:List V)(es:List (Nat × Nat × Nat))(vw:V)(o3 o4 o5:Option V),σ'=[some x0,some (.ref lr),some vw,o3,o4,o5]/\ah H H'/\H' lr=some (.lst us) /\
   ((vw=.bj /\ ∃i r g,gj ra rb xs 0 es i/\oD ra rb xs i r g/\ak K H' us ((es++[(i,r,g)]).map (mi ra rb xs))/\(1<=i->j_ ra rb xs i)/\es.length+(ai (aj ra rb xs (dw ra rb xs i r g))).length<=6/\m=(ai (aj ra rb xs (dw ra rb xs i r g))).length) \/
     ∃n w,vw=.str (Wm w)/\pf ra rb xs es n w/\ak K H' us (gU ra rb xs es n w)/\m=0)) _ ⟨[v2],[],.bj,_,_,_,rfl,S2.trans S3,e3,.inl ⟨rfl,0,0,1,rfl,.inl ⟨rfl,rfl,rfl⟩,.cons (i2.by S3) .nil,λh=>by omega,by have:=(ok.nf (dw ra rb xs 0 0 1)).2;simpa using this,rfl⟩⟩ ?_
 rintro m σ' H4 ⟨us,es,vw,o3,o4,o5,rfl,S4,e4,C⟩;rcases C with⟨rfl,i,r,g,wk,ro,t4,sp,bX,rfl⟩ | ⟨n,w',rfl,P,t4,rfl⟩
 . have hN:=(ok.nf i).2
   have h6:=ok.h6
   have facts:g<=40/\(1<=r->ft ra rb (aj ra rb xs i)/\r<=30/\jJ ra rb (aj ra rb xs i) r)/\bZ ra rb xs (dw ra rb xs i r g)<=1100/\dw ra rb xs i r g<=1024/\bZ ra rb xs i<=1100/\i<=1024/\(∀t,t<=g->bZ ra rb xs (i+(r*(ai (aj ra rb xs i)).length+t))<=1100)/\j_ ra rb xs (dw ra rb xs i r g)/\r<=30:=by
     rcases ro with⟨rfl,rfl,rfl⟩ | ⟨i1,hno,R⟩
     . have e:dw ra rb xs 0 0 1=1:=by unfold dw;omega
       have h2:=mj ok.ok.a0 ok.ok.b0 ok.h1 ok.hp;refine⟨by omega,λz=>by omega,by rw[e];have:=h2 1;omega,by omega,by have:=h2 0;omega,by omega,λt ht=>?_,by rw[e];exact ok.one,by omega⟩;have h3:=h2 (0+(0*(ai (aj ra rb xs 0)).length+t));have h4:(0+(0*(ai (aj ra rb xs 0)).length+t))*xs.length<=1*6:=W7 (by omega) h6;omega
     . have n2:=LM hno (ok.nf i).1
       have sp:=sp i1;have w:=λ{t:Nat}(ht:t<=g)=>ok.within i1 sp n2 R ht
       have w0:=w (wo g);have g4:=R.gN;have si:=sp.1;have si2:=sp.2;have c:Cm 3500 (aP ra rb xs i::aj ra rb xs i):=ok.cm (by omega) (by omega);exact⟨by omega,λ_=>⟨ok.AK i1 c,R.kx,R.free⟩,w0.1,w0.2.1,by omega,by omega,λt ht=>(w ht).1,ok.next i1 sp n2 R,R.kx⟩
   obtain⟨g40,fr,gl,nl,gi,ni,gw,sl,kx⟩:=facts;have cI:=ok.cm gi ni;have cL:=ok.cm gl nl
   have n1:1<=dw ra rb xs i r g:=by
     unfold dw;rcases ro with⟨rfl,rfl,rfl⟩ | ⟨i1,hno,R⟩
     . omega
     . omega
   have swL:=ok.AK n1 cL;have hrN:r*(ai (aj ra rb xs i)).length<=30*6:=W7 kx hN;have hul:=t4.length;rw[wm,wT,Wh]at hul;have hnf:=(ok.nf (dw ra rb xs i r g)).1;o_head yM ?_;k_few
   have il:Is K H4 (.ref lr) (.list (es.map (mi ra rb xs)++[mi ra rb xs (i,r,g)])):=by
     rw[vE]at t4;exact cB.mpr ⟨lr,us,rfl,.of e4,t4⟩
   refine mF il (λv5 i5=>?_);have i5:Is K H4 v5 (ku (aP ra rb xs i) (aj ra rb xs i) r g):=i5;have hw4:=hw.by S4;o_head aD (j:=0) hw4 rfl (λv6 i6=>?_);o_head aD (j:=1) i5 rfl (λv7 i7=>?_);o_head cK (ds:=[R ra rb,TN (aj ra rb xs i)]) (by simp) (.cons i6 (.cons i7 .nil)) (λv8 H8 S8 i8=>?_);have i58:=i5.by S8;o_head aD (j:=2) i58 rfl (λv9 i9=>?_);rw[cc.mp i9];o_head aD (j:=3) i58 rfl (λv10 i10=>?_);rw[cc.mp i10];k_few;have bH:ag 8000 (aP ra rb (aj ra rb xs i) (r*(ai (aj ra rb xs i)).length)):=((ok.jy (i:=i) (k:=r*(ai (aj ra rb xs i)).length) (by have:=gw 0 (by omega);rw[Xz]at this;exact this) (by omega)).eW (wC ..)).mono (by decide)
   have cG:∀t,t<=g->Cm 3700 (aP ra rb (aj ra rb (aj ra rb xs i) (r*(ai (aj ra rb xs i)).length)) t::aj ra rb (aj ra rb (aj ra rb xs i) (r*(ai (aj ra rb xs i)).length)) t):=λt ht=>by
     rw[eK ra rb xs];exact(ok.jy (i:=i+r*(ai (aj ra rb xs i)).length) (k:=t) (by have:=gw t ht;rw[<- VB]at this;exact this) (by omega)).mono (by decide)
   refine znh (show Is K H8 v8 (bD ra rb (aj ra rb xs i))from i8) ok.ok (by rw[bN];exact ok.h1) (by rw[bN];omega) fr g40 bH cG (λv11 H11 S11 i11=>?_);have i11:Is K H11 v11 (.tuple [N (aP ra rb (aj ra rb xs i) (r*(ai (aj ra rb xs i)).length+g)),bD ra rb (aj ra rb (aj ra rb xs i) (r*(ai (aj ra rb xs i)).length+g))]):=i11;rw[eK]at i11;have i11:Is K H11 v11 (.tuple [N (aP ra rb (aj ra rb xs i) (r*(ai (aj ra rb xs i)).length+g)),bD ra rb (aj ra rb xs (dw ra rb xs i r g))]):=i11;have i511:=i58.by S11;have bI:ag 3500 (aP ra rb xs i):=cI.eW (wC ..);have bJ:ag 3500 (aP ra rb (aj ra rb xs i) (r*(ai (aj ra rb xs i)).length+g)):=(ok.jy (i:=i) (k:=r*(ai (aj ra rb xs i)).length+g) gl (by omega)).eW (wC ..);o_head aD (j:=0) i511 rfl (λv12 i12=>?_);o_head aD (j:=0) i11 rfl (λv13 i13=>?_);k_few;rename_i v14 H14 S14 i14;rw[mS]at i14;have i14:Is K H14 v14 (N (aP ra rb xs (dw ra rb xs i r g))):=i14;have i1114:=i11.by S14;refine aD (j:=1) i1114 rfl (λv15 i15=>?_);have i15:Is K H14 v15 (bD ra rb (aj ra rb xs (dw ra rb xs i r g))):=i15;o_head zsd i15 swL (λH16 S16=>?_);have S816:=S8.trans (S11.trans (S14.trans S16));have e16:=S816 _ _ e4;have t16:ak K H16 us ((es++[(i,r,g)]).map (mi ra rb xs)):=ak.same S816 _ _ t4;have S416:=S4.trans S816;have i1116:=i1114.by S16;have i1416:=i14.by S16;have i1516:=i15.by S16;have wk':=wk.snoc ro;generalize hlead:dw ra rb xs i r g=n at *;cases hwd:eO ra rb (aj ra rb xs n)with
   | none =>
     show iX 2 V.bj _ _ _
     o_head kS (aK.of e16) ?_;o_head aD (j:=1) i1116 rfl (λv17 i17=>?_);k_few;have n2:=LM hwd hnf;refine ZK i1416 (show Is K H16 v17 (bD ra rb (aj ra rb xs n))from i17) swL hwd (λr' g' t R ht=>?_) (λz H' S=>qe ⟨_,n,wk',n1,hwd,z⟩ H' (S416.trans S)) (λr' g' v18 H18 R S18 i18=>?_)
     . have w:=ok.within n1 sl n2 R ht
       rw[eK];exact(oA (ok.cm w.1 w.2.1) λy hy=>wy _ hy).mono (by decide)
     . k_few
       have e18:=S18 _ _ e16;refine kO e18 (by omega) (λH19 E19 e19=>?_);have K19:=E19.keep e18;have fw:=R.Ii ok.ok (by rw[bN];exact ok.h1) (ok.hp.at ok.ok.a0 ok.ok.b0 n);rw[eK]at fw;have fw:(ai (aj ra rb xs (dw ra rb xs n r' g'))).length<(ai (aj ra rb xs n)).length:=fw;o_head ⟨_,fw,us++[v18],es++[(i,r,g)],.bj,_,_,_,rfl,(S416.trans S18).grow hlr E19,e19,.inl ⟨rfl,n,r',g',wk',.inr ⟨n1,hwd,R⟩,?_,λ_=>sl,?_,rfl⟩⟩
       . rw[vE]
         exact(ak.keep K19 _ _ (pM _ (λe=>Ey _ _ _ _) _) (ak.same S18 _ _ t16)).append (.cons (i18.ky K19 (Ey _ _ _ _)) .nil)
       . rw[wT,Wh]
         omega
   | some wd =>
     show iX 2 (V.str (Wm wd)) _ _ _
     o_head kS (aK.of e16) ?_;k_few
     . rename_i z;cases z
     . refine aD (j:=1) i1116 rfl (λv17 i17=>?_)
       o_head aD (j:=1) i17 rfl (λv18 i18=>?_);o_head cK (ds:=[N (aP ra rb xs n),TN (aj ra rb xs n),.str (Wm wd)]) (by simp) (.cons i1416 (.cons i18 (.cons (iU.mpr rfl) .nil))) (λv19 H19 S19 i19=>?_);k_few;have e19:=S19 _ _ e16;refine kO e19 (by omega) (λH20 E20 e20=>?_);have K20:=E20.keep e19;o_head ⟨0,by omega,us++[v19],es++[(i,r,g)],_,_,_,_,rfl,(S416.trans S19).grow hlr E20,e20,.inr ⟨n,wd,rfl,⟨wk',by simp,by rw[wT,Wh];omega,n1,hwd,sl⟩,?_,rfl⟩⟩;exact(ak.keep K20 _ _ (pM _ (λe=>Ey _ _ _ _) _) (ak.same S19 _ _ t16)).append (.cons (i19.ky K20 (zuN _ _ _ _ _)) .nil)
 . k_few
   . rename_i z;cases z
   . exact q lr H4 es n w' P hlr S4 (cB.mpr ⟨lr,us,rfl,.of e4,t4⟩)
def MQ(K:wb):Sp:=λvs H Q _=>∃x0 x1,vs=[x0,x1] /\ ∃(a:wf)(ns:List Int)(k:Int),x0=.ref a/\x1=.int k/\g9 K H a (ns.map V.int)/\ns.length<=63/\0<=k/\k<=1000 /\ ∀c:Int,Q (.int c) H
theorem YN{K:wb}{H:Hp}{Q:VK}{E:XK}{a:wf}{ns:List Int}{k:Int}(h:g9 K H a (ns.map V.int))(hl:ns.length<=63)(h0:0<=k)(h1:k<=1000)(q:∀c:Int,Q (.int c) H):MQ K [.ref a,.int k] H Q E:=⟨_,_,rfl,a,ns,k,rfl,rfl,h,hl,h0,h1,q⟩
theorem X_(T:Txt K mg a):aJ P w K mg base aS 1 a.HC a.Ge rA (MQ K):=by
 refine T.GR.F.ok SO ?_ ?_;wtm_at "b2"
 refine⟨_,(ao (bP (bS lY (pv 1) (bR (show aO _ (.builtin "len") (cN K)from dX) rfl T.z_len dE (ae (pv 0) af)) (a_ _)) (av (aE (bR k_ rfl T.z_abs kA (ae (dH cY (pv 0) (pv 1) (λ_ _=>rfl)) af)))) bQ)
     (ao (bP (bS (show aN _ (wU .Eq) (cv K)from de hu) (bR (show aO _ (.builtin "len") (cN K)from dX) rfl T.z_len dE (ae (pv 0) af)) ay (a_ _)) (av (aE (aA cb (aA ck ay (pv 1)) ay))) bQ)
     (av (aE (aA cb (aA gv (bR k_ rfl T.z_abs kA (ae (dH cY (pv 0) (aA gv (pv 1) (bR (show aO _ (.builtin "len") (cN K)from dX) rfl T.z_len dE (ae (pv 0) af))) (λ_ _=>rfl)) af)) (Oc (v:=100000000000000000) ⟨by decide,by decide,by decide⟩ (by decide +kernel))) (aA ck ay (pv 1))))))),?_⟩
 wtm_at "cl";rw[show start B3 [x0,x1]=[some x0,some x1]from rfl];obtain⟨a',ns,k,rfl,rfl,hs,hl,h0,h1,q⟩:=h;o_head jN hs.sq ?_;k_few
 . refine Ro hs h0 (by assumption) (λz=>?_)
   k_few;exact q _
 . refine jN hs.sq ?_
   k_few
   . exact q _
   . refine jN hs.sq ?_
     o_head Ro hs (Qv _ (by omega)) (Qa _ (by omega)) (λz=>?_);k_few;exact q _
def b_(H:Hp)(p:wf)(k:Int):Prop:=∃(a:Int)(b:Bool)(n:Int),H p=some (.lst [.int a,.bl b,.int n])/\0<=n/\n<=k
theorem b_.same{H H':Hp}{p:wf}{k:Int}(s:ah H H')(h:b_ H p k):b_ H' p k:=by
 obtain⟨x,y,n,e,h1,h2⟩:=h;exact⟨x,y,n,s _ _ e,h1,h2⟩
theorem b_.le{H:Hp}{p:wf}{j k:Int}(h:b_ H p j)(e:j<=k):b_ H p k:=by
 obtain⟨x,y,n,z,h1,h2⟩:=h;exact⟨x,y,n,z,h1,Int.le_trans h2 e⟩
theorem b_.ne{H:Hp}{p q:wf}{k:Int}(e:H q=none)(h:b_ H p k):q≠p:=by
 obtain⟨x,y,n,z,_⟩:=h;exact(jj z e).symm
def Jk(K:wb):Sp:=λvs H Q _=>∃x0 x1,vs=[x0,x1] /\ ∃(a:wf)(ns:List Int)(k:Int),x0=.ref a/\x1=.int k/\g9 K H a (ns.map V.int)/\ns.length<=63/\0<=k/\k<=1000 /\
 ∀p H',H p=none->ah H H'->b_ H' p 0->Q (.ref p) H'
theorem Pj{K:wb}{H:Hp}{Q:VK}{E:XK}{a:wf}{ns:List Int}{k:Int}(h:g9 K H a (ns.map V.int))(hl:ns.length<=63)(h0:0<=k)(h1:k<=1000)
  (q:∀p H',H p=none->ah H H'->b_ H' p 0->Q (.ref p) H'):Jk K [.ref a,.int k] H Q E:=⟨_,_,rfl,a,ns,k,rfl,rfl,h,hl,h0,h1,q⟩
local macro_rules | `(tactic| wtm_at "pen")=>`(tactic| first
 | assumption
 | (apply b_.same;(focus assumption);wtm_at "pen"))
local macro_rules | `(tactic| wtm_at "ne")=>`(tactic| ((with_reducible apply b_.ne); (focus assumption); wtm_at "pen"))
local macro_rules | `(tactic| wtm_at "penle")=>`(tactic| exact b_.le (by wtm_at "pen") (by omega))
theorem Oe(T:Txt K mg a):aJ P w K mg base aS 2 a.HG a.GJ sS (Jk K):=by
 refine T.Ax.F.ok Ni ?_ ?_;wtm_at "b2"
 refine⟨_,(ao (az 2 Ni.nd (au (X_ T) hr T.GR (ae (pv 0) (ae (pv 1) af))))
     (av (aE (e_ (ae (pv 2) (ae (fq Ca (pv 2) (Oc (v:=1000000000000000000) ⟨by decide,by decide,by decide⟩ (by decide +kernel)) (a_ _)) (ae ay af))))))),?_⟩
 wtm_at "cl";rw[show start KJ [x0,x1]=[some x0,some x1,none]from rfl];obtain⟨a',ns,k,rfl,rfl,hs,hl,h0,h1,q⟩:=h;o_head YN hs hl h0 h1 (λc=>?_);k_few;exact fi (by show 3<=1000;decide) λp H' hp s e=>q p H' hp s ⟨_,_,0,e,by decide,by decide⟩
def L_(K:wb):Sp:=λvs H Q _=>∃x0 x1,vs=[x0,x1] /\ ∃(p:wf)(k m:Int),x0=.ref p/\x1=.int m/\b_ H p k/\k<=1000000/\0<m/\Bd 8999 m /\
 ∀(r:Int)(H':Hp),0<=r->r<m->Exc p H H'->bG H H'->b_ H' p (k+1)->Q (.int r) H'
theorem zp5{K:wb}{H:Hp}{Q:VK}{E:XK}{p:wf}{k m:Int}(h:b_ H p k)(hk:k<=1000000)(hm:0<m)(hb:Bd 8999 m)
  (q:∀(r:Int)(H':Hp),0<=r->r<m->Exc p H H'->bG H H'->b_ H' p (k+1)->Q (.int r) H'):L_ K [.ref p,.int m] H Q E:=⟨_,_,rfl,p,k,m,rfl,rfl,h,hk,hm,hb,q⟩
local macro_rules | `(tactic| wtm_at "gs")=>`(tactic| ((with_reducible apply zp5); (focus wtm_at "pen"); (focus omega); (focus omega); (focus wtm_at "bd128"); intro _ _ _ _ _ _ _))
theorem fS(T:Txt K mg a):aJ P w K mg base aS 1 a.HA a.Gs yQ (L_ K):=by
 refine T.fj.F.ok yX ?_ ?_;wtm_at "b2"
 refine⟨_,(ao (mC (aA cb (ar (pv 0)) ay) (pA (pv 0) ay oq))
     (ao (bP (dD (ar (pv 0))) (ao (az 2 yX.nd (aA gv (ar (pv 0)) (pv 1)))
     (ao (mC (aA eI (ar (pv 0)) (pv 1)) (pA (pv 0) ay oq))
     (av (aE (pv 2))))) bQ)
     (ao (az 3 yX.nd (aA gv (aA ck (aA cb (aA gv (ar (pv 0)) ay) ay) (aA cb ay (aA ck (ar (pv 0)) (ar (pv 0))))) ay))
     (ao (az 3 yX.nd (aA gv (aA ck (pv 3) (aA cb (pv 3) (aA ck ay (ar (pv 0))))) ay))
     (av (aE (aA gv (aA eI (aA gv (aA ck (pv 3) (aA cb (aA eI (pv 3) ay) ay)) ay) ay) (pv 1)))))))),?_⟩
 wtm_at "cl";rw[show start Ou [x0,x1]=[some x0,some x1,none,none]from rfl];obtain⟨p,k,m,rfl,rfl,⟨x,y,n,hp,hn0,hn1⟩,hk,hm,hbm,q⟩:=h;k_few
 all_goals
   exact q _ _ (Qv _ (by omega)) (Qa _ hm) (by wtm_at "exc") (Exc.keep (p:=p) (by wtm_at "exc") hp) ⟨_,_,_,by assumption,by omega,by omega⟩
def BS(K:wb):Sp:=λvs H Q _=>∃x0 x1,vs=[x0,x1] /\ ∃(t b:Int),x0=.int t/\x1=.int b/\0<b/\Bd 8999 b /\ ∀v H',ah H H'->Is K H' v (N (wz t b))->Q v H'
theorem lS{K:wb}{H:Hp}{Q:VK}{E:XK}{t b:Int}(hb:0<b)(hB:Bd 8999 b)(q:∀v H',ah H H'->Is K H' v (N (wz t b))->Q v H'):BS K [.int t,.int b] H Q E:=⟨_,_,rfl,t,b,rfl,rfl,hb,hB,q⟩
theorem YU{K:wb}{H:Hp}{Q:VK}{E:XK}{t b:Int}(hb:0<b)(h1 : -100000000000000000000000000000000000000<=t)(h2:t<=100000000000000000000000000000000000000)(h3 : -100000000000000000000000000000000000000<=b)(h4:b<=100000000000000000000000000000000000000)
  (q:∀v H' (x:Rat),ah H H'->Is K H' v (N x)->x=wz t b->ag 128 x->Q v H'):BS K [.int t,.int b] H Q E :=
 lS hb ((Bd.jQ h3 h4).mono (by decide)) λv H' s h=>q v H' _ s h rfl (ag.divInt (show b≠0 by omega) (Bd.jQ h1 h2) (Bd.jQ h3 h4))
local macro_rules | `(tactic| wtm_at "gs")=>`(tactic| ((with_reducible apply YU); (focus omega); (focus omega); (focus omega); (focus omega); (focus omega); intro _ _ _ _ _ _ _))
theorem gy(T:Txt K mg a):aJ P w K mg base aS 1 a.HJ a.Gx tR (BS K):=by
 refine T.fK.F.ok sW ?_ ?_;wtm_at "b2"
 refine⟨_,(ao (az 2 sW.nd (bR k_ rfl T.z_abs kA (ae (pv 0) af)))
     (ao (az 3 sW.nd (pv 1))
     (ao (lU vL (bS ny (pv 3) ay (a_ _)) (av (Yj (i:=2) (j:=3) rfl sW.nd rfl rfl (by decide) rfl rfl (ae (pv 3) (ae (aA gv (pv 2) (pv 3)) af)) rfl)))
     (av (aE (br (ae (aA eI (pv 0) (pv 2)) (ae (aA eI (pv 1) (pv 2)) af)))))))),?_⟩
 wtm_at "cl";rw[show start NW [x0,x1]=[some x0,some x1,none,none]from rfl];obtain⟨t,b,rfl,rfl,hp,hB,q⟩:=h;have hb:b≠0:=by omega
 o_head OH (λσ H'=>∃(x y:Int),σ = [some (.int t),some (.int b),some (.int x),some (.int y)]/\0<=x/\0<=y/\vB x y=vB t b/\H'=H) (λσ=>(Mn σ 3).toNat) ⟨_,_,rfl,by split<;>omega,by omega,zR t b,rfl⟩ ?_;rintro σ H' ⟨x,y,rfl,hx,hy,hg,rfl⟩
 have hgb:Bd 8999 ((vB t b:Nat):Int):=hB.le (by
   have:vB t b ∣ b.natAbs:=Int.gcd_dvd_natAbs_right t b;have:=Uc (by omega) this
   simpa using this)
 k_few
 . refine Mr ?_
   k_few;have h1:=Qv x (show y≠0 by omega);have h2:=Qa x (show 0<y by omega);refine⟨?_,_,_,rfl,hy,h1,?_,rfl⟩
   . show(x % y).toNat<y.toNat
     omega
   . rw[<- hg];exact Nk (by omega) hx
 . rename_i h0
   have e0:y=0:=by omega
   subst e0
   have e:x=((vB t b:Nat):Int):=by
     rw[<- hg,XH];omega
   have e1:x=dv t b:=by unfold dv;rw[if_neg (by omega),<- e]
   rw[e1];have hd:ng t (dv t b):=⟨OU hb,by unfold dv;rw[if_neg (by omega)];exact hgb⟩;refine pL hd ?_;k_few;exact d_ (Mh hb) (zBN hb) q
theorem tK{w z n d:Int}(hw:1<=w)(hw8:w<=8)(hz:w<z)(hz4:z<=4*w)(hn:0<=n)(hd:1<=d)(hnd:n<=d)(hd12:d<=12):aV (wz z w) (wz n d):=by
 obtain⟨a1,a2,a3⟩:=M4 (x:=wz z w) rfl hw hw8 (by omega) hz4;obtain⟨b1,b2,b3⟩:=CF (y:=wz n d) rfl hd hd12 hn hnd
 have h1:(1:Rat)<wz z w:=by
  have:=cD z (show w≠0 by omega);refine Rat.not_le.mp λk=>?_
  have h2:=Qx k (vW (kI (show 0<w by omega)));rw[this,xH]at h2;have:=Vo.mp h2;omega
 exact⟨a1,a2,a3,b1,b2,b3,by grind⟩
theorem JN{n d:Int}(hn:0<=n)(hd:1<=d)(hnd:n<=d)(hd12:d<=12):aV 1 (wz n d):=by
 obtain⟨b1,b2,b3⟩:=CF (y:=wz n d) rfl hd hd12 hn hnd;exact⟨by decide,by decide,by decide,b1,b2,b3,by grind⟩
theorem rz{w t n d:Int}(hw:2<=w)(hw8:w<=8)(ht:1<=t)(htw:t<w)(hn:0<=n)(hd:1<=d)(hnd:n<=d)(hd12:d<=12)(h:(w-t)*d<=n*w):aV (wz t w) (wz n d):=by
 obtain⟨a1,a2,a3⟩:=M4 (x:=wz t w) rfl (by omega) hw8 ht (by omega);obtain⟨b1,b2,b3⟩:=CF (y:=wz n d) rfl hd hd12 hn hnd;refine⟨a1,a2,a3,b1,b2,b3,?_⟩;have e1:=cD t (show w≠0 by omega);have e2:=cD n (show d≠0 by omega);have pw:(0:Rat)<(w:Rat):=kI (show 0<w by omega);have pd:(0:Rat)<(d:Rat):=kI (show 0<d by omega);refine VT.mp λk=>?_
 have k1:=Rat.mul_lt_mul_of_pos_right k (qj pw pd)
 have e3:(wz t w+wz n d)*((w:Rat)*(d:Rat))=(t:Rat)*(d:Rat)+(n:Rat)*(w:Rat):=by
  rw[<- e1,<- e2];grind
 rw[e3,xH]at k1
 have k2:((t*d+n*w:Int):Rat)<((w*d:Int):Rat):=by
  rw[qK,vO,vO,vO];exact k1
 have k3:=xI.mp k2;rw[Int.sub_mul]at h;omega
theorem IA{t w d:Int}(hw:2<=w)(ht:1<=t)(htw:t<w)(hd:1<=d):1<=0-((t-w)*d).fdiv w/\0-((t-w)*d).fdiv w<=d/\(w-t)*d<=(0-((t-w)*d).fdiv w)*w:=by
 rw[VC _ (by omega)];have e:(t-w)*d = -((w-t)*d):=by rw[<- Int.neg_mul];congr 1;omega
 have p:1<=(w-t)*d:=by
  have:=Int.mul_le_mul (show(1:Int)<=w-t by omega) hd (by omega) (by omega);omega
 have hle:(w-t)*d<=w*d:=WG (by omega) (by omega);rw[e];generalize (w-t)*d=m at *;have h1:=uU (-m) (show w≠0 by omega);have h2:=Int.lt_ediv_add_one_mul_self (-m) (show 0<w by omega);generalize -m / w=q at *;have e2:(0-q)*w = -(q*w):=by rw[Int.sub_mul,Int.zero_mul];omega
 have e3:(q+1)*w=q*w+w:=by rw[Int.add_mul,xF]
 rw[e3]at h2;refine⟨?_,?_,by rw[e2];omega⟩
 ·refine Int.not_lt.mp λk=>?_
  have:0<=q*w:=u7 (by omega) (by omega);omega
 ·refine Int.not_lt.mp λk=>?_
  have:(q+1)*w<=(-d)*w:=WG (by omega) (by omega);rw[e3,Int.neg_mul,Int.mul_comm d w]at this;omega
def Jx(K:wb):Sp:=λvs H Q _=>∃x0,vs=[x0] /\ ∃(p:wf)(k:Int),x0=.ref p/\b_ H p k/\k<=1000 /\ ∀v H' (a b:Rat),Exc p H H'->bG H H'->b_ H' p (k+8)->Is K H' v (R a b)->aV a b->Q v H'
theorem zjD{K:wb}{H:Hp}{Q:VK}{E:XK}{p:wf}{k:Int}(h:b_ H p k)(hk:k<=1000)(q:∀v H' (a b:Rat),Exc p H H'->bG H H'->b_ H' p (k+8)->Is K H' v (R a b)->aV a b->Q v H'):Jx K [.ref p] H Q E:=⟨_,rfl,p,k,rfl,h,hk,q⟩
theorem UU(T:Txt K mg a):aJ P w K mg base aS 2 a.Fq a.EY tX (Jx K):=by
 refine T.Fe.F.ok jz ?_ ?_;wtm_at "b1"
 refine⟨_,(ao (az 1 jz.nd (au (fS T) hr T.fj (ae (pv 0) (ae ay af))))
     (ao (az 2 jz.nd (aA cb ay (au (fS T) hr T.fj (ae (pv 0) (ae ay af)))))
     (ao (az 3 jz.nd (aA cb ay (au (fS T) hr T.fj (ae (pv 0) (ae ay af)))))
     (ao (az 4 jz.nd (au (fS T) hr T.fj (ae (pv 0) (ae (aA cb (pv 3) ay) af))))
     (ao (bP (bS (show aN _ (wU .Eq) (cv K)from de hu) (au (fS T) hr T.fj (ae (pv 0) (ae ay af))) ay (a_ _)) (av (az 4 jz.nd (bR (show aO _ (.builtin "min") Bm from zva rfl) rfl T.z_min zA7 (ae (pv 4) (ae ay af))))) bQ)
     (ao (bP (bS lY (pv 1) ay (a_ _)) (av (aE (br (ae (au (gy T) hr T.fK (ae (aA cb (aA cb (pv 2) ay) (aA ck (pv 1) (au (fS T) hr T.fj (ae (pv 0) (ae (aA ck ay (pv 2)) af))))) (ae (pv 2) af))) (ae (au (gy T) hr T.fK (ae (pv 4) (ae (pv 3) af))) af))))) bQ)
     (ao (bP (bS (show aN _ (wU .Eq) (cv K)from de hu) (pv 1) ay (a_ _)) (av (aE (br (ae (br (ae ay (ae ay af))) (ae (au (gy T) hr T.fK (ae (pv 4) (ae (pv 3) af))) af))))) bQ)
     (ao (az 2 jz.nd (aA cb ay (aA gv (pv 2) ay)))
     (ao (az 5 jz.nd (aA cb ay (au (fS T) hr T.fj (ae (pv 0) (ae (aA jr (pv 2) ay) af)))))
     (ao (bP (bS (show aN _ (wU .Eq) (cv K)from de hu) (pv 1) ay (a_ _)) (av (aE (br (ae (au (gy T) hr T.fK (ae (pv 5) (ae (pv 2) af))) (ae (au (gy T) hr T.fK (ae (aA jr (pv 2) (pv 5)) (ae (pv 2) af))) af))))) bQ)
     (ao (az 6 jz.nd (aA jr ay (aA eI (aA ck (aA jr (pv 5) (pv 2)) (pv 3)) (pv 2))))
     (av (aE (br (ae (au (gy T) hr T.fK (ae (pv 5) (ae (pv 2) af))) (ae (au (gy T) hr T.fK (ae (aA cb (pv 6) (au (fS T) hr T.fj (ae (pv 0) (ae (aA cb (aA jr (pv 3) (pv 6)) ay) af)))) (ae (pv 3) af))) af)))))))))))))))),?_⟩
 wtm_at "cl";rw[show start Jb [x0]=[some x0,none,none,none,none,none,none]from rfl];obtain⟨p,k,rfl,hp,hk,q⟩:=h;wtm_at "ga"
 . rename_i way H1 w0 w1 E1 K1 P1 bt H2 b0 b1 E2 K2 P2 dr H3 d0 d1 E3 K3 P3 mo H4 m0 m1 E4 K4 P4 tw H5 t0 t1 E5 K5 P5 z mn mn0 mn1 mn2 hw rr H6 r0 r1 E6 K6 P6
   have hw2:way=0\/way=1:=by omega
   rcases hw2 with rfl | rfl
   . wtm_at "ga"
     rename_i v7 H7 x7 S7 i7 e7 b7 v8 H8 x8 S8 i8 e8 b8 v9 H9 S9 i9;exact q _ _ x7 x8 (by wtm_at "exc") (by wtm_at "keep") (by wtm_at "penle") i9 (by rw[e7,e8];exact tK (by omega) (by omega) (by omega) (by omega) (by omega) (by omega) (by omega) (by omega))
   . wtm_at "ga"
     rename_i v7 H7 x7 S7 i7 e7 b7 v8 H8 x8 S8 i8 e8 b8 v9 H9 S9 i9;exact q _ _ x7 x8 (by wtm_at "exc") (by wtm_at "keep") (by wtm_at "penle") i9 (by rw[e7,e8];exact tK (by omega) (by omega) (by omega) (by omega) (by omega) (by omega) (by omega) (by omega))
 . rename_i way H1 w0 w1 E1 K1 P1 bt H2 b0 b1 E2 K2 P2 dr H3 d0 d1 E3 K3 P3 mo H4 m0 m1 E4 K4 P4 tw H5 t0 t1 E5 K5 P5 z mn mn0 mn1 mn2 hw hw2 v7 H7 S7 i7 v8 H8 x8 S8 i8 e8 b8 v9 H9 S9 i9
   exact q _ _ 1 x8 (by wtm_at "exc") (by wtm_at "keep") (by wtm_at "penle") i9 (by rw[e8];exact JN (by omega) (by omega) (by omega) (by omega))
 . rename_i way H1 w0 w1 E1 K1 P1 bt H2 b0 b1 E2 K2 P2 dr H3 d0 d1 E3 K3 P3 mo H4 m0 m1 E4 K4 P4 tw H5 t0 t1 E5 K5 P5 z mn mn0 mn1 mn2 hw hw2 rr H6 r0 r1 E6 K6 P6 hw3 v7 H7 x7 S7 i7 e7 b7 v8 H8 x8 S8 i8 e8 b8 v9 H9 S9 i9
   exact q _ _ x7 x8 (by wtm_at "exc") (by wtm_at "keep") (by wtm_at "penle") i9 (by rw[e7,e8];exact rz (by omega) (by omega) (by omega) (by omega) (by omega) (by omega) (by omega) (by omega) (Int.le_refl _))
 . rename_i way H1 w0 w1 E1 K1 P1 bt H2 b0 b1 E2 K2 P2 dr H3 d0 d1 E3 K3 P3 mo H4 m0 m1 E4 K4 P4 tw H5 t0 t1 E5 K5 P5 z mn mn0 mn1 mn2 hw hw2 rr H6 r0 r1 E6 K6 P6 hw3
   have nd:=IA (t:=1+rr) (w:=2+(1+bt) % 7) (d:=1+dr) (by omega) (by omega) (by omega) (by omega);refine pL ⟨by omega,(Bd.jQ (by omega) (by omega)).mono (by decide)⟩ ?_;generalize ((1+rr-(2+(1+bt) % 7))*(1+dr)).fdiv (2+(1+bt) % 7)=fd at nd ⊢;obtain⟨n1,n2,n3⟩:=nd;wtm_at "ga";rename_i v7 H7 x7 S7 i7 e7 b7 s8 H8 s0 s1 E8 K8 P8 v9 H9 x9 S9 i9 e9 b9 v10 H10 S10 i10
   exact q _ _ x7 x9 (by wtm_at "exc") (by wtm_at "keep") (by wtm_at "penle") i10 (by
     rw[e7,e9];refine rz (by omega) (by omega) (by omega) (by omega) (by omega) (by omega) (by omega) (by omega) ?_;have:(0-fd)*(2+(1+bt) % 7)<=(0-fd+s8)*(2+(1+bt) % 7):=WG (by omega) (by omega);omega)
 . rename_i way H1 w0 w1 E1 K1 P1 bt H2 b0 b1 E2 K2 P2 dr H3 d0 d1 E3 K3 P3 mo H4 m0 m1 E4 K4 P4 tw H5 t0 t1 E5 K5 P5 z hw rr H6 r0 r1 E6 K6 P6
   have hw2:way=0\/way=1:=by omega
   rcases hw2 with rfl | rfl
   . wtm_at "ga"
     rename_i v7 H7 x7 S7 i7 e7 b7 v8 H8 x8 S8 i8 e8 b8 v9 H9 S9 i9;exact q _ _ x7 x8 (by wtm_at "exc") (by wtm_at "keep") (by wtm_at "penle") i9 (by rw[e7,e8];exact tK (by omega) (by omega) (by omega) (by omega) (by omega) (by omega) (by omega) (by omega))
   . wtm_at "ga"
     rename_i v7 H7 x7 S7 i7 e7 b7 v8 H8 x8 S8 i8 e8 b8 v9 H9 S9 i9;exact q _ _ x7 x8 (by wtm_at "exc") (by wtm_at "keep") (by wtm_at "penle") i9 (by rw[e7,e8];exact tK (by omega) (by omega) (by omega) (by omega) (by omega) (by omega) (by omega) (by omega))
 . rename_i way H1 w0 w1 E1 K1 P1 bt H2 b0 b1 E2 K2 P2 dr H3 d0 d1 E3 K3 P3 mo H4 m0 m1 E4 K4 P4 tw H5 t0 t1 E5 K5 P5 z hw hw2 v7 H7 S7 i7 v8 H8 x8 S8 i8 e8 b8 v9 H9 S9 i9
   exact q _ _ 1 x8 (by wtm_at "exc") (by wtm_at "keep") (by wtm_at "penle") i9 (by rw[e8];exact JN (by omega) (by omega) (by omega) (by omega))
 . rename_i way H1 w0 w1 E1 K1 P1 bt H2 b0 b1 E2 K2 P2 dr H3 d0 d1 E3 K3 P3 mo H4 m0 m1 E4 K4 P4 tw H5 t0 t1 E5 K5 P5 z hw hw2 rr H6 r0 r1 E6 K6 P6 hw3 v7 H7 x7 S7 i7 e7 b7 v8 H8 x8 S8 i8 e8 b8 v9 H9 S9 i9
   exact q _ _ x7 x8 (by wtm_at "exc") (by wtm_at "keep") (by wtm_at "penle") i9 (by rw[e7,e8];exact rz (by omega) (by omega) (by omega) (by omega) (by omega) (by omega) (by omega) (by omega) (Int.le_refl _))
 . rename_i way H1 w0 w1 E1 K1 P1 bt H2 b0 b1 E2 K2 P2 dr H3 d0 d1 E3 K3 P3 mo H4 m0 m1 E4 K4 P4 tw H5 t0 t1 E5 K5 P5 z hw hw2 rr H6 r0 r1 E6 K6 P6 hw3
   have nd:=IA (t:=1+rr) (w:=2+(1+bt) % 7) (d:=1+dr) (by omega) (by omega) (by omega) (by omega);refine pL ⟨by omega,(Bd.jQ (by omega) (by omega)).mono (by decide)⟩ ?_;generalize ((1+rr-(2+(1+bt) % 7))*(1+dr)).fdiv (2+(1+bt) % 7)=fd at nd ⊢;obtain⟨n1,n2,n3⟩:=nd;wtm_at "ga";rename_i v7 H7 x7 S7 i7 e7 b7 s8 H8 s0 s1 E8 K8 P8 v9 H9 x9 S9 i9 e9 b9 v10 H10 S10 i10
   exact q _ _ x7 x9 (by wtm_at "exc") (by wtm_at "keep") (by wtm_at "penle") i10 (by
     rw[e7,e9];refine rz (by omega) (by omega) (by omega) (by omega) (by omega) (by omega) (by omega) (by omega) ?_;have:(0-fd)*(2+(1+bt) % 7)<=(0-fd+s8)*(2+(1+bt) % 7):=WG (by omega) (by omega);omega)
def NM(K:wb):Sp:=λvs H Q _=>∃x0 x1,vs=[x0,x1] /\ ∃(p:wf)(k m:Int),x0=.ref p/\x1=.int m/\b_ H p k/\k<=1000/\1<=m/\m<=8 /\ ∀(l:wf)(H':Hp)(us:List V)(xs:List Rat),H l=none->Exc p H H'->bG H H'->b_ H' p (k+11)->H' l=some (.lst us)->ak K H' us (xs.map N)->1<=xs.length->(xs.length:Int)<=m->(∀x∈xs,eD x)->Q (.ref l) H'
theorem Ta{K:wb}{H:Hp}{Q:VK}{E:XK}{p:wf}{k m:Int}(h:b_ H p k)(hk:k<=1000)(h1:1<=m)(h8:m<=8)(q:∀(l:wf)(H':Hp)(us:List V)(xs:List Rat),H l=none->Exc p H H'->bG H H'->b_ H' p (k+11)->H' l=some (.lst us)->ak K H' us (xs.map N)->1<=xs.length->(xs.length:Int)<=m->(∀x∈xs,eD x)->Q (.ref l) H'):NM K [.ref p,.int m] H Q E:=⟨_,_,rfl,p,k,m,rfl,rfl,h,hk,h1,h8,q⟩
theorem zh2(T:Txt K mg a):aJ P w K mg base aS 2 a.Fd a.EV yW (NM K):=by
 refine T.EX.F.ok oK ?_ ?_;wtm_at "b2"
 refine⟨_,(ao (az 2 oK.nd (aA cb ay (au (fS T) hr T.fj (ae (pv 0) (ae (pv 1) af)))))
     (ao (az 3 oK.nd (aA cb ay (au (fS T) hr T.fj (ae (pv 0) (ae ay af)))))
     (ao (az 4 oK.nd (dH cY (e_ (ae (pv 3) (ae (aA cb ay (aA eI (pv 3) ay)) af))) (au (fS T) hr T.fj (ae (pv 0) (ae ay af))) (λ_ _=>rfl)))
     (ao (az 5 oK.nd (aA eI (pv 3) (pv 4)))
     (av (aE (d4 rfl (cF.by (N':=["_law_k","_law_bottom","_law_apart","_law_pen_here","_law_few"]) (src:=[none,some 3,some 5,some 0,some 4]) rfl (show cV _ (aC zH).names BV ["_law_k","_law_bottom","_law_apart","_law_pen_here","_law_few"] [none,some 3,some 5,some 0,some 4]=true from by decide +kernel)) (jH rfl T.z_range (ae (pv 2) af)) (λ_ _ _ _ _=>(bL (i:=0) (show(["_law_k","_law_bottom","_law_apart","_law_pen_here","_law_few"]:List Str).Nodup from by decide) rfl (Or.inl rfl))) (λ_ _ _ _ _=>dY) (λ_ _ _ _ _=>(au (gy (K:=K) (mg:=mg) (a:=a) T) hr T.fK (ae (aA ck (au (fS (K:=K) (mg:=mg) (a:=a) T) hr T.fj (ae (pv 3) (ae (pv 4) af))) (pv 2)) (ae (pv 1) af))))))))))),?_⟩
 wtm_at "cl";rw[show start BV [x0,x1]=[some x0,some x1,none,none,none,none]from rfl];obtain⟨p,k,m,rfl,rfl,hp,hk,h1,h8,q⟩:=h;wtm_at "ga";rename_i ra Ha ra0 ra1 Ea Ka Pa rb Hb rb0 rb1 Eb Kb Pb lc Hc nc Sc ec rd Hd rd0 rd1 Ed Kd Pd z hz;have E1:Exc p H Hd:=Ea.trans (Eb.trans (Sc.exc.trans Ed));have K1:bG H Hd:=Ka.trans (Kb.trans (Sc.keep.trans Kd));clear Ea Ka Pa Eb Kb Pb Sc ec nc Ed Kd hp;generalize hB:2+rb=B at *;have B2:2<=B/\B<=60:=by omega
 have hz1:1<=z/\z<=B:=by
   rcases hz with rfl | rfl
   . omega
   . rw[VC _ (by decide)];omega
 refine pL ⟨by omega,(Bd.jQ (by omega) (by omega)).mono (by decide)⟩ ?_
 have ha:1<=B.fdiv z/\B.fdiv z*z<=B/\B.fdiv z<=B:=by
   rw[VC _ (by omega)];refine⟨?_,uU _ (by omega),ug _ (by omega)⟩;exact(Int.le_ediv_iff_mul_le (by omega)).mpr (by omega)
 generalize B.fdiv z=a at *;obtain⟨a1,a2,a3⟩:=ha;k_few;obtain⟨n,hn⟩:∃n:Nat,1+ra=(n:Int):=⟨(1+ra).toNat,by omega⟩;rw[hn];refine Jp (n:=(n:Int)) (by omega) (by omega) (λD i ys σ' H'=>(∃o,σ'=[o,some (.int B),some (.int a),some (.ref p),some (.int z)])/\Hd D=none/\D≠p/\Exc p Hd H'/\bG Hd H'/\b_ H' p (k+1+1+1+(i:Int)) /\ ∃(us:List V)(xs:List Rat),H' D=some (.lst us)/\xs.length=i/\ak K H' us (xs.map N) /\ ∀x∈xs,eD x) ?_ ?_ ?_
 . intro D H' n s e
   exact⟨⟨_,rfl⟩,n,b_.ne n Pd,s.exc,s.keep,(Pd.same s).le (by omega),[],[],e,rfl,.nil,by simp⟩
 . rintro D i ys σ' H' hi ⟨⟨o,rfl⟩,hn',hne,hE,hK,hP,us,xs,hD,hl,ht,hm⟩
   k_few;rename_i r H6 r0 r1 E6 K6 P6;have t0:0<=r*a:=u7 r0 (by omega)
   have t1:r*a<B:=by
     have h1:(r+1)*a<=z*a:=WG (by omega) (by omega);rw[Int.add_mul,xF]at h1;have h2:z*a=a*z:=Int.mul_comm _ _;omega
   generalize r*a=t at *;k_few;rename_i v7 H7 x7 S7 i7 e7 b7;have hul:=ht.length;simp only[wm]at hul;have hD7:=S7 _ _ (E6.at hne hD);have px:eD x7:=by rw[e7];exact J0 (by omega) (by omega) (by omega)
   refine kQ hD7 (by omega) (λH8 E8 e8=>?_);have K8:bG H7 H8:=E8.keep hD7;refine⟨⟨_,rfl⟩,hn',hne,λb o hb h=>E8 b o (jj h hn') (S7 b o ((hE.trans E6) b o hb h)),(hK.trans K6).trans (S7.keep.trans K8),?_,us++[v7],xs++[x7],e8,by simp[hl],?_,?_⟩
   . obtain⟨x,y,z,e,h1,h2⟩:=P6
     exact⟨x,y,z,E8 p _ (WA hne) (S7 _ _ e),h1,by omega⟩
   . rw[vE]
     exact(ak.keep (K6.trans (S7.keep.trans K8)) _ _ (fQ _) ht).append (.cons (i7.fH K8) .nil)
   . intro y hy
     rcases Wk.mp hy with h | h
     . exact hm y h
     . rw[vc.mp h];exact px
 . rintro D ys σ' H' ⟨_,hn',hne,hE,hK,hP,us,xs,hD,hl,ht,hm⟩
   rw[wP]at hl hP;k_few
   have hfr:H D=none:=by
     cases e:H D with
     | none=>rfl
     | some o=>rw[E1 D o hne e]at hn';cases hn'
   exact q D H' us xs hfr (E1.trans hE) (K1.trans hK) (hP.le (by omega)) hD ht (by omega) (by omega) hm
def Ke(K:wb):Sp:=λvs H Q _=>∃x0,vs=[x0] /\ ∃(ra rb:Rat)(xs:List Rat),Is K H x0 (bD ra rb xs)/\dB ra rb xs/\(zev ra rb xs->∀H',ah H H'->Q .bj H') /\ ∀l H' es n w,pf ra rb xs es n w->H l=none->ah H H'->Is K H' (.ref l) (.list (gU ra rb xs es n w))->Q (.ref l) H'
theorem Zl{K:wb}{H:Hp}{Q:VK}{E:XK}{ra rb:Rat}{xs:List Rat}{v:V}(h:Is K H v (bD ra rb xs))(ok:dB ra rb xs)(qe:zev ra rb xs->∀H',ah H H'->Q .bj H')(q:∀l H' es n w,pf ra rb xs es n w->H l=none->ah H H'->Is K H' (.ref l) (.list (gU ra rb xs es n w))->Q (.ref l) H'):Ke K [v] H Q E:=⟨_,rfl,ra,rb,xs,h,ok,qe,q⟩
theorem zoV(T:Txt K mg a):aJ P w K mg base aS 14 a.Hi a.FY rT (Ke K):=by
 refine T.Gf.F.ok tO ?_ ?_;wtm_at "b1"
 refine⟨_,(ao (az 1 tO.nd g_)
     (ao (zzy (tb:=λW=>ly (DV (C8 K a) W (Dd (sU 0) CU)) (iX 1)) (th:=ly (tC .bj) (iX 1)) rfl rfl rfl T.Hg (λW pn E' hx=>by exact(av (az 1 tO.nd (zxj (UI T) (hr.mono (by decide)) rfl T.p7.g T.p7.F.kp T.p7.b hx (ae (pv 0) af))))) (λpn ex oe=>by exact(av (az 1 tO.nd g_))))
     (av (aE (pv 1))))),?_⟩
 wtm_at "cl";rw[show start Lw [x0]=[some x0,none]from rfl];obtain⟨ra,rb,xs,hw,ok,qe,q⟩:=h;o_head Ux (λσ' C o H'=>σ'=[some x0,some .bj]/\C=.ref a.fX/\zev ra rb xs/\ah H H') ?_ ?_
 . k_few
   refine UW hw ok (λF H' S=>⟨rfl,rfl,F,S⟩) (λl H' es n w P hl S i=>?_);k_few;exact q l H' es n w P hl S i
 . rintro σ' C o H' ⟨rfl,rfl,F,S⟩
   refine⟨T.RY,?_⟩;k_few;exact qe F H' S
theorem mZ{α : Type}[DecidableEq α]:∀{l m:List α},l.Nodup->(∀x∈l,x∈m)->l.length<=m.length
 | [],_,_,_=>Ww _
 | x::l,m,nd,h=>by
  have⟨h1,h2⟩:=WN.mp nd;have hx:=h x (wC ..);have:=mZ (m:=m.erase x) h2 λy hy=>(Xe (λe=>h1 (by rw[<- e];exact hy))).mpr (h y (wy _ hy))
  rw[xl hx]at this;have:=qk hx;rw[vo];omega
theorem J9{xs ys:List Rat}(nd:ys.Nodup)(h:∀y,y∈ys ↔ y∈xs):ys.length=(ai xs).length :=
 uI (mZ nd λx hx=>nJ ((h x).mp hx)) (mZ (EO xs) λx hx=>(h x).mpr (jG hx))
theorem Zh{a b:Rat}{xs:List Rat}(hp:cT xs)(h0:0∈xs)(h:(ai xs).length=1):d7 a b (aY xs) (bC xs)=true:=by
 obtain⟨hz,hn,hs,L⟩:=pK (a:=a) (b:=b) hp h0;have hl:(bC xs++[0]).length=1:=by rw[hz];exact h
 refine yj.mpr ⟨DD L.lF.pw L.one,λi hi=>?_⟩;have:i=0:=by omega
 subst this;have t:=zym (a:=a) (b:=b) (ns:=aY xs) (row:=bC xs++[0]) hl;unfold dA at t;rw[kG hi,hs,h];rw[hl]at t;rw[t];decide
theorem zuR{a b:Rat}{xs:List Rat}{w:String}(hp:cT xs)(h0:0∈xs)(h:eO a b xs=some w):d7 a b (aY xs) (bC xs)=true/\((w="one"/\(ai xs).length=1)\/(w="rests"/\cu a b (aY xs) (bC xs)=bC xs)\/(w="drawn"/\cu a b (aY xs) (bC xs)≠bC xs)):=by
 unfold eO at h
 split at h
 ·rename_i z
  exact⟨Zh hp h0 z,.inl ⟨(wQ h).symm,z⟩⟩
 ·split at h
  ·rename_i y
   refine⟨y,.inr ?_⟩
   split at h
   ·rename_i u
    exact .inl ⟨(wQ h).symm,u⟩
   ·rename_i u
    split at h
    ·exact .inr ⟨(wQ h).symm,u⟩
    ·cases h
  ·cases h
theorem zsx{a b:Rat}{xs:List Rat}(ok:aV a b)(hp:cT xs)(h0:0∈xs)(f:d7 a b (aY xs) (bC xs)=true):aj a b xs (ai xs).length=xs ↔ cu a b (aY xs) (bC xs)=bC xs:=by
 obtain⟨hz,hn,hs,L⟩:=pK (a:=a) (b:=b) hp h0;have L1:=(zV ok L hn f).1;rw[hs]at L1;have v1:=RD L1.pl L1.lF.pw L1.some
 constructor
 ·intro e
  rw[e,<- hz]at v1;exact(List.append_inj_left v1 (by rw[kK hn])).symm
 ·intro e
  have a1:=Bn L1 (bN a b xs _);have a2:=Bn L (n:=xs.length) rfl;rw[e]at a1;rw[<- a1,a2]
def Kp(K:wb):Sp:=λvs H Q _=>∃x0 x1,vs=[x0,x1] /\ ∃(a b:Rat)(xs:List Rat)(w:String),x1=.str (Wm w)/\Is K H x0 (bD a b xs)/\ft a b xs/\eO a b xs=some w/\(∀t,t<=(ai xs).length->Cm 3700 (aP a b xs t::aj a b xs t)) /\ ∀H',Q (.bl true) H'
theorem zqy{K:wb}{H:Hp}{Q:VK}{E:XK}{a b:Rat}{xs:List Rat}{w:String}{v:V}(h:Is K H v (bD a b xs))(ok:ft a b xs)(hw:eO a b xs=some w)(c:∀t,t<=(ai xs).length->Cm 3700 (aP a b xs t::aj a b xs t))(q:∀H',Q (.bl true) H'):Kp K [v,.str (Wm w)] H Q E:=⟨_,_,rfl,a,b,xs,w,rfl,h,ok,hw,c,q⟩
theorem ZM(T:Txt K mg a):aJ P w K mg base aS 6 a.Hw a.Gr yJ (Kp K):=by
 refine T.Gy.F.ok B5 ?_ ?_;wtm_at "b2"
 refine⟨_,(ao (az 2 B5.nd (bR (show aO _ (.builtin "len") (A_ w)from Lp) rfl T.z_len dE (ae (dQ (show aO _ (.type "set") (rL K w)from MG hu rfl) rfl T.z_set Ng (ae (ar (pv 0)) af)) af)))
     (ao (az 3 B5.nd (au (PZ T) hr T.Av (ae (pv 0) (ae (pv 2) af))))
     (ao (bP (bS (show aN _ (wU .NotEq) (fY K)from lq hu) (d4 rfl (cF.by (N':=["_law_row"]) (src:=[none]) rfl (show cV _ (aC zw).names ES ["_law_row"] [none]=true from by decide +kernel)) (gx (pv 3)) (λ_ _ _ _ _=>(bL (i:=0) (show(["_law_row"]:List Str).Nodup from by decide) rfl (Or.inl rfl))) (λ_ _ _ _ _=>(pY (bS (show aN _ (wU .NotEq) (fY K)from lq hu) (bR (show aO _ (.builtin "len") (cN K)from dX) rfl T.z_len dE (ae (ou (K:=K) cY (pv 0)) af)) ay (a_ _)))) (λ_ _ _ _ _=>(pv 0))) (e_ af) (a_ _)) (av (aE iZ)) bQ)
     (ao (bP (bS (show aN _ (wU .Eq) (cv K)from de hu) (pv 1) gm (a_ _)) (av (aE (fq (show aN _ (wU .Eq) (cv K)from de hu) (bR (show aO _ (.builtin "len") (cN K)from dX) rfl T.z_len dE (ae (ar (ar (ar (pv 3)))) af)) (bR (show aO _ (.builtin "len") (cN K)from dX) rfl T.z_len dE (ae (ar (pv 0)) af)) (a_ _)))) bQ)
     (av (aE (fq (show aN _ (wU .Eq) (cv K)from de hu) (fq (show aN _ (wU .Eq) (cv K)from de hu) (ar (dH cY (pv 3) (iA ib ay) (λ_ _=>rfl))) (ar (pv 0)) (a_ _)) (fq (show aN _ (wU .Eq) (cv K)from de hu) (pv 1) gm (a_ _)) (a_ _)))))))),?_⟩
 wtm_at "cl";rw[show start ES [x0,x1]=[some x0,some x1,none,none]from rfl];obtain⟨ra,rb,xs,wd,rfl,hw,ok,hwd,hc,q⟩:=h;obtain⟨fr,hcase⟩:=zuR ok.hp ok.h0 hwd;obtain⟨hz,hn,hs,L⟩:=pK (a:=ra) (b:=rb) ok.hp ok.h0;have hwv:=(zV ok.ok L hn fr).2.1;rw[hs]at hwv;have hbk:=zsx ok.ok ok.hp ok.h0 fr;have hvl:=jY xs;have hvp:=oS ok.h1;have h8:=ok.h8;o_head aD (j:=1) hw rfl (λv1 i1=>?_);o_head IG i1 (by omega) (λls H1 ws ys n1 S1 e1 t1 nd mem=>?_);have hyl:=J9 nd mem;have hwl:=t1.length;rw[wm]at hwl;o_head ⟨ls,ws,rfl,e1,?_⟩;rw[show ws.length=(ai xs).length by omega];o_head MK (hw.by S1) ok.ok.ba ok.ok.bb ok.h1 h8 (by omega) (by omega) (λt ht=>hc t (by omega)) (λlr H2 n2 S2 i2=>?_);rw[wP]at i2;obtain⟨lr',us,el,hs2,t2⟩:=cB.mp i2;cases el;have hul:=t2.length;rw[AS]at hul;o_head pD hs2 (λD i ys σ' H'=>(∃o,σ'=[o])/\H2 D=none/\ah H2 H'/\H' D=some (.lst ys)/\ys=[]) (λD H' n s e=>⟨⟨_,rfl⟩,n,s,e,rfl⟩) (λD i ys σ' H' h=>h.2.2.1.seq hs2) ?_ ?_
 . rintro D i x ys σ' H3 hx ⟨⟨o,rfl⟩,n3,S3,e3,rfl⟩
   obtain⟨hi,ix⟩:=kB t2 hx;rw[AS]at hi;rw[wa,Kr hi]at ix;have ix3:Is K H3 x (pk ra rb xs i):=ix.by S3;o_head aD (j:=1) ix3 rfl (λv4 i4=>?_);o_head jm i4 ?_;rw[wm,hwv i hi];k_few
   . rename_i z;exact absurd rfl z
   . exact⟨[],⟨_,rfl⟩,n3,S3,e3,rfl⟩
 . rintro D ys' σ' H3 ⟨_,n3,S3,e3,rfl⟩
   have i23:=i2.by S3;have hw3:=hw.by (S1.trans (S2.trans S3));o_head fi (by simp) (λl4 H4 n4 S4 e4=>?_);refine zvC (ds:=[]) (cB.mpr ⟨D,[],rfl,.of (S4 _ _ e3),.nil⟩) (cB.mpr ⟨l4,[],rfl,.of e4,.nil⟩) (Pw (n:=1) (ds:=[]) (by simp)) (by decide) ?_;rw[show(!([]:List wD).isEmpty)=false from rfl];have i24:=i23.by S4;have hw4:=hw3.by S4;clear i2 i23 hw hw3 hs2 t2 S3 S4 e3 e4 n3 n4;k_few;rcases hcase with⟨rfl,hone⟩ | ⟨rfl,hr⟩ | ⟨rfl,hr⟩
   . refine gp _ _ true (by rw[vb];decide) ?_
     o_head zzb (j:=0) i24 (d:=pk ra rb xs 0) (by rw[Kr (by omega)]) (λv5 i5=>?_);o_head aD (j:=1) i5 rfl (λv6 i6=>?_);have h0:=hwv 0 (by omega);have i6:Is K H4 v6 (kH (cf ra rb (aj ra rb xs 0))):=i6;rw[h0]at i6;o_head aD (j:=0) i6 rfl (λv7 i7=>?_);o_head Bu i7 ?_;o_head aD (j:=1) hw4 rfl (λv8 i8=>?_);o_head ZU i8 ?_
     have hall:(aZ xs.length (aQ xs) 0).length=xs.length:=by
       unfold aZ;rw[Xk.mpr (λw hw=>?_),vk];have:=(jL xs).lt w (wG.mp hw);exact decide_eq_true (by omega)
     rw[hall];k_few;rw[decide_eq_true rfl];exact q _
   . refine gp _ _ false (by rw[vb];decide) ?_
     k_few;obtain⟨k,hk⟩:∃k,(ai xs).length=k+1:=⟨(ai xs).length-1,by omega⟩;rw[hk,pS]at i24;refine mF i24 (λv5 i5=>?_);have i5:Is K H4 v5 (ml (aP ra rb xs (k+1)) (cf ra rb (aj ra rb xs k)) (aj ra rb xs (k+1))):=i5;rw[<- hk]at i5;o_head aD (j:=2) i5 rfl (λv6 i6=>?_);o_head aD (j:=1) hw4 rfl (λv7 i7=>?_);refine rP i6 i7 ?_;o_head gp _ _ true (by rw[vb];decide) ?_;refine Mo ?_;rw[decide_eq_true (hbk.mpr hr)];exact q _
   . refine gp _ _ false (by rw[vb];decide) ?_
     k_few;obtain⟨k,hk⟩:∃k,(ai xs).length=k+1:=⟨(ai xs).length-1,by omega⟩;rw[hk,pS]at i24;refine mF i24 (λv5 i5=>?_);have i5:Is K H4 v5 (ml (aP ra rb xs (k+1)) (cf ra rb (aj ra rb xs k)) (aj ra rb xs (k+1))):=i5;rw[<- hk]at i5;o_head aD (j:=2) i5 rfl (λv6 i6=>?_);o_head aD (j:=1) hw4 rfl (λv7 i7=>?_);refine rP i6 i7 ?_;o_head gp _ _ false (by rw[vb];decide) ?_;refine Mo ?_;rw[decide_eq_false (λe=>hr (hbk.mp e))];exact q _
def CZ(K:wb):Sp:=λvs H Q _=>∃x0 x1,vs=[x0,x1] /\ ∃(x:Rat)(t u:Int)(n:Nat),Is K H x0 (N x)/\Is K H x1 (.tuple [.int t,.int u])/\0<u/\ag n x/\n<=4400/\Bd 4400 t/\Bd 4400 u /\ ∀v H',ah H H'->Is K H' v (N (x+wz t u))->Q v H'
theorem zp0{K:wb}{H:Hp}{Q:VK}{E:XK}{x:Rat}{t u:Int}{v w:V}(h1:Is K H v (N x))(h2:Is K H w (.tuple [.int t,.int u]))(hu:0<u)(b1:ag 4400 x)(b2:Bd 4400 t)(b3:Bd 4400 u)(q:∀v H',ah H H'->Is K H' v (N (x+wz t u))->Q v H'):CZ K [v,w] H Q E:=⟨_,_,rfl,x,t,u,4400,h1,h2,hu,b1,wo _,b2,b3,q⟩
theorem zsi{K:wb}{H:Hp}{Q:VK}{E:XK}{x y:Rat}{v w:V}(h1:Is K H v (N x))(h2:Is K H w (N y))(b1:ag 4400 x)(b2:ag 4400 y)(q:∀v H',ah H H'->Is K H' v (N (x+y))->Q v H'):CZ K [v,w] H Q E :=
 zp0 h1 h2 (den_pos y) b1 b2.t b2.b (λv H' s i=>q v H' s (by rw[Vr]at i;exact i))
local macro_rules | `(tactic| wtm_at "gs")=>`(tactic| ((with_reducible apply zsi); (focus wtm_at "is"); (focus wtm_at "is"); (focus wtm_at "bdr"); (focus wtm_at "bdr"); intro _ _ _ _))
theorem Zz{K:wb}{H:Hp}{Q:VK}{v:V}{t u:Int}(h:Is K H v (.tuple [.int t,.int u]))(q:Q (.int t) H):cQ K v (.int 0) H Q:=aD (j:=0) h rfl (λx i=>by rw[cc.mp i];exact q)
theorem MC{K:wb}{H:Hp}{Q:VK}{v:V}{t u:Int}(h:Is K H v (.tuple [.int t,.int u]))(q:Q (.int u) H):cQ K v (.int 1) H Q:=aD (j:=1) h rfl (λx i=>by rw[cc.mp i];exact q)
theorem UJ(x:Rat){t u:Int}(hu:0<u):wz (x.num*u+t*(x.den:Int)) ((x.den:Int)*u)=x+wz t u:=by
 have hp:=vN (den_pos x) hu;refine fJ (by omega) ?_;have k1:=jK x;have k2:=cD t (show u≠0 by omega);have e1:((x.num*u+t*(x.den:Int):Int):Rat)=(x.num:Rat)*(u:Rat)+(t:Rat)*((x.den:Int):Rat):=by push_cast;rfl
 have e2:(((x.den:Int)*u:Int):Rat)=((x.den:Int):Rat)*(u:Rat):=by push_cast;rfl
 rw[e1,e2,<- k1,<- k2]
 grind
theorem yU(T:Txt K mg a):aJ P w K mg base aS 2 a.HN a.GK rS (CZ K):=by
 refine T.nB.F.ok zss ?_ ?_;wtm_at "b2";refine⟨_,(av (aE (au (gy T) hr T.fK (ae (aA cb (aA ck (ar (pv 0)) (ar (pv 1))) (aA ck (ar (pv 1)) (ar (pv 0)))) (ae (aA ck (ar (pv 0)) (ar (pv 1))) af))))),?_⟩;wtm_at "cl";rw[show start Et [x0,x1]=[some x0,some x1]from rfl];obtain⟨x,t,u,n,hx,hy,hu,bx,hn,bt,bu,q⟩:=h;obtain⟨bx1,bx2⟩:=bx.mono hn;have hp:=vN (den_pos x) hu;o_head MC hy ?_;o_head Zz hy ?_;o_head MC hy ?_;o_head lS hp ((bx2.mul bu).mono (by decide)) (λv H' s hv=>?_);rw[UJ x hu]at hv;exact q v H' s hv
def PY(K:wb):Sp:=λvs H Q _=>∃x0 x1,vs=[x0,x1] /\ ∃(x y:Rat)(m n:Nat),Is K H x0 (N x)/\Is K H x1 (N y)/\ag m x/\ag n y/\m+n<=8999 /\ ∀v H',ah H H'->Is K H' v (N (x-y))->Q v H'
theorem Lm{K:wb}{H:Hp}{Q:VK}{E:XK}{x y:Rat}{m n:Nat}{v w:V}(h1:Is K H v (N x))(h2:Is K H w (N y))(b1:ag m x)(b2:ag n y)(hmn:m+n<=8999)(q:∀v H',ah H H'->Is K H' v (N (x-y))->Q v H'):PY K [v,w] H Q E:=⟨_,_,rfl,x,y,m,n,h1,h2,b1,b2,hmn,q⟩
theorem Np(T:Txt K mg a):aJ P w K mg base aS 2 a.HF a.Ga tH (PY K):=by
 refine T.Ar.F.ok Zg ?_ ?_;wtm_at "b2";refine⟨_,(av (aE (au (gy T) hr T.fK (ae (aA jr (aA ck (ar (pv 0)) (ar (pv 1))) (aA ck (ar (pv 1)) (ar (pv 0)))) (ae (aA ck (ar (pv 0)) (ar (pv 1))) af))))),?_⟩;wtm_at "cl";rw[show start BX [x0,x1]=[some x0,some x1]from rfl];obtain⟨x,y,m,n,hx,hy,bx,by',hmn,q⟩:=h;have cx:=bx.mono (show m<=8999 by omega);have cy:=by'.mono (show n<=8999 by omega);o_head lS (Ri x y) ((bx.b.mul by'.b).mono hmn) (λv H' s hv=>?_);rw[Nm]at hv;exact q v H' s hv
def Ll(K:wb):Sp:=λvs H Q _=>∃x0 x1,vs=[x0,x1] /\ ∃(x y:Rat),Is K H x0 (N x)/\Is K H x1 (N y)/\ag 4000 x/\ag 4000 y /\ ∀v H',ah H H'->Is K H' v (N (x*y))->Q v H'
theorem UH{K:wb}{H:Hp}{Q:VK}{E:XK}{x y:Rat}{v w:V}(h1:Is K H v (N x))(h2:Is K H w (N y))(b1:ag 4000 x)(b2:ag 4000 y)(q:∀v H',ah H H'->Is K H' v (N (x*y))->Q v H'):Ll K [v,w] H Q E:=⟨_,_,rfl,x,y,h1,h2,b1,b2,q⟩
local macro_rules | `(tactic| wtm_at "gs")=>`(tactic| ((with_reducible apply UH); (focus wtm_at "is"); (focus wtm_at "is"); (focus wtm_at "bdr"); (focus wtm_at "bdr"); intro _ _ _ _))
theorem CO(T:Txt K mg a):aJ P w K mg base aS 2 a.Gj a.Fp zU (Ll K):=by
 refine T.p5.F.ok zl0 ?_ ?_;wtm_at "b2";refine⟨_,(av (aE (au (gy T) hr T.fK (ae (aA ck (ar (pv 0)) (ar (pv 1))) (ae (aA ck (ar (pv 0)) (ar (pv 1))) af))))),?_⟩;wtm_at "cl";rw[show start C4 [x0,x1]=[some x0,some x1]from rfl];obtain⟨x,y,hx,hy,⟨bx1,bx2⟩,⟨by1,by2⟩,q⟩:=h;o_head lS (Ri x y) ((bx2.mul by2).mono (by decide)) (λv H' s hv=>?_);rw[PU]at hv;exact q v H' s hv
def Lj(K:wb):Sp:=λvs H Q _=>∃x0 x1,vs=[x0,x1] /\ ∃(x y:Rat)(m n:Nat),Is K H x0 (N x)/\Is K H x1 (N y)/\ag m x/\ag n y/\m+n<=8998/\y≠0 /\ ∀v H',ah H H'->Is K H' v (N (x / y))->Q v H'
theorem zqs{K:wb}{H:Hp}{Q:VK}{E:XK}{x y:Rat}{m n:Nat}{v w:V}(h1:Is K H v (N x))(h2:Is K H w (N y))(b1:ag m x)(b2:ag n y)(hmn:m+n<=8998)(hy:y≠0)(q:∀v H',ah H H'->Is K H' v (N (x / y))->Q v H'):Lj K [v,w] H Q E:=⟨_,_,rfl,x,y,m,n,h1,h2,b1,b2,hmn,hy,q⟩
theorem UA{p q:Int}(h:q≠0):wz (0-p) (0-q)=wz p q:=by
 refine fJ (by omega) ?_;have k:=cD p h;have e1:((0-p:Int):Rat) = -(p:Rat):=by rw[XI];push_cast;rfl
 have e2:((0-q:Int):Rat) = -(q:Rat):=by rw[XI];push_cast;rfl
 rw[e1,e2,<- k]
 grind
theorem Tv(T:Txt K mg a):aJ P w K mg base aS 2 a.Hn a.F8 yq (Lj K):=by
 refine T.GA.F.ok zq5 ?_ ?_;wtm_at "b2"
 refine⟨_,(ao (bP (bS lY (ar (pv 1)) ay (a_ _)) (av (aE (au (gy T) hr T.fK (ae (aA jr ay (aA ck (ar (pv 0)) (ar (pv 1)))) (ae (aA jr ay (aA ck (ar (pv 0)) (ar (pv 1)))) af))))) bQ)
     (av (aE (au (gy T) hr T.fK (ae (aA ck (ar (pv 0)) (ar (pv 1))) (ae (aA ck (ar (pv 0)) (ar (pv 1))) af)))))),?_⟩
 wtm_at "cl";rw[show start B7 [x0,x1]=[some x0,some x1]from rfl];obtain⟨x,y,m,n,hx,hy,bx,by',hmn,h0,q⟩:=h;have cx:=bx.mono (show m<=8999 by omega);have cy:=by'.mono (show n<=8999 by omega);have hn:=rG h0;have bb:=bx.b.mul by'.t;have hd:=den_pos x;have bo:Bd 8999 (0-(x.den:Int)*y.num):=by rw[XI];exact bb.neg.mono (by omega)
 k_few
 . rename_i z
   have hp:0<0-(x.den:Int)*y.num:=by
     have:=Int.mul_neg_of_pos_of_neg hd z;omega
   refine lS hp bo (λv H' s hv=>?_);rw[UA (by omega),JS]at hv;exact q v H' s hv
 . rename_i z
   refine lS (vN hd (by omega)) (bb.mono (by omega)) (λv H' s hv=>?_);rw[JS]at hv;exact q v H' s hv
def OC(K:wb):Sp:=λvs H Q _=>∃x0 x1,vs=[x0,x1] /\ ∃(a b:Rat)(n:Int),x1=.int n/\Is K H x0 (R a b)/\ag 10 a/\ag 10 b/\0<=n/\n<=64 /\ ∀v H',ah H H'->Is K H' v (R (a^n.toNat) (aB a b n.toNat))->Q v H'
theorem Uy{K:wb}{H:Hp}{Q:VK}{E:XK}{a b:Rat}{n:Int}{v:V}(h1:Is K H v (R a b))(b1:ag 10 a)(b2:ag 10 b)(h0:0<=n)(h64:n<=64)(q:∀v H',ah H H'->Is K H' v (R (a^n.toNat) (aB a b n.toNat))->Q v H'):OC K [v,.int n] H Q E:=⟨_,_,rfl,a,b,n,rfl,h1,b1,b2,h0,h64,q⟩
theorem znf(T:Txt K mg a):aJ P w K mg base aS 3 a.GU a.FA Ah (OC K):=by
 refine T.F0.F.ok rN ?_ ?_;wtm_at "b2"
 refine⟨_,(ao (az 2 rN.nd (br (ae (br (ae ay (ae ay af))) (ae (br (ae ay (ae ay af))) af))))
     (ao (gk vL rfl (jH rfl T.z_range (ae (pv 1) af)) (bL (i:=3) rN.nd rfl (Or.inl rfl)) (av (az 2 rN.nd (br (ae (au (CO T) hr T.p5 (ae (ar (pv 0)) (ae (ar (pv 2)) af))) (ae (au (yU T) hr T.nB (ae (au (CO T) hr T.p5 (ae (ar (pv 0)) (ae (ar (pv 2)) af))) (ae (ar (pv 0)) af))) af))))))
     (av (aE (pv 2))))),?_⟩
 wtm_at "cl";rw[show start MM [x0,x1]=[some x0,some x1,none,none]from rfl];obtain⟨r,s',n,rfl,hr',ba,bb,h0,h64,q⟩:=h;o_head d_ (r:=1) rfl rfl (λv1 H1 S1 i1=>?_);o_head d_ (r:=0) rfl rfl (λv2 H2 S2 i2=>?_);o_head AO (i1.by S2) i2 (λv3 H3 S3 i3=>?_);o_head kT (n:=n) (by omega) (by omega) (λi σ H'=>∃(f:V)(o:Option V),σ = [some x0,some (.int n),some f,o]/\ah H H'/\Is K H' f (R (r^i) (aB r s' i))) ⟨_,_,rfl,S1.trans (S2.trans S3),by rw[qw];exact i3⟩ ?_ ?_
 . rintro i σ H' hi ⟨f,o,rfl,S,hf⟩
   have hr1:=hr'.by S;have bf:ag 650 (r^i):=(ba.pow i).mono (by omega);have bg:ag 1400 (aB r s' i):=(ba.aB bb i).mono (by omega);o_head AO (a:=r*r^i) (b:=r*aB r s' i+s') (by wtm_at "is") (by wtm_at "is") (λv4 H4 S4 i4=>?_);o_head ⟨_,_,rfl,ah.back S4 (by wtm_at "same"),?_⟩;rw[WQ,Qb];exact i4
 . rintro σ H' ⟨f,o,rfl,S,hf⟩
   k_few;exact q _ _ S hf
def gr(a b:Rat)(ns:List Int)(xs:List Rat):Nat->Rat
 | 0=>0
 | k+1=>gr a b ns xs k+(1-(aH a b ns (xs++[0]) k).getD k 0)
def iG(a b:Rat)(ns:List Int)(xs:List Rat)(k:Nat):List Rat:=(wq k).map λj=>(aH a b ns (xs++[0]) (j+1)).getD ((j+1) % ns.length) 0
theorem zuS(a b:Rat)(ns:List Int)(xs:List Rat)(k:Nat):iG a b ns xs (k+1)=iG a b ns xs k++[(aH a b ns (xs++[0]) (k+1)).getD ((k+1) % ns.length) 0]:=by
 unfold iG;rw[Qu,vE];rfl
theorem EK{K:wb}{H:Hp}{us:List V}{u:V}{xs:List Rat}{x:Rat}(h:ak K H us (xs.map N))(k:Is K H u (N x)):ak K H (us++[u]) ((xs++[x]).map N):=by
 rw[vE];exact h.append (.cons k .nil)
theorem zyZ{K:wb}{H:Hp}{Q:VK}{p:wf}{ns:List Int}{m:Int}(h:aK K H p (ns.map V.int))(h0:0<=m)(h1:m<ns.length)(q:Q (.int (ns.getD m.toNat 0)) H):cQ K (.ref p) (.int m) H Q:=by
 obtain⟨n,rfl⟩:∃n:Nat,m=(n:Int):=⟨m.toNat,by omega⟩;refine gY h (j5 (j:=n) (v:=.int (ns.getD n 0)) ?_) q;rw[wx,wa,wc (by omega)]
 rfl
def BG(K:wb):Sp:=λvs H Q _=>∃x0 x1 x2,vs=[x0,x1,x2] /\ ∃(a b:Rat)(ns:List Int)(xs:List Rat)(p1:wf),x1=.ref p1/\Is K H x0 (R a b)/\aK K H p1 (ns.map V.int)/\(Is K H x2 (LN xs)\/Is K H x2 (TN xs))/\cz a b ns xs/\(∀k,k<=ns.length->Cm 3500 (aH a b ns (xs++[0]) k))/\(∀k,k<ns.length->ag 4300 (gr a b ns xs k)) /\ ∀t lb vt lh us hs H',ah H H'->H' t=some (.tup [.ref lb,vt,.ref lh])->H' lb=some (.lst us)->ak K H' us ((cu a b ns xs).map N)->Is K H' vt (N (gr a b ns xs ns.length))->H lh=none->H' lh=some (.lst hs)->ak K H' hs ((iG a b ns xs ns.length).map N)->Q (.ref t) H'
theorem Zk{K:wb}{H:Hp}{Q:VK}{E:XK}{a b:Rat}{ns:List Int}{xs:List Rat}{v u:V}{p1:wf}(h1:Is K H v (R a b))(h2:aK K H p1 (ns.map V.int))(h3:Is K H u (LN xs)\/Is K H u (TN xs))(ok:cz a b ns xs)(hrow:∀k,k<=ns.length->Cm 3500 (aH a b ns (xs++[0]) k))(htm:∀k,k<ns.length->ag 4300 (gr a b ns xs k))(q:∀t lb vt lh us hs H',ah H H'->H' t=some (.tup [.ref lb,vt,.ref lh])->H' lb=some (.lst us)->ak K H' us ((cu a b ns xs).map N)->Is K H' vt (N (gr a b ns xs ns.length))->H lh=none->H' lh=some (.lst hs)->ak K H' hs ((iG a b ns xs ns.length).map N)->Q (.ref t) H'):BG K [v,.ref p1,u] H Q E:=⟨_,_,_,rfl,a,b,ns,xs,p1,rfl,h1,h2,h3,ok,hrow,htm,q⟩
theorem zoW{K:wb}{H:Hp}{Q:VK}{E:XK}{a b:Rat}{ns:List Int}{xs:List Rat}{v u:V}{p1:wf}(h1:Is K H v (R a b))(h2:aK K H p1 (ns.map V.int))(h3:Is K H u (LN xs)\/Is K H u (TN xs))(ok:cz a b ns xs)(hrow:∀k,k<=ns.length->Cm 3500 (aH a b ns (xs++[0]) k))(htm:∀k,k<ns.length->ag 4300 (gr a b ns xs k))(q:∀v H',ah H H'->Is K H' v (.tuple [LN (cu a b ns xs),N (gr a b ns xs ns.length),LN (iG a b ns xs ns.length)])->Q v H'):BG K [v,.ref p1,u] H Q E :=
 Zk h1 h2 h3 ok hrow htm (λt lb vt lh us hs H' S et eb tb it _ eh th=>q (.ref t) H' S (bM.mpr ⟨t,_,rfl,.of et,.cons (c_ eb tb) (.cons it (.cons (c_ eh th) .nil))⟩))
theorem Yh{m:Nat}{row:List Rat}(c:Cm m row){j k:Nat}(hj:j<row.length)(hk:k<row.length):ag (m+2) (row.getD j 0+(1-row.getD k 0)):=by
 have c0:Cm m (0::row):=c.jO λy hy=>by rcases wK.mp hy with rfl | hy;(exact .inr rfl);exact .inl hy
 exact(c0.rise (GM.getD_mem hk)).eW (wy _ (wW.mpr ⟨_,GM.getD_mem hj,rfl⟩))
theorem Y6(T:Txt K mg a):aJ P w K mg base aS 4 a.Hl a.FZ tU (BG K):=by
 refine T.Gv.F.ok jd ?_ ?_;wtm_at "b3"
 refine⟨_,(ao (az 3 jd.nd (aA cb (dQ (show aO _ (.type "list") (kg K)from yB) rfl T.z_list mG (ae (pv 2) af)) (e_ (ae (br (ae ay (ae ay af))) af))))
     (ao (az 4 jd.nd (br (ae ay (ae ay af))))
     (ao (az 5 jd.nd (e_ af))
     (ao (gk vL rfl (jH rfl T.z_range (ae (bR (show aO _ (.builtin "len") (cN K)from dX) rfl T.z_len dE (ae (pv 1) af)) af)) (bL (i:=6) jd.nd rfl (Or.inl rfl)) (ao (az 7 jd.nd (au (Np T) hr T.Ar (ae (br (ae ay (ae ay af))) (ae (dH cY (pv 3) (pv 6) (λ_ _=>rfl)) af))))
     (ao (az 4 jd.nd (au (yU T) hr T.nB (ae (pv 4) (ae (pv 7) af))))
     (ao (az 8 jd.nd (au (znf T) hr T.F0 (ae (pv 0) (ae (dH cY (pv 1) (pv 6) (λ_ _=>rfl)) af))))
     (ao (lP (i:=9) jd.nd rfl (Or.inl rfl) rfl (cF.by (N':=["_law_phase","_law_wait"]) (src:=[none,some 7]) rfl (show cV _ (aC oC).names sX ["_law_phase","_law_wait"] [none,some 7]=true from by decide +kernel)) (gx (pv 3)) (λ_ _ _ _ _=>(bL (i:=0) (show(["_law_phase","_law_wait"]:List Str).Nodup from by decide) rfl (Or.inl rfl))) (λ_ _ _ _ _=>dY) (λ_ _ _ _ _=>(au (yU (K:=K) (mg:=mg) (a:=a) T) hr T.nB (ae (pv 0) (ae (pv 1) af)))))
     (ao (lP (i:=3) jd.nd rfl (Or.inl rfl) rfl (cF.by (N':=["_law_phase","_law_often"]) (src:=[none,some 8]) rfl (show cV _ (aC oC).names sX ["_law_phase","_law_often"] [none,some 8]=true from by decide +kernel)) (gx (pv 9)) (λ_ _ _ _ _=>(bL (i:=0) (show(["_law_phase","_law_often"]:List Str).Nodup from by decide) rfl (Or.inl rfl))) (λ_ _ _ _ _=>dY) (λ_ _ _ _ _=>(au (yU (K:=K) (mg:=mg) (a:=a) T) hr T.nB (ae (au (CO (K:=K) (mg:=mg) (a:=a) T) hr T.p5 (ae (ou (K:=K) cY (pv 1)) (ae (pv 0) af))) (ae (ou (K:=K) cY (pv 1)) af)))))
     (ao (mC (br (ae ay (ae ay af))) (pA (pv 3) (pv 6) oq))
     (av (mD (md WM WK WL kE (pv 5) (ae (dH cY (pv 3) (aA gv (aA cb (pv 6) ay) (bR (show aO _ (.builtin "len") (cN K)from dX) rfl T.z_len dE (ae (pv 1) af))) (λ_ _=>rfl)) af)))))))))))
     (av (aE (br (ae (pE nW (pv 3) nM (pb (iA ib ay))) (ae (pv 4) (ae (pv 5) af)))))))))),?_⟩
 wtm_at "cl";rw[show start sX [x0,x1,x2]=[some x0,some x1,some x2,none,none,none,none,none,none,none]from rfl];obtain⟨ra,rb,ns,xs,p1,rfl,hr',hn',hp',ok,hrow,htm,q⟩:=h;have hlen:=ok.len;have hfew:=ok.bX;o_head zvr hp' (λl1 H1 us hl1 S1 e1 t1=>?_);have hul:=t1.length;rw[wm]at hul;o_head d_ (r:=0) rfl rfl (λv2 H2 S2 i2=>?_);o_head fi (by simp) (λl3 H3 hl3 S3 e3=>?_);refine nj (S3 _ _ (S2 _ _ e1)) e3 (Va (iO (by simp;omega))) (λlp H4 hl4 S4 e4=>?_);o_head d_ (r:=0) rfl rfl (λv5 H5 S5 i5=>?_);o_head fi (by simp) (λlh H6 hlh S6 e6=>?_);have T4:ah H H4:=S1.trans (S2.trans (S3.trans S4));have T6:ah H H6:=T4.trans (S5.trans S6);have t6:ak K H6 (us++[v2]) ((xs++[0]).map N):=EK (ak.same (S2.trans (S3.trans (S4.trans (S5.trans S6)))) _ _ t1) (i2.by (S3.trans (S4.trans (S5.trans S6))));have e46:=S6 _ _ (S5 _ _ e4);have hD:=iW (T4.trans S5) hlh;have neph:lp≠lh:=λz=>by subst z;rw[S5 _ _ e4]at hlh;cases hlh
 have i56:=i5.by S6;clear S1 S2 S3 S4 S5 S6 e1 e3 e4 t1 i2 i5 hl1 hl3 hl4 hlh T4;o_head jN (T6.seq hn') ?_;rw[wm];refine kT (n:=(ns.length:Int)) (by omega) (by omega) (λk σ H'=>∃lp vt o6 o7 o8 o9 us hs,σ = [some x0,some (.ref p1),some x2,some (.ref lp),some vt,some (.ref lh),o6,o7,o8,o9]/\ah H H'/\lp≠lh/\H' lp=some (.lst us)/\ak K H' us ((aH ra rb ns (xs++[0]) k).map N)/\Is K H' vt (N (gr ra rb ns xs k))/\H' lh=some (.lst hs)/\ak K H' hs ((iG ra rb ns xs k).map N)) ⟨lp,v5,_,_,_,_,_,[],rfl,T6,neph,e46,t6,i56,e6,.nil⟩ ?_ ?_
 . rintro k σ H7 hk ⟨lp,vt,o6,o7,o8,o9,us,hs,rfl,S7,neph,e7,t7,it7,h7,th7⟩
   have hk':k<ns.length:=by simpa using hk
   have b1:=htm k hk';have hmk:=hrow k (by omega);have hrl:(aH ra rb ns (xs++[0]) k).length=ns.length:=by rw[cJ,wT];simp;omega
   have e8:aH ra rb ns (xs++[0]) (k+1)=cZ ra rb (ns.getD k 0).toNat (aH ra rb ns (xs++[0]) k) k:=rfl;have et:gr ra rb ns xs (k+1)=gr ra rb ns xs k+(1-(aH ra rb ns (xs++[0]) k).getD k 0):=rfl;have eh:=zuS ra rb ns xs k;have bb:∀j,ag 3500 ((aH ra rb ns (xs++[0]) k).getD j 0):=λj=>hmk.get j
   have hnk:=ok.n0 (ns.getD k 0) (by rw[wa,wc hk'];exact vJ _);generalize aH ra rb ns (xs++[0]) k=row at *;have bw:ag 3502 (1-row.getD k 0):=(ag.one.sub (bb k)).mono (by decide);have bk:=bb k;o_head d_ (r:=1) rfl rfl (λv8 H8 S8 i8=>?_);o_head jW (c_ (S8 _ _ e7) (ak.same S8 _ _ t7)) (by omega) (by omega) (λv9 i9=>?_);rw[wP]at i9;have it8:=it7.by S8;o_head Lm i8 i9 ag.one bk (by decide) (λv10 H10 S10 i10=>?_);have it10:=it8.by S10;k_few;rename_i v11 H11 S11 i11;have T11:=S8.trans (S10.trans S11);refine zyZ (T11.seq (S7.seq hn')) (by omega) (by omega) ?_;rw[wP];o_head Uy ((hr'.by S7).by T11) ok.ba ok.bb hnk.1 hnk.2 (λv12 H12 S12 i12=>?_);have T12:=T11.trans S12;have bf:ag 700 (ra^(ns.getD k 0).toNat):=(ok.ba.pow _).mono (by omega);have bg:ag 1500 (aB ra rb (ns.getD k 0).toNat):=(ok.ba.aB ok.bb _).mono (by omega);have i1012:=i10.by (S11.trans S12);have i1112:=i11.by S12;have e12:=T12 _ _ e7;have t12:ak K H12 us (row.map N):=ak.same T12 _ _ t7;have h12:=T12 _ _ h7;have th12:ak K H12 hs ((iG ra rb ns xs k).map N):=ak.same T12 _ _ th7;have X12:=S7.trans T12;have hul:us.length=row.length:=by rw[t12.length,wm]
   rw[<- et]at i1112;clear S8 S10 S11 S12 T11 T12 i8 i9 i10 i11 e7 t7 h7 th7 it7 it8;o_head kr (.of e12) (o0:=none) (tl:=[some v10]) rfl (λj v H=>Is K H v (N ((row.map λx=>x+(1-row.getD k 0)).getD j 0))) ?_ ?_
   . rintro D j x ys o H1 hx' inv
     obtain⟨hj,ix⟩:=df t12 hx';have ix1:=ix.by inv.same;have jv:=i1012.by inv.same;have bx:=bb j;k_few;rename_i v4 H4 S4 iv4;exact eU inv (by omega) eZ ⟨_,rfl⟩ S4 (by rw[lQ hj];exact iv4)
   . rintro D ys H13 hn13 S13 e13 hl13 hr13
     have hyl:ys.length=row.length:=by omega
     have t13:ak K H13 ys ((row.map λx=>x+(1-row.getD k 0)).map N):=fE (by rw[wm];exact hyl) hr13;have hn0:H12 D=none:=hn13;o_head kr (.of e13) (o0:=none) (tl:=[some v12]) rfl (λj v H=>Is K H v (N ((row.map λx=>push ra rb (ns.getD k 0).toNat (x+(1-row.getD k 0))).getD j 0))) ?_ ?_
     . rintro D2 j x zs o H1 hx' inv
       obtain⟨hj,ix⟩:=df t13 hx';rw[wm]at hj;rw[lQ hj]at ix;have ix1:=ix.by inv.same;have jv:=(i12.by S13).by inv.same;have bx:ag 3502 (row.getD j 0+(1-row.getD k 0)):=Yh hmk hj (by omega);k_few;rename_i v4 H4 S4 iv4 v5 iv5 v6 H6 S6 iv6;exact eU inv (by omega) eZ ⟨_,rfl⟩ (S4.trans S6) (by rw[lQ hj,gB];exact iv6)
     . rintro D2 zs H14 hn14 S14 e14 hl14 hr14
       have hzl:zs.length=row.length:=by omega
       have T14:=S13.trans S14;o_head d_ (r:=0) rfl rfl (λv15 H15 S15 i15=>?_);o_head r8 (j:=k) (S15 _ _ e14) (by unfold gG;rw[if_pos (by omega),if_pos (by omega)];simp) (λH16 E16 e16=>?_);have hD2:H12 D2=none:=iW S13 hn14;have ne2:lh≠D2:=λz=>by subst z;rw[h12]at hD2;cases hD2
       have hDH:=iW X12 hD2;have T15:=T14.trans S15;have h16:=E16 lh _ ne2 (T15 _ _ h12);have K16:bG H15 H16:=E16.keep (S15 _ _ e14)
       have t16:ak K H16 (zs.set k v15) ((cZ ra rb (ns.getD k 0).toNat row k).map N):=by
         refine fE (by rw[Vw,gI];exact hzl) λj v hv=>?_
         rw[VH]at hv
         by_cases hij:k=j
         . subst hij
           rw[if_pos rfl,if_pos (by omega)]at hv;cases hv;rw[fF _ _ _ _ _ _ (by omega),if_pos rfl];exact i15.fH K16
         . rw[if_neg hij]at hv
           have hj:j<row.length:=by
             rcases wB j zs.length with z | z
             . omega
             . rw[wL z]at hv;cases hv
           have hz:=hr14 j v hv;rw[lQ hj]at hz;rw[fF _ _ _ _ _ _ hj,if_neg (WA hij)];exact(hz.by S15).fH K16
       rw[<- e8]at t16;have th16:ak K H16 hs ((iG ra rb ns xs k).map N):=ak.keep (T15.keep.trans K16) _ _ (fQ _) th12;have i1116:=(i1112.by T15).fH K16;have X16:ah H H16:=(X12.trans T15).grow hDH E16;have hrl2:(aH ra rb ns (xs++[0]) (k+1)).length=ns.length:=by rw[cJ,wT];simp;omega
       have hhl:hs.length=k:=by
         have:=th16.length;rw[wm]at this;unfold iG at this
         simpa using this
       clear hr14 e14 hn14 S14 S15 T14 T15 S13 e13 t13 hr13 hn13 i12 i1012 i1112 e12 t12 h12 th12 i15;o_head kS (aK.of h16) ?_;o_head jN (X16.seq hn') ?_;rw[wm];have hn0':(0:Int)<(ns.length:Int):=by omega
       k_few;have em:((k:Int)+1) % (ns.length:Int)=(((k+1) % ns.length:Nat):Int):=by push_cast;rfl
       have hmd:(k+1) % ns.length<ns.length:=Qe _ (by omega);rw[em];refine jW (c_ e16 t16) (by omega) (by omega) (λv17 i17=>?_);rw[wP]at i17;o_head kO h16 (by omega) (λH18 E18 e18=>?_);have K18:=E18.keep h16;o_head ⟨D2,_,_,_,_,_,_,hs++[v17],rfl,X16.grow hD E18,WA ne2,E18 D2 _ (WA ne2) e16,ak.keep K18 _ _ (fQ _) t16,i1116.fH K18,e18,?_⟩;rw[eh];exact EK (ak.keep K18 _ _ (fQ _) th16) (i17.fH K18)
 . rintro σ H7 ⟨lp,vt,o6,o7,o8,o9,us,hs,rfl,S7,neph,e7,t7,it7,h7,th7⟩
   o_head yD (c_ e7 t7) (λl20 H20 ys20 n20 S20 e20 t20=>?_);rw[C0,<- Q7]at t20;o_head mz (by simp) (λt21 H21 n21 S21 e21=>?_);exact q t21 l20 vt lh ys20 hs H21 (S7.trans (S20.trans S21)) e21 (S21 _ _ e20) (ak.same S21 _ _ t20) (it7.by (S20.trans S21)) hD ((S20.trans S21) _ _ h7) (ak.same (S20.trans S21) _ _ th7)
def Ji(K:wb):Sp:=λvs H Q _=>∃x0 x1,vs=[x0,x1] /\ ∃(a:Rat)(n:Int)(k:Nat),x1=.int n/\Is K H x0 (N a)/\ag k a/\k<=4000/\0<=n/\n<=100/\k*n.toNat<=4000 /\ ∀v H',ah H H'->Is K H' v (N (a^n.toNat))->Q v H'
theorem Tr{K:wb}{H:Hp}{Q:VK}{E:XK}{a:Rat}{n:Int}{k:Nat}{v:V}(h:Is K H v (N a))(b:ag k a)(hk:k<=4000)(n0:0<=n)(n1:n<=100)(hkn:k*n.toNat<=4000)(q:∀v H',ah H H'->Is K H' v (N (a^n.toNat))->Q v H'):Ji K [v,.int n] H Q E:=⟨_,_,rfl,a,n,k,rfl,h,b,hk,n0,n1,hkn,q⟩
theorem C9{k:Nat}{x:Int}(h:Bd k x):∀n:Nat,Bd (k*n+1) (x^n)
 | 0=>⟨by simp⟩
 | n+1=>by
  rw[V3];exact((C9 h n).mul h).mono (by rw[QN];omega)
theorem Ym(T:Txt K mg a):aJ P w K mg base aS 1 a.Hh a.FJ yn (Ji K):=by
 refine T.Gq.F.ok lW ?_ ?_;wtm_at "b2"
 refine⟨_,(ao (az 2 lW.nd ay)
     (ao (az 3 lW.nd ay)
     (ao (gk vL rfl (jH rfl T.z_range (ae (pv 1) af)) (bL (i:=4) lW.nd rfl (Or.inl rfl)) (ao (az 2 lW.nd (aA ck (pv 2) (ar (pv 0))))
     (av (az 3 lW.nd (aA ck (pv 3) (ar (pv 0)))))))
     (av (aE (br (ae (pv 2) (ae (pv 3) af)))))))),?_⟩
 wtm_at "cl";rw[show start Jr [x0,x1]=[some x0,some x1,none,none,none]from rfl];obtain⟨ra,n,kk,rfl,hx,ba,hk4,n0,n1,hkn,q⟩:=h;have bt:Bd 4000 ra.num:=ba.t.mono hk4;have bd:Bd 4000 (ra.den:Int):=ba.b.mono hk4;o_head kT (n:=n) (by omega) (by omega) (λi σ H'=>∃o,σ = [some x0,some (.int n),some (.int (ra.num^i)),some (.int ((ra.den:Int)^i)),o]/\H'=H) ⟨none,by rw[Qw,Qw],rfl⟩ ?_ ?_
 . rintro i σ H' hi ⟨o,rfl,rfl⟩
   have hki:kk*i<=kk*n.toNat:=QC _ (by omega);have b1:Bd 4001 (ra.num^i):=(C9 ba.t i).mono (by omega);have b2:Bd 4001 ((ra.den:Int)^i):=(C9 ba.b i).mono (by omega);have e1:ra.num^(i+1)=ra.num^i*ra.num:=V3 ..;have e2:(ra.den:Int)^(i+1)=(ra.den:Int)^i*(ra.den:Int):=V3 ..;generalize ra.num^i=t at *;generalize (ra.den:Int)^i=u at *;k_few;exact⟨_,by rw[e1,e2],rfl⟩
 . rintro σ H' ⟨o,rfl,rfl⟩
   k_few;exact d_ (r:=ra^n.toNat) (Rat.num_pow ..).symm (by rw[Rat.den_pow];push_cast;rfl) q
def N4(K:wb):Sp:=λvs H Q _=>∃x0 x1,vs=[x0,x1] /\ ∃(a b:Rat)(ns:List Int)(p1:wf),x1=.ref p1/\Is K H x0 (R a b)/\aK K H p1 (ns.map V.int)/\aV a b/\cP ns/\a≠1 /\ ∀l H' us,H l=none->ah H H'->H' l=some (.lst us)->ak K H' us ((cO a b ns).map N)->Q (.ref l) H'
theorem zpD{K:wb}{H:Hp}{Q:VK}{E:XK}{a b:Rat}{ns:List Int}{v:V}{p1:wf}(h1:Is K H v (R a b))(h2:aK K H p1 (ns.map V.int))(ok:aV a b)(sz:cP ns)(ha:a≠1)(q:∀l H' us,H l=none->ah H H'->H' l=some (.lst us)->ak K H' us ((cO a b ns).map N)->Q (.ref l) H'):N4 K [v,.ref p1] H Q E:=⟨_,_,rfl,a,b,ns,p1,rfl,h1,h2,ok,sz,ha,q⟩
theorem zv6{a b:Rat}{ns:List Int}{xs:List Rat}{m:Nat}(h:aV a b)(k:cP ns)(hl:ns.length=xs.length+1)(c:Cm m xs)(hm:m<=3290):cz a b ns xs/\(∀j,j<=ns.length->Cm 3500 (aH a b ns (xs++[0]) j)) /\ ∀j,j<ns.length->ag 4300 (gr a b ns xs j):=by
 have h8:=k.bX;have hu:=k.upTo
 have ht:∀j,gr a b ns xs j=dZ a b ns (xs++[0]) j:=λj=>by
  induction j with
  | zero=>rfl
  | succ j ih=>rw[gr,dZ,ih]
 have hc:∀j,j<=ns.length->Cm 3500 (dZ a b ns (xs++[0]) j::aH a b ns (xs++[0]) j):=λj hj=>by
  have h1:=AM (ns:=ns) hj (wo _);exact(c.snoc.AI h.ba h.bb (ns:=ns) j hj).mono (by omega)
 refine⟨⟨h.ba,h.bb,λn hn=>by have:=k.each n hn;omega,hl,by omega,⟨m,c,by omega⟩⟩,λj hj=>oA (hc j hj) λy hy=>wy _ hy,λj hj=>?_⟩;rw[ht];exact((hc j (by omega)).eW (wC ..)).mono (by decide)
theorem MY{H:Hp}{Q:VK}{l:wf}{v:V}{k:Int}(e:H l=some (.lst [v]))(h0:0<=k)(h1:k<=1000)(q:∀p H',H p=none->ah H H'->H' p=some (.lst (vf k.toNat v))->Q (.ref p) H'):nX (.ref l) (.int k) H Q :=
 zA5 e (by omega) h1 (by rw[Wh];omega) (λp H' n s e'=>q p H' n s (by rw[e',List.flatten_replicate_singleton]))
theorem zqA{K:wb}{H:Hp}{v:V}(h:Is K H v (N 0))(n:Nat):ak K H (vf n v) ((cg n).map N):=by
 unfold cg;rw[XJ];exact ak.Il h n
theorem zpQ(T:Txt K mg a):aJ P w K mg base aS 5 a.Hf a.FN z6 (N4 K):=by
 refine T.Gp.F.ok DY ?_ ?_;wtm_at "b2"
 refine⟨_,(ao (az 2 DY.nd (au (Ym T) hr T.Gq (ae (ar (pv 0)) (ae (bR (show aO _ (.builtin "sum") (BQ K)from zsS rfl) rfl T.z_sum JR (ae (pv 1) af)) af))))
     (ao (az 3 DY.nd (ar (au (Y6 T) hr T.Gv (ae (pv 0) (ae (pv 1) (ae (aA (show aN _ (WD .Mult) nX from Lb) (e_ (ae (br (ae ay (ae ay af))) af)) (aA jr (bR (show aO _ (.builtin "len") (cN K)from dX) rfl T.z_len dE (ae (pv 1) af)) ay)) af))))))
     (av (aE (d4 rfl (cF.by (N':=["_law_shift","_law_factor"]) (src:=[none,some 2]) rfl (show cV _ (aC sx).names Cr ["_law_shift","_law_factor"] [none,some 2]=true from by decide +kernel)) (gx (pv 3)) (λ_ _ _ _ _=>(bL (i:=0) (show(["_law_shift","_law_factor"]:List Str).Nodup from by decide) rfl (Or.inl rfl))) (λ_ _ _ _ _=>dY) (λ_ _ _ _ _=>by exact(au (Tv (K:=K) (mg:=mg) (a:=a) T) hr T.GA (ae (pv 0) (ae (au (Np (K:=K) (mg:=mg) (a:=a) T) hr T.Ar (ae (show PE _ _ (Cu K _)from br (ae ay (ae ay af))) (ae (pv 1) af))) af))))))))),?_⟩
 wtm_at "cl";rw[show start Cr [x0,x1]=[some x0,some x1,none,none]from rfl];obtain⟨ra,rb,ns,p1,rfl,hr',hn',ok,sz,ha,q⟩:=h;have h8:=sz.bX;have h1:=sz.some;have hp:=sz.pos;have hF:ra^ns.sum.toNat≠1:=λe=>ha ((zo ok (by omega)).mp e)
 have bF:ag 49 (ra^ns.sum.toNat):=(jb ok _).mono (by omega);have hne:1-ra^ns.sum.toNat≠0:=λe=>hF (by grind)
 have rc:=zv6 ok sz (xs:=cg (ns.length-1)) (by rw[zN];omega) (pF _) (by decide);k_few;rename_i va ia;refine zyu hn' ?_;o_head Tr ia (RE ok) (by decide) (by omega) (by omega) (by omega) (λv1 H1 S1 i1=>?_);o_head d_ (r:=0) rfl rfl (λv2 H2 S2 i2=>?_);o_head fi (by simp) (λl3 H3 n3 S3 e3=>?_);o_head jN ((S1.trans (S2.trans S3)).seq hn') ?_;rw[wm];o_head MY e3 (by omega) (by omega) (λl4 H4 n4 S4 e4=>?_);have T4:=S1.trans (S2.trans (S3.trans S4));have hk:((ns.length:Int)-1).toNat=ns.length-1:=by omega
 rw[hk]at e4;have i4:Is K H4 (.ref l4) (LN (cg (ns.length-1))):=c_ e4 (zqA (i2.by (S3.trans S4)) _);o_head zoW (hr'.by T4) (T4.seq hn') (.inl i4) rc.1 rc.2.1 rc.2.2 (λv5 H5 S5 i5=>?_);o_head aD (j:=0) i5 rfl (λv6 i6=>?_);have T5:=T4.trans S5;have i15:=i1.by (S2.trans (S3.trans (S4.trans S5)));obtain⟨l6,us,rfl,hs6,t6⟩:=cB.mp i6;have hul:=t6.length;rw[wm]at hul;have hsl:(cR ra rb ns).length=ns.length-1:=mf h1;have hul:us.length=ns.length-1:=by rw[hul];exact hsl
 have hstl:(cO ra rb ns).length=ns.length-1:=sM h1;o_head kr hs6 (o0:=none) (tl:=[some v1]) rfl (λj y H'=>Is K H' y (N ((cO ra rb ns).getD j 0))) ?_ ?_
 . intro D j x ys o H7 hx inv
   obtain⟨hj,ix⟩:=df (xs:=cR ra rb ns) t6 hx;have S7:=inv.same;have ix7:=ix.by S7;o_head d_ (r:=1) rfl rfl (λv8 H8 S8 i8=>?_);o_head Lm i8 (i15.by (S7.trans S8)) ag.one bF (by decide) (λv9 H9 S9 i9=>?_);o_head zqs (ix7.by (S8.trans S9)) i9 (Ae ok sz j) (ag.one.sub bF) (by decide) hne (λv10 H10 S10 i10=>?_);have e:(cO ra rb ns).getD j 0=(cR ra rb ns).getD j 0 / (1-ra^ns.sum.toNat):=Pg (by omega);rw[<- e]at i10;exact eU inv (by omega) eZ ⟨_,rfl⟩ (S8.trans (S9.trans S10)) i10
 . intro D ys H7 hn S7 hD hl hr
   exact q D H7 ys (iW T5 hn) (T5.trans S7) hD (fE (by rw[hl,hul,hstl]) hr)
def Rm(K:wb):Sp:=λvs H Q _=>∃x0 x1 x2,vs=[x0,x1,x2] /\ ∃(p:wf)(k m:Int)(ra rb:Rat),x0=.ref p/\x2=.int m/\Is K H x1 (R ra rb)/\aV ra rb/\b_ H p k/\k<=900/\3<=m/\m<=8 /\ ∀(l:wf)(H':Hp)(us:List V)(xs:List Rat),H l=none->Exc p H H'->bG H H'->b_ H' p (k+13)->H' l=some (.lst us)->ak K H' us (xs.map N)->1<=xs.length->(xs.length:Int)<=m->(∀x∈xs,eD x)->Q (.ref l) H'
theorem zoY{K:wb}{H:Hp}{Q:VK}{E:XK}{p:wf}{k m:Int}{ra rb:Rat}{v:V}(ir:Is K H v (R ra rb))(ok:aV ra rb)(h:b_ H p k)(hk:k<=900)(h1:3<=m)(h8:m<=8)(q:∀(l:wf)(H':Hp)(us:List V)(xs:List Rat),H l=none->Exc p H H'->bG H H'->b_ H' p (k+13)->H' l=some (.lst us)->ak K H' us (xs.map N)->1<=xs.length->(xs.length:Int)<=m->(∀x∈xs,eD x)->Q (.ref l) H'):Rm K [.ref p,v,.int m] H Q E:=⟨_,_,_,rfl,p,k,m,ra,rb,rfl,rfl,ir,ok,h,hk,h1,h8,q⟩
theorem zyR{n:Nat}(h1:1<=n)(h3:n<=3):cP (vf n (1:Int)):=by
 have:n=1\/n=2\/n=3:=by omega
 rcases this with rfl | rfl | rfl
 ·exact⟨by decide,by decide,by decide,by decide⟩
 ·exact⟨by decide,by decide,by decide,by decide⟩
 ·exact⟨by decide,by decide,by decide,by decide⟩
theorem zwf{x:Rat}(h0:¬ x.num<0)(h1:¬ (x.den:Int)<=x.num)(h2:¬ (60:Int)<(x.den:Int)):eD x:=by
 have:=J0 (r:=x.num) (u:=(x.den:Int)) (by omega) (by omega) (by omega);rw[Vr]at this;exact this
theorem ZH(T:Txt K mg a):aJ P w K mg base aS 6 a.Hj a.FW zO (Rm K):=by
 refine T.F_.F.ok tQ ?_ ?_;wtm_at "b3"
 refine⟨_,(ao (az 3 tQ.nd (au (zh2 T) hr T.EX (ae (pv 0) (ae (pv 2) af))))
     (ao (bP (PW.pt (jD (bS ny (au (fS T) hr T.fj (ae (pv 0) (ae ay af))) ay (a_ _)) (jV (bS (show aN _ (wU .Eq) (cv K)from de hu) (ar (pv 1)) (br (ae ay (ae ay af))) (a_ _))))) (av (aE (pv 3))) bQ)
     (ao (az 4 tQ.nd (aA cb (au (zpQ T) hr T.Gp (ae (pv 1) (ae (aA (show aN _ (WD .Mult) nX from Lb) (e_ (ae ay af)) (aA cb ay (au (fS T) hr T.fj (ae (pv 0) (ae ay af))))) af))) (e_ (ae (br (ae ay (ae ay af))) af))))
     (ao (gk vL rfl (gx (pv 4)) (bL (i:=5) tQ.nd rfl (Or.inl rfl)) (av (bP (PW.pt (jD (bS lY (ar (pv 5)) ay (a_ _)) (jD (bS Ca (ar (pv 5)) (ar (pv 5)) (a_ _)) (jV (bS ny (ar (pv 5)) ay (a_ _)))))) (av (aE (pv 3))) bQ)))
     (av (aE (pv 4))))))),?_⟩
 wtm_at "cl";rw[show start MO [x0,x1,x2]=[some x0,some x1,some x2,none,none,none]from rfl];obtain⟨p,k,m,ra,rb,rfl,rfl,ir,ok,hp,hk,h3,h8,q⟩:=h;o_head Ta hp (by omega) (by omega) (by omega) (λl1 H1 us1 xs1 n1 E1 K1 P1 e1 t1 a1 b1 ph1=>?_);have ne1:l1≠p:=b_.ne n1 hp;k_few
 . rename_i d H2 d0 d1 E2 K2 P2 z
   exact q l1 H2 us1 xs1 n1 (E1.trans E2) (K1.trans K2) (P2.le (by omega)) (E2.at ne1 e1) (ak.keep K2 _ _ (fQ _) t1) a1 b1 ph1
 . rename_i d H2 d0 d1 E2 K2 P2 z va ia
   have e2:=E2.at ne1 e1;have t2:ak K H2 us1 (xs1.map N):=ak.keep K2 _ _ (fQ _) t1;have ir2:=(ir.nH K1).nH K2;have EA:=E1.trans E2;have KA:=K1.trans K2;clear E1 K1 P1 e1 t1 E2 K2 ir;refine d_ (r:=1) rfl rfl (λv3 H3 S3 i3=>?_);refine Nr (ia.by S3) i3 ⟨_,rfl,?_⟩
   by_cases za:ra=1
   . rw[decide_eq_true za,if_pos rfl]
     k_few;exact q l1 H3 us1 xs1 n1 (EA.trans S3.exc) (KA.trans S3.keep) ((P2.same S3).le (by omega)) (S3 _ _ e2) (ak.same S3 _ _ t2) a1 b1 ph1
   . rw[decide_eq_false za,if_neg (by decide)]
     o_head fi (by simp) (λl4 H4 n4 S4 e4=>?_);have P4:=(P2.same S3).same S4;k_few;rename_i r H5 r0 r1 E5 K5 P5;have ne4:l4≠p:=b_.ne n4 (P2.same S3);refine MY (E5.at ne4 e4) (by omega) (by omega) (λl6 H6 n6 S6 e6=>?_);obtain⟨n,hn⟩:∃n:Nat,2+r=(n:Int):=⟨(2+r).toNat,by omega⟩;rw[hn,wP]at e6;have e6:H6 l6=some (.lst ((vf n (1:Int)).map V.int)):=by rw[XJ];exact e6
     have S34:=S3.trans S4;have KB:=KA.trans (S34.keep.trans (K5.trans S6.keep));have EB:=EA.trans (S34.exc.trans (E5.trans S6.exc));have P6:=P5.same S6;have eB:H6 l1=some (.lst us1):=S6 _ _ (E5.at ne1 (S34 _ _ e2));have tB:ak K H6 us1 (xs1.map N):=ak.keep (S34.keep.trans (K5.trans S6.keep)) _ _ (fQ _) t2;have irB:=ir2.nH (S34.keep.trans (K5.trans S6.keep));clear S3 S4 S34 E5 K5 S6 e2 t2 ir2 EA KA P2 P4 P5 e4 i3 ia n4 ne4 n6;o_head zpD irB (.of e6) ok (zyR (by omega) (by omega)) za (λl7 H7 us7 n7 S7 e7 t7=>?_);have hsl:(cO ra rb (vf n (1:Int))).length=n-1:=by rw[sM (by rw[Wt];omega),Wt]
     have hul:=t7.length;rw[wm,hsl]at hul;generalize cO ra rb (vf n (1:Int))=ys at *;o_head d_ (r:=0) rfl rfl (λv8 H8 S8 i8=>?_);o_head fi (by simp) (λl9 H9 n9 S9 e9=>?_);refine nj (S9 _ _ (S8 _ _ e7)) e9 (Va (iO (by simp;omega))) (λl10 H10 n10 S10 e10=>?_);have S710:=S8.trans (S9.trans S10);have t10:ak K H10 (us7++[v8]) ((ys++[0]).map N):=EK (ak.same S710 _ _ t7) (i8.by (S9.trans S10));have SC:=S7.trans S710;have hn10:H6 l10=none:=iW (S7.trans (S8.trans S9)) n10
     have hnl:H l10=none:=by
       have ne:l10≠p:=b_.ne hn10 P6;cases e:H l10 with
       | none=>rfl
       | some o=>rw[EB l10 o ne e]at hn10;cases hn10
     clear S7 S8 S9 S10 S710 t7 i8 n7 n9 n10 e7 e9;o_head yS (.of e10) (λi σ H'=>∃o,σ = [some (.ref p),some x1,some (.int m),some (.ref l1),some (.ref l10),o]/\H'=H10 /\ ∀j,j<i->eD ((ys++[0]).getD j 0)) ⟨_,rfl,rfl,λj hj=>by omega⟩ (λi σ H' _ h=>by obtain⟨_,_,rfl,_⟩:=h;exact .of e10) ?_ ?_
     . rintro i x σ H' hx ⟨o,rfl,rfl,hj⟩
       obtain⟨hi,ix⟩:=df t10 hx;k_few
       . exact q l1 H' us1 xs1 n1 (EB.trans SC.exc) (KB.trans SC.keep) ((P6.same SC).le (by omega)) (SC _ _ eB) (ak.same SC _ _ tB) a1 b1 ph1
       . exact q l1 H' us1 xs1 n1 (EB.trans SC.exc) (KB.trans SC.keep) ((P6.same SC).le (by omega)) (SC _ _ eB) (ak.same SC _ _ tB) a1 b1 ph1
       . exact q l1 H' us1 xs1 n1 (EB.trans SC.exc) (KB.trans SC.keep) ((P6.same SC).le (by omega)) (SC _ _ eB) (ak.same SC _ _ tB) a1 b1 ph1
       . rename_i z1 z2 z3
         refine⟨_,rfl,rfl,λj hj'=>?_⟩;rcases wB j i with y | y
         . exact hj j y
         . have:j=i:=by omega
           subst this;exact zwf z1 z2 z3
     . rintro σ H' ⟨o,rfl,rfl,hj⟩
       k_few;have hyl:(ys++[0]).length=n:=by simp[hsl];omega
       refine q l10 H' _ (ys++[0]) hnl (EB.trans SC.exc) (KB.trans SC.keep) ((P6.same SC).le (by omega)) e10 t10 (by omega) (by omega) (λy hy=>?_);obtain⟨j,hj',e⟩:=wX hy;have:=hj j (by simp;omega);rw[wa,wc hj']at this;rw[<- e];exact this
def tD(K:wb):Sp:=λvs H Q _=>∃x0,vs=[x0] /\ ∃(a:wf)(ns:List Int),x0=.ref a/\g9 K H a (ns.map V.int)/\ns.length<=63 /\ ∀H',Q (.bl true) H'
theorem JP(a b:Rat)(xs:List Rat)(es:List (Nat × Nat × Nat))(n:Nat)(w:String):(gU a b xs es n w).length=es.length+1:=by simp[gU]
theorem Z6{a b:Rat}{xs:List Rat}{es:List (Nat × Nat × Nat)}{n:Nat}{w:String}{j:Nat}(h:j<es.length):(gU a b xs es n w)[j]? = some (mi a b xs es[j]):=by
 unfold gU;rw[vR (by simpa using h),wx,wc h]
 rfl
theorem UX(a b:Rat)(xs:List Rat)(es:List (Nat × Nat × Nat))(n:Nat)(w:String):(gU a b xs es n w)[es.length]? = some (sJ a b xs n w):=by
 unfold gU;rw[vv (by simp)];simp
theorem zBo(T:Txt K mg a):aJ P w K mg base aS 15 a.law a.Ia yx (tD K):=by
 refine T.Sv.F.ok iH ?_ ?_;wtm_at "b1"
 refine⟨_,(ao (az 1 iH.nd (au (UU T) hr T.Fe (ae (au (Oe T) hr T.Ax (ae (pv 0) (ae ay af))) af)))
     (ao (az 2 iH.nd (au (UG T) hr T.GO (ae (pv 1) (ae (au (ZH T) hr T.F_ (ae (au (Oe T) hr T.Ax (ae (pv 0) (ae ay af))) (ae (pv 1) (ae ay af)))) af))))
     (ao (az 3 iH.nd (au (zoV T) hr T.Gf (ae (pv 2) af)))
     (ao (bP (bS EF (pv 3) g_ (a_ _)) (av (aE iZ)) bQ)
     (ao (az 4 iH.nd ay)
     (ao (az 5 iH.nd (pv 2))
     (ao (gk vL rfl (gx (pv 3)) (bL (i:=6) iH.nd rfl (Or.inl rfl)) (ao (bP (bS ny (pv 4) ay (a_ _)) (av (aE iZ)) bQ)
     (ao (mC (au (KL T) hr T.Ay (ae (pv 2) (ae (pv 4) af))) (mW (n:=2) rfl (gC (bL (i:=7) iH.nd rfl (Or.inl rfl)) (gC (bL (i:=5) iH.nd rfl (Or.inl rfl)) nk))))
     (ao (bP (PW.pt (jD (bS (show aN _ (wU .NotEq) (fY K)from lq hu) (br (ae (pv 7) (ae (ar (pv 5)) af))) (br (ae (ar (pv 6)) (ae (ar (pv 6)) af))) (a_ _)) (jV (bS (show aN _ (wU .NotEq) (fY K)from lq hu) (ar (pv 5)) (pv 1) (a_ _))))) (av (aE iZ)) bQ)
     (av (bP (bS (show aN _ (wU .Eq) (cv K)from de hu) (bR (show aO _ (.builtin "len") (cN K)from dX) rfl T.z_len dE (ae (pv 6) af)) ay (a_ _)) (av (az 4 iH.nd (aA cb (aA cb (pv 4) (aA ck (ar (pv 6)) (bR (show aO _ (.builtin "len") (A_ w)from Lp) rfl T.z_len dE (ae (dQ (show aO _ (.type "set") (rL K w)from MG hu rfl) rfl T.z_set Ng (ae (ar (pv 6)) af)) af)))) (ar (pv 6))))) bQ))))))
     (av (aE (au (ZM T) hr T.Gy (ae (pv 5) (ae (ar (dH cY (pv 3) (iA ib ay) (λ_ _=>rfl))) af)))))))))))),?_⟩
 wtm_at "cl";rw[show start Rg [x0]=[some x0,none,none,none,none,none,none,none]from rfl];obtain⟨a',ns0,rfl,hs,hl,q⟩:=h;o_head Pj hs hl (by decide) (by decide) (λp1 H1 hp1 S1 P1=>?_);o_head zjD P1 (by decide) (λv2 H2 ra rb E2 K2 P2 i2 ok=>?_);have KA:bG H H2:=S1.keep.trans K2;o_head Pj (KA.Jv hs) hl (by decide) (by decide) (λp3 H3 hp3 S3 P3=>?_);o_head zoY (i2.by S3) ok P3 (by decide) (by decide) (by decide) (λl4 H4 us4 xs n4 E4 K4 P4 e4 t4 a4 b4 ph4=>?_);have i4:=i2.nH (S3.keep.trans K4);have iS:=c_ e4 t4;have bg:dB ra rb xs:=⟨ok,a4,by omega,ph4⟩;clear i2 S1 S3 P1 P2 P3 P4 E2 K2 E4 K4 e4 t4 n4 hp1 hp3 KA;o_head Y1 i4 ok (.inl iS) a4 (by omega) ph4 (λvw H5 S5 iw=>?_);have i45:=i4.by S5;o_head Zl iw bg (λ_ H6 S6=>?_) (λl H6 es n wd P hl6 S6 i6=>?_)
 . k_few
   exact q _
 . have iw6:=iw.by S6
   have i46:=i45.by S6;have h6:=bg.h6;have hgl:=mj ok.a0 ok.b0 bg.h1 bg.hp;obtain⟨l',us,el,hs6,t6⟩:=cB.mp i6;cases el;have hul:=t6.length;rw[JP]at hul;have hat:=P.walk.at;have hz0:=P.walk.first;have hzl:=zuu es n;k_few
   . rename_i z;cases z
   . refine yS hs6 (λj σ H'=>∃(vn:V)(o6 o7:Option V),σ = [some (.ref a'),some v2,some vw,some (.ref l),some (.int (dJ es n (min j es.length):Int)),some vn,o6,o7]/\ah H6 H'/\(j=es.length+1->Is K H' vn (bD ra rb (aj ra rb xs n)))) ⟨vw,none,none,by rw[Nat.zero_min,hz0];rfl,ah.refl _,λz=>by omega⟩ (λj σ H' _ h=>by obtain⟨_,_,_,_,S,_⟩:=h;exact S.seq hs6) ?_ ?_
     . rintro j x σ H7 hx ⟨vn,o6,o7,rfl,S7,_⟩
       obtain⟨hi,ix⟩:=kB t6 hx;rw[JP]at hi;have ix7:=ix.by S7;have iwB:=iw6.by S7;rw[xy (by omega)]
       by_cases hj:j<es.length
       . obtain⟨e1,ro,e3⟩:=hat j hj
         rw[wa,Z6 hj]at ix7;have ixB:Is K H7 x (ku (aP ra rb xs es[j].1) (aj ra rb xs es[j].1) es[j].2.1 es[j].2.2):=ix7;rw[e1]at ixB ro e3;generalize es[j].2.1=r at *;generalize es[j].2.2=g at *
         have hr30:r<=30:=by
           rcases ro with⟨_,z,_⟩ | ⟨_,_,R⟩
           . omega
           . exact R.kx
         have hN:=bg.nf (dJ es n j);k_few
         . exact q _
         . rename_i z24
           have hc40:(dJ es n j:Int)<=24:=by omega
           refine zA iwB ok.ba ok.bb bg.h1 (by omega) (by omega) (by omega) (λt ht=>(bg.cm (i:=t) (by
             have h1:=hgl t;have h2:t*xs.length<=24*6:=W7 (by omega) h6;omega) (by omega)).mono (by decide)) (λv8 H8 S8 i8=>?_)
           rw[wP]at i8;o_head LA i8 rfl (λys t=>?_);obtain⟨vh,r1,rfl,ih,t⟩:=dC.mp t;obtain⟨vn',r2,rfl,inw,t⟩:=dC.mp t;rw[fO.mp t];have ixC:=ixB.by S8;o_head aD (j:=1) inw rfl (λv9 i9=>?_);o_head cK (ds:=[N (aP ra rb xs (dJ es n j)),TN (aj ra rb xs (dJ es n j))]) (by simp) (.cons ih (.cons i9 .nil)) (λv10 H10 S10 i10=>?_);have ixD:=ixC.by S10;o_head aD (j:=0) ixD rfl (λv11 i11=>?_);o_head aD (j:=1) ixD rfl (λv12 i12=>?_);o_head cK (ds:=[N (aP ra rb xs (dJ es n j)),TN (aj ra rb xs (dJ es n j))]) (by simp) (.cons i11 (.cons i12 .nil)) (λv13 H13 S13 i13=>?_);refine u_ (n:=4) (i10.by S13) i13 (lM (iu ((j7 _).mono (by decide)) ((NB _).mono (by decide)))) (by decide) (tJ (iu (mI _) (Om _))) ?_;have inw13:=inw.by (S10.trans S13);have iR13:=i46.by (S7.trans (S8.trans (S10.trans S13)));have ix13:=ixD.by S13;have S613:=S7.trans (S8.trans (S10.trans S13));o_head aD (j:=0) inw13 rfl (λv14 i14=>?_);o_head u_ (n:=4) i14 iR13 (lM (iu ((j7 _).mono (by decide)) ((j7 _).mono (by decide)))) (by decide) (tJ (iu (mI _) (mI _))) ?_;o_head jm ix13 ?_;k_few
           . refine aD (j:=2) ix13 rfl (λv15 i15=>?_)
             rw[cc.mp i15];o_head aD (j:=1) ix13 rfl (λv16 i16=>?_);o_head IG i16 (by rw[bN];omega) (λls H17 ws ys n17 S17 e17 t17 nd mem=>?_);have hyl:=J9 nd mem;have hwl:=t17.length;rw[wm]at hwl;o_head ⟨ls,ws,rfl,e17,?_⟩;rw[show ws.length=(ai (aj ra rb xs (dJ es n j))).length by omega];o_head aD (j:=3) (ix13.by S17) rfl (λv18 i18=>?_);rw[cc.mp i18];o_head ⟨vn',some x,some vh,?_,S613.trans S17,λz=>by omega⟩;rw[xy (by omega),<- e3];unfold dw
             push_cast
             rw[Int.add_assoc]
           . rename_i z;exact absurd rfl z
       . have hje:j=es.length:=by omega
         subst hje;rw[wa,UX]at ix7;have ixB:Is K H7 x (.tuple [N (aP ra rb xs n),TN (aj ra rb xs n),.str (Wm wd)]):=ix7;rw[<- hzl]at ixB;k_few
         . exact q _
         . rename_i z24
           have hc40:(dJ es n es.length:Int)<=24:=by omega
           refine zA iwB ok.ba ok.bb bg.h1 (by omega) (by omega) (by omega) (λt ht=>(bg.cm (i:=t) (by
             have h1:=hgl t;have h2:t*xs.length<=24*6:=W7 (by omega) h6;omega) (by omega)).mono (by decide)) (λv8 H8 S8 i8=>?_)
           rw[wP]at i8;o_head LA i8 rfl (λys t=>?_);obtain⟨vh,r1,rfl,ih,t⟩:=dC.mp t;obtain⟨vn',r2,rfl,inw,t⟩:=dC.mp t;rw[fO.mp t];have ixC:=ixB.by S8;o_head aD (j:=1) inw rfl (λv9 i9=>?_);o_head cK (ds:=[N (aP ra rb xs (dJ es n es.length)),TN (aj ra rb xs (dJ es n es.length))]) (by simp) (.cons ih (.cons i9 .nil)) (λv10 H10 S10 i10=>?_);have ixD:=ixC.by S10;o_head aD (j:=0) ixD rfl (λv11 i11=>?_);o_head aD (j:=1) ixD rfl (λv12 i12=>?_);o_head cK (ds:=[N (aP ra rb xs (dJ es n es.length)),TN (aj ra rb xs (dJ es n es.length))]) (by simp) (.cons i11 (.cons i12 .nil)) (λv13 H13 S13 i13=>?_);refine u_ (n:=4) (i10.by S13) i13 (lM (iu ((j7 _).mono (by decide)) ((NB _).mono (by decide)))) (by decide) (tJ (iu (mI _) (Om _))) ?_;have inw13:=inw.by (S10.trans S13);have iR13:=i46.by (S7.trans (S8.trans (S10.trans S13)));have ix13:=ixD.by S13;have S613:=S7.trans (S8.trans (S10.trans S13));o_head aD (j:=0) inw13 rfl (λv14 i14=>?_);o_head u_ (n:=4) i14 iR13 (lM (iu ((j7 _).mono (by decide)) ((j7 _).mono (by decide)))) (by decide) (tJ (iu (mI _) (mI _))) ?_;o_head jm ix13 ?_;k_few
           . rename_i z
             rw[show([N (aP ra rb xs (dJ es n es.length)),TN (aj ra rb xs (dJ es n es.length)),PyData.str (Wm wd)]:List wD).length=3 from rfl]at z;exact absurd z (by decide)
           . refine⟨vn',some x,some vh,by rw[Nat.min_eq_right (by omega)],S613,λ_=>?_⟩
             rw[hzl]at inw13;exact inw13
     . rintro σ H7 ⟨vn,o6,o7,rfl,S7,hfin⟩
       have iN:=hfin hul;have hsp:=P.sp;have hnf:=bg.nf n;have cn:Cm 3500 (aP ra rb xs n::aj ra rb xs n):=bg.cm (by have:=hsp.1;omega) (by have:=hsp.2;omega);have sw:=bg.AK P.n1 cn;o_head mF (i6.by S7) (λv8 i8=>?_);o_head aD (j:=2) (show Is K H7 v8 (.tuple [N (aP ra rb xs n),TN (aj ra rb xs n),.str (Wm wd)])from i8) rfl (λv9 i9=>?_);rw[iU.mp i9];o_head zqy iN sw P.word (λt ht=>(bg.jy (i:=n) (k:=t) ?_ (by omega)).mono (by decide)) q;have g1:=mj ok.a0 ok.b0 (xs:=aj ra rb xs n) (by rw[bN];exact bg.h1) (bg.hp.at ok.a0 ok.b0 n) t;rw[bN]at g1;have g2:t*xs.length<=(ai (aj ra rb xs n)).length*6:=W7 ht h6;have:=hsp.1;rw[mV];omega
end
theorem ON{us:List we}(h:us.length=1):∃a,us=[a]:=by
 cases us with
 | nil=>cases h
 | cons a t=>exact⟨a,by rw[Qh.mp (xn h)]⟩
theorem N3{us:List we}(h:us.length=2):∃a0 a1,us=[a0,a1]:=by
 cases us with
 | nil=>cases h
 | cons a0 t =>
  obtain⟨a1,e⟩:=ON (xn h);exact⟨a0,a1,by rw[e]⟩
theorem Lq{us:List we}(h:us.length=3):∃a0 a1 a2,us=[a0,a1,a2]:=by
 cases us with
 | nil=>cases h
 | cons a0 t =>
  obtain⟨a1,a2,e⟩:=N3 (xn h);exact⟨a0,a1,a2,by rw[e]⟩
theorem zB7{us:List we}(h:us.length=4):∃a0 a1 a2 a3,us=[a0,a1,a2,a3]:=by
 cases us with
 | nil=>cases h
 | cons a0 t =>
  obtain⟨a1,a2,a3,e⟩:=Lq (xn h);exact⟨a0,a1,a2,a3,by rw[e]⟩
inductive aU(K:wb)(n:Str)(st:vd)(f:wf):Prop
 | mk {od an:Option wf} {sl:Array (Option we)} {oc kV dc pm cd ct:we} (a:vj K wR n=some (some (.ref f))) (l:K.lookup f=some ⟨oc,od,.func (VZ n n (nu st) (ke st) (aC st) .none kV dc pm an cd ct),sl⟩) (c:QD K cd n=true) (k:VX K (.ref f)=true):aU K n st f
theorem aU.dn{K:wb}{h:wF}{mg:Str->Option we}{n:Str}{st:vd}{f:wf}{ps:List Str}(A:aU K n st f)(X:K.In h)(G:h.Ns wR mg)
  (b:∀(kV doc pm:we)(an:Option wf)(cdv ct:we)(us:List we),us.length=ps.length->bindArgs (VZ n n (nu st) (ke st) (aC st) .none kV doc pm an cdv ct) ⟨us,[]⟩=pure (ps.zip us)):∃fd,Dn K mg n st ps f fd:=by
 obtain⟨a,l,c,k⟩:=A;have F:=KO (st:=st) l c k;exact⟨_,F,Ws X G a,F.binds b⟩
set_option hygiene false in
local macro_rules | `(tactic| wtm_at "bd")=>`(tactic| (intro _ _ _ _ _ _ us hl; first | (obtain ⟨_,rfl⟩:=ON hl; rfl) | (obtain ⟨_,_,rfl⟩:=N3 hl; rfl) | (obtain ⟨_,_,_,rfl⟩:=Lq hl; rfl) | (obtain ⟨_,_,_,_,rfl⟩:=zB7 hl; rfl)))
set_option maxHeartbeats 8000000 in
theorem all_mk{l:xv}{w:wI}{K:wb}{h:wF}{mg:Str->Option we}{fa:wf}(X:K.In h)(G:h.Ns wR mg)(hfa:mg "law"=some (.ref fa))
  {f0 f1 f2 f3 f4 f5 f6 f7 f8 f9 f10 f11 f12 f13 f14 f15 f16 f17 f18 f19 f20 f21 f22 f23 f24 f25 f26 f27 f28 f29 f30 f31 f32 f33 f34 f35 f36 f37 f38 f39 f40 f41 f42 f43 f44 f45 f46 f47 f48 f49 f50 f51 f52 f53 f54 f55 f56 f57 f58 f59 f60 f61 f62 f63 f64 f65 f66:wf}
  {e0:wf}
  {e1:wf}
  {g0:wf} {gn0:Nat} {gd0:Option wf} {gs0:Array (Option we)} {tk0_0 tk0_1:Tok}
  {g1:wf} {gn1:Nat} {gd1:Option wf} {gs1:Array (Option we)} {tk1_0 tk1_1:Tok}
  {g2:wf} {gn2:Nat} {gd2:Option wf} {gs2:Array (Option we)} {tk2_0 tk2_1:Tok}
  {tk3:Tok}
  {tk4:Tok}
  {tk5:Tok}
  {tk6:Tok}
  {tk7:Tok}
  (a0:aU K "is_whole" Dj f0)
  (a1:aU K "greatest_divisor" DE f1)
  (a2:aU K "is_number" DJ f2)
  (a3:aU K "plus" C6 f3)
  (a4:aU K "minus" EU f4)
  (a5:aU K "times" Ct f5)
  (a6:aU K "over" Em f6)
  (a7:aU K "less" Ex f7)
  (a8:aU K "is_factor" Dw f8)
  (a9:aU K "is_shift" EN f9)
  (a10:aU K "make_rule" BA f10)
  (a11:aU K "is_rule" Bk f11)
  (a12:aU K "bend" Dz f12)
  (a13:aU K "pushes" BL f13)
  (a14:aU K "pushed_by" Dl f14)
  (a15:aU K "is_phase" D_ f15)
  (a16:aU K "are_phases" tI f16)
  (a17:aU K "swarm_of" EG f17)
  (a18:aU K "greatest" A5 f18)
  (a19:aU K "worms_at" yk f19)
  (a20:aU K "flocks" zd f20)
  (a21:aU K "at_the_end" yO f21)
  (a22:aU K "glow" nq f22)
  (a23:aU K "history" Cg f23)
  (a24:aU K "behind" By f24)
  (a25:aU K "is_laid" ED f25)
  (a26:aU K "laid" nP f26)
  (a27:aU K "phases_behind" y7 f27)
  (a28:aU K "stands" BW f28)
  (a29:aU K "round_behind" CQ f29)
  (a30:aU K "round_time" B1 f30)
  (a31:aU K "tops" rH f31)
  (a32:aU K "is_free" pq f32)
  (a33:aU K "round_map" sL f33)
  (a34:aU K "still" rM f34)
  (a35:aU K "weighed" ze f35)
  (a36:aU K "led_on" Eo f36)
  (a37:aU K "rounds_behind" BE f37)
  (a38:aU K "sums_of_places" Ee f38)
  (a39:aU K "rounds_time" sh f39)
  (a40:aU K "draws_freely" y8 f40)
  (a41:aU K "stays_free" Ac f41)
  (a42:aU K "free_rounds" B9 f42)
  (a43:aU K "behind_rounds" yw f43)
  (a44:aU K "behind_row" Cp f44)
  (a45:aU K "word_of" BI f45)
  (a46:aU K "glows_to_join" Ci f46)
  (a47:aU K "next_row" BU f47)
  (a48:aU K "paper_of" DU f48)
  (a49:aU K "_law_cell" CP f49)
  (a50:aU K "_law_pen" CV f50)
  (a51:aU K "_law_draw" CI f51)
  (a52:aU K "_law_low" Dt f52)
  (a53:aU K "_law_drawn_rule" ER f53)
  (a54:aU K "_law_drawn_phases" zH f54)
  (a55:aU K "_law_paper" DB f55)
  (a56:aU K "_law_ends" zw f56)
  (a57:aU K "_law_sum" AZ f57)
  (a58:aU K "_law_rest" CC f58)
  (a59:aU K "_law_product" Cz f59)
  (a60:aU K "_law_part" Eu f60)
  (a61:aU K "_law_pushes" B_ f61)
  (a62:aU K "_law_round" oC f62)
  (a63:aU K "_law_power" CJ f63)
  (a64:aU K "_law_rests" sx f64)
  (a65:aU K "_law_start" CW f65)
  (a66:aU K "law" w_ f66)
  (n_NoStand:vj K wR "NoStand"=some (some (.ref e0)))
  (n_TooLong:vj K wR "TooLong"=some (some (.ref e1)))
  (z_abs:vj K wR "abs"=some none)
  (z_all:vj K wR "all"=some none)
  (z_any:vj K wR "any"=some none)
  (z_bool:vj K wR "bool"=some none)
  (z_dict:vj K wR "dict"=some none)
  (z_enumerate:vj K wR "enumerate"=some none)
  (z_int:vj K wR "int"=some none)
  (z_isinstance:vj K wR "isinstance"=some none)
  (z_len:vj K wR "len"=some none)
  (z_list:vj K wR "list"=some none)
  (z_min:vj K wR "min"=some none)
  (z_range:vj K wR "range"=some none)
  (z_set:vj K wR "set"=some none)
  (z_sum:vj K wR "sum"=some none)
  (z_tuple:vj K wR "tuple"=some none)
  (z_zip:vj K wR "zip"=some none)
  (h_x_NoStand:qd K e0 oP "ValueError.__new__"=true)
  (h_m_NoStand_TooLong:qz K (.ref e0) (.ref e1)=some false)
  (h_x_TooLong:qd K e1 oP "ValueError.__new__"=true)
  (h_m_TooLong_TooLong:qz K (.ref e1) (.ref e1)=some true)
  (q0:vj K wR "NOUGHT"=some (some (.ref g0)))
  (r0:K.lookup g0=some ⟨.type "tuple",gd0,.seq #[.int 0 tk0_0,.int 1 tk0_1] gn0,gs0⟩)
  (q1:vj K wR "ONE"=some (some (.ref g1)))
  (r1:K.lookup g1=some ⟨.type "tuple",gd1,.seq #[.int 1 tk1_0,.int 1 tk1_1] gn1,gs1⟩)
  (q2:vj K wR "GREATEST_FACTOR"=some (some (.ref g2)))
  (r2:K.lookup g2=some ⟨.type "tuple",gd2,.seq #[.int 4 tk2_0,.int 1 tk2_1] gn2,gs2⟩)
  (q3:vj K wR "FACTOR_BOTTOM"=some (some (.int 8 tk3)))
  (q4:vj K wR "SHIFT_BOTTOM"=some (some (.int 12 tk4)))
  (q5:vj K wR "MOST_WORMS"=some (some (.int 8 tk5)))
  (q6:vj K wR "PHASE_BOTTOM"=some (some (.int 60 tk6)))
  (q7:vj K wR "MOST_FREE"=some (some (.int 30 tk7)))
  : ∃fd:wE,(∀(s:wl)(v:we),BindsTo s fd ⟨[v],[]⟩ [("_law_script",v)]) /\ ∀base:wF,K.In base->base.Ns wR mg->aJ l.prog w K mg base aS 15 fa fd ["_law_script"] (tD K):=by
 obtain⟨aL,lL,cL,kL⟩:=a66;cases hfa.symm.trans (Ws X G aL);have FL:=KO (st:=w_) lL cL kL;have D66:Dn K mg _ _ yx _ _:=⟨FL,Ws X G aL,FL.binds (by wtm_at "bd")⟩;have⟨_,D0⟩:=a0.dn (ps:=yH) X G (by wtm_at "bd");have⟨_,D1⟩:=a1.dn (ps:=yu) X G (by wtm_at "bd");have⟨_,D2⟩:=a2.dn (ps:=Ab) X G (by wtm_at "bd");have⟨_,D3⟩:=a3.dn (ps:=yV) X G (by wtm_at "bd");have⟨_,D4⟩:=a4.dn (ps:=zS) X G (by wtm_at "bd");have⟨_,D5⟩:=a5.dn (ps:=t9) X G (by wtm_at "bd");have⟨_,D6⟩:=a6.dn (ps:=zW) X G (by wtm_at "bd");have⟨_,D7⟩:=a7.dn (ps:=yT) X G (by wtm_at "bd");have⟨_,D8⟩:=a8.dn (ps:=zL) X G (by wtm_at "bd");have⟨_,D9⟩:=a9.dn (ps:=rJ) X G (by wtm_at "bd");have⟨_,D10⟩:=a10.dn (ps:=rO) X G (by wtm_at "bd");have⟨_,D11⟩:=a11.dn (ps:=zj) X G (by wtm_at "bd");have⟨_,D12⟩:=a12.dn (ps:=zB) X G (by wtm_at "bd");have⟨_,D13⟩:=a13.dn (ps:=zE) X G (by wtm_at "bd");have⟨_,D14⟩:=a14.dn (ps:=rZ) X G (by wtm_at "bd");have⟨_,D15⟩:=a15.dn (ps:=sF) X G (by wtm_at "bd");have⟨_,D16⟩:=a16.dn (ps:=Ag) X G (by wtm_at "bd");have⟨_,D17⟩:=a17.dn (ps:=zD) X G (by wtm_at "bd");have⟨_,D18⟩:=a18.dn (ps:=sr) X G (by wtm_at "bd");have⟨_,D19⟩:=a19.dn (ps:=zh) X G (by wtm_at "bd");have⟨_,D20⟩:=a20.dn (ps:=rF) X G (by wtm_at "bd");have⟨_,D21⟩:=a21.dn (ps:=sD) X G (by wtm_at "bd");have⟨_,D22⟩:=a22.dn (ps:=tf) X G (by wtm_at "bd");have⟨_,D23⟩:=a23.dn (ps:=zq) X G (by wtm_at "bd");have⟨_,D24⟩:=a24.dn (ps:=yr) X G (by wtm_at "bd");have⟨_,D25⟩:=a25.dn (ps:=yy) X G (by wtm_at "bd")
 have⟨_,D26⟩:=a26.dn (ps:=ya) X G (by wtm_at "bd");have⟨_,D27⟩:=a27.dn (ps:=sY) X G (by wtm_at "bd");have⟨_,D28⟩:=a28.dn (ps:=zP) X G (by wtm_at "bd");have⟨_,D29⟩:=a29.dn (ps:=yK) X G (by wtm_at "bd");have⟨_,D30⟩:=a30.dn (ps:=zX) X G (by wtm_at "bd");have⟨_,D31⟩:=a31.dn (ps:=y9) X G (by wtm_at "bd");have⟨_,D32⟩:=a32.dn (ps:=yo) X G (by wtm_at "bd");have⟨_,D33⟩:=a33.dn (ps:=z_) X G (by wtm_at "bd");have⟨_,D34⟩:=a34.dn (ps:=zr) X G (by wtm_at "bd");have⟨_,D35⟩:=a35.dn (ps:=zQ) X G (by wtm_at "bd");have⟨_,D36⟩:=a36.dn (ps:=zg) X G (by wtm_at "bd");have⟨_,D37⟩:=a37.dn (ps:=sI) X G (by wtm_at "bd");have⟨_,D38⟩:=a38.dn (ps:=zl) X G (by wtm_at "bd");have⟨_,D39⟩:=a39.dn (ps:=sO) X G (by wtm_at "bd");have⟨_,D40⟩:=a40.dn (ps:=y_) X G (by wtm_at "bd");have⟨_,D41⟩:=a41.dn (ps:=zI) X G (by wtm_at "bd");have⟨_,D42⟩:=a42.dn (ps:=sQ) X G (by wtm_at "bd");have⟨_,D43⟩:=a43.dn (ps:=yp) X G (by wtm_at "bd");have⟨_,D44⟩:=a44.dn (ps:=yY) X G (by wtm_at "bd");have⟨_,D45⟩:=a45.dn (ps:=sA) X G (by wtm_at "bd");have⟨_,D46⟩:=a46.dn (ps:=zT) X G (by wtm_at "bd");have⟨_,D47⟩:=a47.dn (ps:=sj) X G (by wtm_at "bd");have⟨_,D48⟩:=a48.dn (ps:=zY) X G (by wtm_at "bd");have⟨_,D49⟩:=a49.dn (ps:=rA) X G (by wtm_at "bd");have⟨_,D50⟩:=a50.dn (ps:=sS) X G (by wtm_at "bd");have⟨_,D51⟩:=a51.dn (ps:=yQ) X G (by wtm_at "bd");have⟨_,D52⟩:=a52.dn (ps:=tR) X G (by wtm_at "bd");have⟨_,D53⟩:=a53.dn (ps:=tX) X G (by wtm_at "bd");have⟨_,D54⟩:=a54.dn (ps:=yW) X G (by wtm_at "bd")
 have⟨_,D55⟩:=a55.dn (ps:=rT) X G (by wtm_at "bd");have⟨_,D56⟩:=a56.dn (ps:=yJ) X G (by wtm_at "bd");have⟨_,D57⟩:=a57.dn (ps:=rS) X G (by wtm_at "bd");have⟨_,D58⟩:=a58.dn (ps:=tH) X G (by wtm_at "bd");have⟨_,D59⟩:=a59.dn (ps:=zU) X G (by wtm_at "bd");have⟨_,D60⟩:=a60.dn (ps:=yq) X G (by wtm_at "bd");have⟨_,D61⟩:=a61.dn (ps:=Ah) X G (by wtm_at "bd");have⟨_,D62⟩:=a62.dn (ps:=tU) X G (by wtm_at "bd");have⟨_,D63⟩:=a63.dn (ps:=yn) X G (by wtm_at "bd");have⟨_,D64⟩:=a64.dn (ps:=z6) X G (by wtm_at "bd");have⟨_,D65⟩:=a65.dn (ps:=zO) X G (by wtm_at "bd")
 have T:Txt K mg ⟨f0,_,f1,_,f2,_,f3,_,f4,_,f5,_,f6,_,f7,_,f8,_,f9,_,f10,_,f11,_,f12,_,f13,_,f14,_,f15,_,f16,_,f17,_,f18,_,f19,_,f20,_,f21,_,f22,_,f23,_,f24,_,f25,_,f26,_,f27,_,f28,_,f29,_,f30,_,f31,_,f32,_,f33,_,f34,_,f35,_,f36,_,f37,_,f38,_,f39,_,f40,_,f41,_,f42,_,f43,_,f44,_,f45,_,f46,_,f47,_,f48,_,f49,_,f50,_,f51,_,f52,_,f53,_,f54,_,f55,_,f56,_,f57,_,f58,_,f59,_,f60,_,f61,_,f62,_,f63,_,f64,_,f65,_,_,_,e0,e1,g0,g1,g2⟩:=⟨D0,
  D1,
  D2,
  D3,
  D4,
  D5,
  D6,
  D7,
  D8,
  D9,
  D10,
  D11,
  D12,
  D13,
  D14,
  D15,
  D16,
  D17,
  D18,
  D19,
  D20,
  D21,
  D22,
  D23,
  D24,
  D25,
  D26,
  D27,
  D28,
  D29,
  D30,
  D31,
  D32,
  D33,
  D34,
  D35,
  D36,
  D37,
  D38,
  D39,
  D40,
  D41,
  D42,
  D43,
  D44,
  D45,
  D46,
  D47,
  D48,
  D49,
  D50,
  D51,
  D52,
  D53,
  D54,
  D55,
  D56,
  D57,
  D58,
  D59,
  D60,
  D61,
  D62,
  D63,
  D64,
  D65,
  D66,
  vD X G z_abs,
  vD X G z_all,
  vD X G z_any,
  vD X G z_bool,
  vD X G z_dict,
  vD X G z_enumerate,
  vD X G z_int,
  vD X G z_isinstance,
  vD X G z_len,
  vD X G z_list,
  vD X G z_min,
  vD X G z_range,
  vD X G z_set,
  vD X G z_sum,
  vD X G z_tuple,
  vD X G z_zip,
  Ws X G n_NoStand,
  Ws X G n_TooLong,
  h_x_NoStand,
  h_m_NoStand_TooLong,
  h_x_TooLong,
  h_m_TooLong_TooLong,
  Ws X G q0,
  λH=>.inr ⟨_,_,_,r0,rfl,rfl,by simp;decide,(.cons ⟨_,rfl⟩ (.cons ⟨_,rfl⟩ .nil))⟩,
  Ws X G q1,
  λH=>.inr ⟨_,_,_,r1,rfl,rfl,by simp;decide,(.cons ⟨_,rfl⟩ (.cons ⟨_,rfl⟩ .nil))⟩,
  Ws X G q2,
  λH=>.inr ⟨_,_,_,r2,rfl,rfl,by simp;decide,(.cons ⟨_,rfl⟩ (.cons ⟨_,rfl⟩ .nil))⟩,
  ⟨_,Ws X G q3⟩,
  ⟨_,Ws X G q4⟩,
  ⟨_,Ws X G q5⟩,
  ⟨_,Ws X G q6⟩,
  ⟨_,Ws X G q7⟩⟩
 exact⟨_,λs v=>.of_eq rfl,λbase _ _=>zBo T⟩
theorem walk{l:xv}{q:wH}{loose:List Str}{XP:(Str->Option we)->wF->Prop}{YP:wI->wF->Prop}{d:DefRec}{K:Params->wb}(hn:l.most=some 63)(hdf:d.params.defaults=[])
  (hY:∀(w:wI)(h:wF),YP w h->(K w.params).In h)
  (F:∀(w:wI)(mg:Str->Option we)(fa:wf)(h:wF),(K w.params).In h->h.Ns wR mg->mg d.name=some (.ref fa) ->
   ∃fd:wE,(∀(s:wl)(u:we),BindsTo s fd ⟨[u],[]⟩ [("_law_script",u)]) /\ ∀base:wF,(K w.params).In base->base.Ns wR mg->aJ l.prog w (K w.params) mg base aS 15 fa fd ["_law_script"] (tD (K w.params))) :
  u9 q loose XP YP l.row.toRowW d [] (λf vs=>uD f vs) :=
 L2.Sj (n:=63) (k:=15) (x:="_law_script") (CX:=λ_=>aS) (sp:=λw=>tD (K w.params)) hn (by decide) hdf ⟨rfl,by decide,by decide,rfl⟩ hY F (λ_ H a ns hl hO hS=>⟨.ref a,rfl,a,ns,rfl,YD hO hS,hl,λ_=>rfl⟩) λ_ _ _ _ _ z=>z
end G
local macro_rules | `(tactic| wtm_at "fk")=>`(tactic| (refine' G.aU.mk ?a ?l ?c ?k; (case a=>k_is); (case l=>k_is); (case c=>k_is); (case k=>k_is)))
open PySem PySem.W PyProof.Rows
set_option maxRecDepth 100000 in
set_option maxHeartbeats 0 in
theorem PySem.Challenge.cw_glowflock_k35_whole_rows_are_stands_holds : PySem.Challenge.rw_glowflock_k35_whole_rows_are_stands.Holds := by
 w_on; refine GH.head ?_
 k_fill
 refine G.walk (l:=PySem.Challenge.rw_glowflock_k35_whole_rows_are_stands) rfl rfl (fun w h Y=>PySem.W.kIn_of Y) ?F
 case F =>
   intro w mg fa h KX GG hmg;refine' G.all_mk KX GG hmg ?a0 ?a1 ?a2 ?a3 ?a4 ?a5 ?a6 ?a7 ?a8 ?a9 ?a10 ?a11 ?a12 ?a13 ?a14 ?a15 ?a16 ?a17 ?a18 ?a19 ?a20 ?a21 ?a22 ?a23 ?a24 ?a25 ?a26 ?a27 ?a28 ?a29 ?a30 ?a31 ?a32 ?a33 ?a34 ?a35 ?a36 ?a37 ?a38 ?a39 ?a40 ?a41 ?a42 ?a43 ?a44 ?a45 ?a46 ?a47 ?a48 ?a49 ?a50 ?a51 ?a52 ?a53 ?a54 ?a55 ?a56 ?a57 ?a58 ?a59 ?a60 ?a61 ?a62 ?a63 ?a64 ?a65 ?a66 ?n_NoStand ?n_TooLong ?z_abs ?z_all ?z_any ?z_bool ?z_dict ?z_enumerate ?z_int ?z_isinstance ?z_len ?z_list ?z_min ?z_range ?z_set ?z_sum ?z_tuple ?z_zip ?h_x_NoStand ?h_m_NoStand_TooLong ?h_x_TooLong ?h_m_TooLong_TooLong ?q0 ?r0 ?q1 ?r1 ?q2 ?r2 ?q3 ?q4 ?q5 ?q6 ?q7
   (case a0=>wtm_at "fk")
   (case a1=>wtm_at "fk")
   (case a2=>wtm_at "fk")
   (case a3=>wtm_at "fk")
   (case a4=>wtm_at "fk")
   (case a5=>wtm_at "fk")
   (case a6=>wtm_at "fk")
   (case a7=>wtm_at "fk")
   (case a8=>wtm_at "fk")
   (case a9=>wtm_at "fk")
   (case a10=>wtm_at "fk")
   (case a11=>wtm_at "fk")
   (case a12=>wtm_at "fk")
   (case a13=>wtm_at "fk")
   (case a14=>wtm_at "fk")
   (case a15=>wtm_at "fk")
   (case a16=>wtm_at "fk")
   (case a17=>wtm_at "fk")
   (case a18=>wtm_at "fk")
   (case a19=>wtm_at "fk")
   (case a20=>wtm_at "fk")
   (case a21=>wtm_at "fk")
   (case a22=>wtm_at "fk")
   (case a23=>wtm_at "fk")
   (case a24=>wtm_at "fk")
   (case a25=>wtm_at "fk")
   (case a26=>wtm_at "fk")
   (case a27=>wtm_at "fk")
   (case a28=>wtm_at "fk")
   (case a29=>wtm_at "fk")
   (case a30=>wtm_at "fk")
   (case a31=>wtm_at "fk")
   (case a32=>wtm_at "fk")
   (case a33=>wtm_at "fk")
   (case a34=>wtm_at "fk")
   (case a35=>wtm_at "fk")
   (case a36=>wtm_at "fk")
   (case a37=>wtm_at "fk")
   (case a38=>wtm_at "fk")
   (case a39=>wtm_at "fk")
   (case a40=>wtm_at "fk")
   (case a41=>wtm_at "fk")
   (case a42=>wtm_at "fk")
   (case a43=>wtm_at "fk")
   (case a44=>wtm_at "fk")
   (case a45=>wtm_at "fk")
   (case a46=>wtm_at "fk")
   (case a47=>wtm_at "fk")
   (case a48=>wtm_at "fk")
   (case a49=>wtm_at "fk")
   (case a50=>wtm_at "fk")
   (case a51=>wtm_at "fk")
   (case a52=>wtm_at "fk")
   (case a53=>wtm_at "fk")
   (case a54=>wtm_at "fk")
   (case a55=>wtm_at "fk")
   (case a56=>wtm_at "fk")
   (case a57=>wtm_at "fk")
   (case a58=>wtm_at "fk")
   (case a59=>wtm_at "fk")
   (case a60=>wtm_at "fk")
   (case a61=>wtm_at "fk")
   (case a62=>wtm_at "fk")
   (case a63=>wtm_at "fk")
   (case a64=>wtm_at "fk")
   (case a65=>wtm_at "fk")
   (case a66=>wtm_at "fk")
   (case n_NoStand=>k_is)
   (case n_TooLong=>k_is)
   (case z_abs=>k_is)
   (case z_all=>k_is)
   (case z_any=>k_is)
   (case z_bool=>k_is)
   (case z_dict=>k_is)
   (case z_enumerate=>k_is)
   (case z_int=>k_is)
   (case z_isinstance=>k_is)
   (case z_len=>k_is)
   (case z_list=>k_is)
   (case z_min=>k_is)
   (case z_range=>k_is)
   (case z_set=>k_is)
   (case z_sum=>k_is)
   (case z_tuple=>k_is)
   (case z_zip=>k_is)
   (case h_x_NoStand=>k_exc)
   (case h_m_NoStand_TooLong=>kts_exm)
   (case h_x_TooLong=>k_exc)
   (case h_m_TooLong_TooLong=>kts_exm)
   (case q0=>k_is)
   (case r0=>k_is)
   (case q1=>k_is)
   (case r1=>k_is)
   (case q2=>k_is)
   (case r2=>k_is)
   (case q3=>k_is)
   (case q4=>k_is)
   (case q5=>k_is)
   (case q6=>k_is)
   (case q7=>k_is)
#print axioms PySem.Challenge.cw_glowflock_k35_whole_rows_are_stands_holds
