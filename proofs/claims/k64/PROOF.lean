import PyProof.Rows.All
import Wide.All
import OpenK.AllK
import Wide.FinOn
import Lean
import PyProof.EqAt
import PyProof.EqKinds
import PyProof.TupleCall
import PyProof.P3In
import PyProof.ReprRoads
import PyProof.MaxThree
import PyProof.Rows.SetFrom
import PyProof.SetRoads
import PyProof.Rows.TupDisplay
import PyProof.AttrMissHeap
import KE.KDictOf
import PyProof.Walks
import KE.KItemsList
import PySem.SetTable
import PyProof.TupleKey
import PyProof.SetKind
import PyProof.IsRules
import KE.KSortTup
import PyProof.FactsAll.set_1
import KE.KDictList
import PyProof.DictValues
import PyProof.DictWalks
import PySem.Challenge.RW_glowflock_k64_whole_drawn_ever_nearer
set_option compiler.extract_closed false
set_option Elab.async false
set_option linter.all false
set_option maxRecDepth 100000
open Array renaming append_assoc->XJ,forIn_toList->VI,getD->u9,getD_eq_getD_getElem?->vE,getElem?_eq_getElem->Wg,getElem?_eq_none->VE,getElem?_eq_some_iff->Va,getElem?_toList->WJ,length_toList->wO,replicate->Ua,size_map->Um,toList->UC
open Bool renaming and_eq_true->w8,and_eq_true_iff->Xj,and_false->Q0,and_true->xk,beq_eq_decide_eq->qF,eq_iff_iff->vI,false_and->Vf,false_eq_true->w6,false_ne_true->vG,noConfusion->uJ,not_eq_true->uK,not_eq_true'->WT,not_false->QW,not_true->WG,true_and->Qz
open Classical renaming byContradiction->V2,not_not->qB
open False renaming elim->Wx
open Int renaming dvd_mul_left->uE,dvd_mul_right->VU,dvd_trans->qR,ediv_eq_of_eq_mul_right->Q5,emod_lt_of_pos->Qo,emod_nonneg->QN,gcd->vv,gcd_comm->XO,gcd_dvd_left->qL,gcd_dvd_right->Qv,gcd_pos_of_ne_zero_right->qD,gcd_zero_right->xb,mul_assoc->qi,mul_ediv_cancel_left->V9,mul_le_mul_of_nonneg_left->QR,mul_ne_zero->xN,mul_neg->uo,mul_one->xS,mul_pos->Wd,natAbs_ediv_le_natAbs->xu,natAbs_mul->Xa,natCast_ediv->qa,natCast_mul->VN,neg_dvd->um,neg_one_mul->uU,pow_add->uB,pow_ne_zero->qk,pow_pos->ut,pow_succ->QJ,pow_zero->XX,sign_eq_neg_one_of_neg->xi,sign_eq_one_of_pos->xT,toNat->xO,toNat_natCast->wT
open List renaming Pairwise->xh,all_cons->Xv,all_eq_true->WN,all_map->XS,any_cons->qQ,any_eq_false->ui,any_eq_true->uO,append_assoc->qy,append_nil->Wl,cons_append->xC,dropLast_concat_getLast->QX,dropLast_eq_take->Xc,drop_eq_getElem_cons->Qc,drop_eq_nil_of_le->xU,drop_succ_cons->QU,drop_zero->Xe,eq_nil_of_length_eq_zero->WW,ext_getElem->WM,filterMap_cons->qY,filter_append->Vm,filter_congr->vP,filter_cons->WX,filter_eq_nil_iff->xW,filter_filter->Qk,find?_cons->Uc,find?_some->Ud,flatten_cons->X8,foldl_append->X2,forIn_cons->Qd,forIn_nil->QZ,getD_eq_getElem?_getD->wa,getElem?_append_left->Wf,getElem?_append_right->vH,getElem?_cons_succ->xK,getElem?_drop->Q7,getElem?_eq_getElem->wc,getElem?_eq_none->wE,getElem?_eq_some_iff->WU,getElem?_map->wu,getElem?_range->vZ,getElem?_replicate->xH,getElem?_set->VT,getElem?_set_ne->QE,getElem?_set_self->xR,getElem?_take_of_lt->xz,getElem?_toArray->Xg,getElem_drop->X6,getElem_map->WY,getElem_mem->vO,getElem_of_mem->wX,getElem_take->X3,length->qV,length_append->wZ,length_cons->vo,length_drop->Wa,length_dropLast->Xs,length_eq_zero_iff->Qu,length_erase_of_mem->xF,length_filter_le->WI,length_map->wm,length_nil->xQ,length_pos_iff->qg,length_pos_of_mem->qt,length_range->vy,length_replicate->Vg,length_set->VM,length_singleton->Wm,length_tail->uF,length_take->Ws,length_zipWith->Xz,lookup_cons->qO,map_append->vx,map_congr_left->qf,map_cons->vb,map_drop->Xw,map_dropLast->xr,map_map->WH,map_nil->QG,map_take->Ut,mem_append->We,mem_append_left->Wo,mem_append_right->Wc,mem_cons->wQ,mem_cons_of_mem->wy,mem_cons_self->wC,mem_erase_of_ne->Xr,mem_filter->ve,mem_filterMap->Qg,mem_iff_getElem->Xo,mem_iff_getElem?->Xd,mem_map->wS,mem_of_find?_eq_some->xy,mem_of_getElem?->Xl,mem_or_eq_of_mem_set->xw,mem_range->wI,mem_singleton->w5,nil_append->QK,nodup_cons->W3,nodup_range->Vc,not_mem_nil->qP,of_mem_zip->QF,pairwise_append->qM,pairwise_cons->Vj,pairwise_iff_getElem->vY,pairwise_map->qz,pairwise_singleton->xI,range->wx,range_succ->QM,replicate->Qr,set_cons_succ->XV,set_cons_zero->XW,size_toArray->wR,sum_cons->Vu,tail_cons->Ui,take_add_one->qx,take_append_drop->Xb,take_length->WC,take_of_length_le->W7,take_sublist->XY,take_subset->uG,take_succ_cons->XC,take_zero->Up,zipIdx_cons->uN,zipIdx_nil->u7
open List.Pairwise renaming drop->UM,imp_of_mem->UH
open List.cons renaming injEq->u4
open Nat renaming add_assoc->Vt,add_le_add_left->XE,add_mul->uv,add_sub_cancel->Qj,add_zero->XQ,div_div_eq_div_mul->x6,eq_or_lt_of_le->Vn,gcd_dvd_right->X1,le_add_right->WZ,le_antisymm->uX,le_max_left->uV,le_max_right->uD,le_of_dvd->Uu,le_of_lt->VG,le_of_lt_succ->VX,le_refl->wp,le_trans->Wk,lt_irrefl->VR,lt_of_le_of_lt->Vi,lt_of_lt_of_le->wU,lt_or_ge->wz,lt_succ_of_lt->W2,lt_trans->XN,lt_trichotomy->WS,lt_two_pow_self->XF,min_le_right->xA,mod_eq_of_lt->xE,mod_lt->qN,mod_mul->xZ,mul_add->xV,mul_assoc->Vb,mul_comm->Qm,mul_le_mul->V4,mul_le_mul_left->XD,mul_le_mul_right->Wj,mul_left_comm->ue,mul_mod->uz,mul_succ->Qi,ne_of_gt->vi,ne_of_lt->wL,not_lt_zero->WV,one_mul->uw,pow_add->Q2,pow_le_pow_right->Xn,pow_succ->W5,sub_self->Vr,succ_mul->Qp,succ_ne_self->uM,succ_pos->QL,two_pow_pos->Wr,zero_le->Wu,zero_mul->QQ
open Nat.succ renaming inj->xG
open Ne renaming symm->Wp
open Option renaming bind_some->uL,getD_none->uC,getD_some->QC,isSome->Uv,isSome_iff_exists->V6,map->UK,map_eq_some_iff->VC,map_some->uY
open Option.some renaming inj->wK,injEq->xo
open Prod renaming ext->qK,fst->UA,snd->UB
open PyProof.Rows renaming callWith_type1->vD,slot_tuple_getitem->qh
open PyProof.Rows.F renaming entry_set_update_loop->Qn,plain_set_update_loop->VJ
open PyProof.Rows.IsTup renaming new->QD
open PySem renaming Addr->wf,Around->wW,FuncData->wG,Heap->wH,IsPair->WK,IsTupleKey->vL,NameKind->Ve,Program->wJ,PyData->wF,SetTable->WD,Shared->wl,Stmt->vj,Value->wg,World->wM,assignEach->VF,backTo->Vs,binaryOp->Vd,bootBuiltins->vU,cLine->WF,call->uT,codeAny_builtin->VQ,codeAny_mono->qJ,compareOp->wY,isSubtype_stop->V5,letOwnedTupleGo->Qf,mainGlobals->wN,mem_of_lookup->Vw,ofAClassStatement->qC,pyNext->Vo,rawInt->VY,sizeLine->vd,sizeLine_eq->qW,sliceBounds->qX,starEach->va,tupleKeyHash->vc,wpAny->wq,wpAny_Call_Name_kw->qq,wpAny_attempt->WQ,wpAny_bind->we,wpAny_call_entry->Wb,wpAny_comprehension_free->Qq,wpAny_execs_nil->Qe,wpAny_field->vk,wpAny_forIn_list->qd,wpAny_holding->vC,wpAny_isInstance->W0,wpAny_mono->WA,wpAny_newObj_type->Ww,wpAny_passesOwn->VP,wpAny_pure->wo,wpAny_pyIter_list->VZ,wpAny_pyIter_tuple->VL,wpAny_rule->qp,wpAny_seqItems->Wi,wpAny_setField->VB,wpAny_setField_rec->Vp,wpAny_setState_of->V0,wpAny_specialOf->qr,wpAny_standAt->qU,wpAny_truthy_bool->WE
open PySem.Around renaming frames_deeper->Xk,under->UE,under_plainId->V3
open PySem.Builtin.Dict renaming pairItems->x8,updateFrom->xL
open PySem.Builtin.Frozenset renaming newClass->Uy,updateFrom->Uo
open PySem.Builtin.Int renaming intBits->XA
open PySem.Builtin.Range renaming rangeSize->UI
open PySem.Builtin.Slice renaming sliceAdjust->Qa,sliceApplied->xf,sliceFields->Uz,slicePartIndex->Ug,slicePlaces->V1
open PySem.Builtin.SmallTypes renaming nextOf->vM,ownedTupleHandOut->Ql,ownedTupleIsFree->vK
open PySem.Builtin.Tuple renaming tupleExact->V8,tupleHashOf->Wh,tupleItemsOf->xg
open PySem.Calls renaming Name_function_global->xc,evalArgs_plain->Xm,spliced_cons->Q3,spliced_nil->xn
open PySem.Challenge renaming pw_glowflock_k64_whole_drawn_ever_nearer->Vx,rw_glowflock_k64_whole_drawn_ever_nearer->wt
open PySem.Code renaming isGuard->UF
open PySem.EntryCells renaming newEntry->XB
open PySem.F renaming args_enumerate_next_1->xJ,args_tuple_add_2->Qh,args_tuple_iterator_next_1->QY,args_zip_next_1->VW,attrBase_ValueError->Q8,called_set->qc,entry_enumerate_next->xY,entry_tuple_add->Qt,entry_tuple_iterator_next->Q9,entry_zip_next->qb,excBase_ValueError->Xp,plainAttrs_list->vV,plain_set_new->Ub,slot_enumerate_next->qI,slot_list_append->vS,slot_tuple_add->Qy,slot_tuple_eq->xP,slot_tuple_hash->qA,slot_tuple_iterator_next->VS,slot_zip_getattribute->qw,slot_zip_next->Wz,type_list_append->vT
open PySem.Heap renaming ExtBut->xX,IsTuple->XT,MadeExcOf->Uj,SameBut->vn,get?_push_ne->xp,get?_push_of_some->wn,get?_push_size->wP,get?_update_other->WB,get?_update_self->Vh,lt_size->wA,size_push->Vl,update->qu
open PySem.Heap.IsSliceOf renaming new->UL
open PySem.Heap.SameBut renaming refl->ug,update->qZ
open PySem.IntMulOk renaming of_left->uP,of_right->uh
open PySem.IsRange renaming new->UJ
open PySem.Obj renaming cls_mapFields->ud,data_mapFields->ql,isFreed_of_fields->qG,mapFields->qT,mapSeq->xt,putSet->xx
open PySem.Paired renaming length->Uq
open PySem.PassesOwn renaming leaving->uk,never->vJ
open PySem.PyData renaming canLay0->vR,canLayAll0->Wn,depth->W8,depthAll->Wy,eqv->wV,eqvAll->WP,strOk->UG
open PySem.SeqAt renaming canLay_of_shaped->VA,shaped->vQ
open PySem.SeqAt.EqAt renaming int_str->XG,str_int->XH
open PySem.SetTable renaming below->WR,fill->Ux,grown->Xi,has->XU,insertAt->Wv,laid->Uw,layClean->uf,sizeAbove->qm,turns->Xh
open PySem.SetTable.below renaming go->Qw
open PySem.SetTable.layClean renaming free->W9
open PySem.SetTable.probe renaming go->xq
open PySem.SetTable.sizeAbove renaming go->Wt
open PySem.Shared renaming heap->uu
open PySem.Str renaming ofString->vA,ofString->vW
open PySem.Value renaming isInt->Q1
open PySem.W renaming Frag->wb,InstAt->Xf,Looks->xj,OpenLaw->xM,WalkO->Ur,callWith_K->Q4,cellsFrom_some->Qx,clsIn->Xx,codeIn->QV,codeRec_of->XM,excIn->qj,exmOne->qH,findIn->Vy,findObj->uZ,fnOf->V7,hideAll->uR,hideAll_get->Xy,instObj->uQ,isFn->UD,keepIn->Vz,kia_one->W4,kia_tup->VO,kitAny->Ul,kitOne->wD,kitx_bool->ua,kitx_dict->uc,kitx_int->uH,kitx_list->ub,kitx_none->X9,kitx_str->uI,kitx_tuple->XR,looks_findIn->Xq,methodObj->xl,mg_none_of->vB,mg_of->vN,mroIn->Xu,nsIn->w9,of_hideAll->XI,specialIn->xm,takesIn->uS
open PySem.W.Looks renaming ld->UN
open PySem.Walks renaming list->u8
open Rat renaming den_divInt->Uh,den_intCast->Uf,divInt->wB,divInt_nonneg->XZ,divInt_ofNat->xB,div_def->uA,div_mul_cancel->WL,ext->Uk,intCast_add->QI,intCast_eq_zero_iff->Vv,intCast_le_intCast->W6,intCast_mul->Wq,intCast_pos->uW,le_iff->xv,le_of_lt->vX,le_refl->W1,le_trans->xD,lt_of_le_of_ne->Vk,mul_assoc->Us,mul_comm->QP,mul_eq_zero->Qb,mul_le_mul_of_nonneg_left->QT,mul_le_mul_of_nonneg_right->qo,mul_lt_mul_of_pos_left->qS,mul_nonneg->qE,mul_pos->Vq,not_lt->VD,num_divInt_den->Q6,num_intCast->Ue,num_nonneg->Qs,one_mul->ur,pow_succ->WO,pow_zero->VH
namespace GH
open PySem PySem.W PyProof.Rows
noncomputable def zT (p:wJ) (w:wM) (m:Nat) (an:Option wg) (N:Nat) (s0:wl):Option wl :=
 Option.bind (Fast.tw14082659384304107361 Fast.tw14364793385576792824 p w m an N s0 (topStub p)) λs1=>match staticsOk (Fast.tw5923862056798008813 p.main.body) s0.heap s1.heap&&namesBound p s1.heap&&gensDone s1&&laidKept s0.heap s1.heap with | true=>some s1 | false=>none
noncomputable def gB (w:wM) (os:OsState):wl:=⟨boot_heap w.params,#[],boot_drawn,boot_toks,os⟩
theorem Yn{p q:wJ}{loose:List Str}{Xt:wl->Bool}{A:Type}{Yf:wl->A}{Ya:wM->A}{N:Nat}(e:opening p=plainProg p.main.scope.names)(hN:Nat.ble 600 N=true)(f:∀s,fenceModules? p s=some s){m:Nat}{an:Option wg}
  (size:∀w:wM,((boot_heap w.params).isNs wN,(boot_heap w.params).objs.size,(boot_heap w.params).nsMap wN "__annotations__")=(true,m,an))
  (h:∀w:wM,(λos=>(zT p w m an N (gB w os)).map (λs=>(Fast.tw4187177175401517315 q loose (Fast.tw5923862056798008813 p.main.body) Xt true s,Yf s)))=λ_=>some (openGood q loose,Ya w)):LeftO p q loose Xt Yf Ya N:=λw=>by
 obtain⟨⟨h',gs,d,k,os⟩,e',e2⟩:=VC.mp (boot_open e hN f (w:=w));obtain⟨rfl,rfl,rfl,rfl⟩:h'=boot_heap w.params/\gs = #[]/\d=boot_drawn/\k=boot_toks:=by simpa using e2
 obtain⟨z1,z2,z3⟩:_/\_/\_:=by simpa only[Prod.mk.injEq] using size w
 have r:=congrFun (h w) os;unfold openEnds;rw[e']
 show UK _ (topFrom treeTable p w N _)=_
 rw[<- r];unfold topFrom zT gB;rw[<- Fast.te14082659384304107361,<- Fast.te14364793385576792824,<- Fast.te5923862056798008813,<- Fast.te4187177175401517315];dsimp only;rw[z1,z2,z3]
 rfl
noncomputable def jI (p:wJ) (w:wM) (m:Nat) (an:Option wg) (N:Nat) (s0:wl):Option wl:=Fast.tw14082659384304107361 Fast.tw14364793385576792824 p w m an N s0 (topStub p)
noncomputable def DP (p:wJ) (w:wM) (m:Nat) (an:Option wg) (N:Nat) (os:OsState):Option Bool:=(jI p w m an N (gB w os)).map λs1=>staticsOk (Fast.tw5923862056798008813 p.main.body) (gB w os).heap s1.heap&&namesBound p s1.heap&&gensDone s1&&laidKept (gB w os).heap s1.heap
theorem SX{p q:wJ}{loose:List Str}{Xt:wl->Bool}{A:Type}{Yf:wl->A}{Ya:wM->A}{N:Nat}(e:opening p=plainProg p.main.scope.names)(hN:Nat.ble 600 N=true)(f:∀s,fenceModules? p s=some s){m:Nat}{an:Option wg}
  (size:∀w:wM,((boot_heap w.params).isNs wN,(boot_heap w.params).objs.size,(boot_heap w.params).nsMap wN "__annotations__")=(true,m,an))
  (hA:∀w:wM,(λos=>DP p w m an N os)=λ_=>some true)
  (hB0:∀w:wM,(λos=>(jI p w m an N (gB w os)).map (λs=>((Fast.tw4187177175401517315 q loose (Fast.tw5923862056798008813 p.main.body) Xt true s).1,(Fast.tw4187177175401517315 q loose (Fast.tw5923862056798008813 p.main.body) Xt true s).2.1)))=λ_=>some (expectedOf q,bltViewBooted))
  (hB1:∀w:wM,(λos=>(jI p w m an N (gB w os)).map (λs=>((Fast.tw4187177175401517315 q loose (Fast.tw5923862056798008813 p.main.body) Xt true s).2.2.1,(Fast.tw4187177175401517315 q loose (Fast.tw5923862056798008813 p.main.body) Xt true s).2.2.2.1)))=λ_=>some (true,true))
  (hB2:∀w:wM,(λos=>(jI p w m an N (gB w os)).map (λs=>(Fast.tw4187177175401517315 q loose (Fast.tw5923862056798008813 p.main.body) Xt true s).2.2.2.2))=λ_=>some (pinGoodD (drecsOf q),plainGoodE q (looseW q loose),plainGoodD q loose,wideGood q,clsGoodW q loose))
  (hC:∀w:wM,(λos=>(jI p w m an N (gB w os)).map (λs=>Yf s))=λ_=>some (Ya w)):LeftO p q loose Xt Yf Ya N:=by
 refine Yn e hN f size λw=>?_
 funext os
 have h1:=congrFun (hA w) os;unfold DP at h1;obtain⟨s1,e1,e2⟩:=VC.mp h1;have g0:=congrFun (hB0 w) os;have g1:=congrFun (hB1 w) os;have g2:=congrFun (hB2 w) os;have k:=congrFun (hC w) os;rw[e1]at g0 g1 g2 k;have g0:=wK g0;have g1:=wK g1;have g2:=wK g2;have a0:=congrArg UA g0;have b0:=congrArg UB g0;have a1:=congrArg UA g1;have b1:=congrArg UB g1;have g:Fast.tw4187177175401517315 q loose (Fast.tw5923862056798008813 p.main.body) Xt true s1=openGood q loose:=qK a0 (qK b0 (qK a1 (qK b1 g2)));have k:=wK k
 have ez:zT p w m an N (gB w os)=some s1:=by
  unfold zT;unfold jI at e1;rw[e1]
  show(match _ with | true=>some s1 | false=>none)=some s1
  rw[e2]
 rw[ez];exact congrArg some (qK g k)
def qv:wJ:=view Vx [1,2,3,4,5,6,7,8,9,10,12,13,14,15,16,17,18,19,20,21,23,24,25,26,27,28,29,30,31,32,34,35,36,37,38,39,40,41,42,43,45,46,48,49,50,51,52,53,54,55,56,58,59,60,61,62,63,64,65,66,67,69,70,71,72,73,74,75,77,78,79,80,81,82,83,84,85,86,87,88]
theorem II:wt.wellSaid=true:=by kernel_rfl
theorem size(w:wM):((boot_heap w.params).isNs wN,(boot_heap w.params).objs.size,(boot_heap w.params).nsMap wN "__annotations__")=(true,11,some (.ref 6)):=by kernel_rfl
theorem TX(w:wM):(λos=>DP wt.row.prog w 11 (some (.ref 6)) 8348 os)=λ_=>some true:=by kernel_rfl
theorem TK(w:wM):(λos=>(jI wt.row.prog w 11 (some (.ref 6)) 8348 (gB w os)).map (λs=>((Fast.tw4187177175401517315 qv [] (Fast.tw5923862056798008813 wt.row.prog.main.body) (λs=>xlAt GH.qv [] s&&recOk (RowW.records (OpenRow.toRowW (OpenLaw.row wt))) s) true s).1,(Fast.tw4187177175401517315 qv [] (Fast.tw5923862056798008813 wt.row.prog.main.body) (λs=>xlAt GH.qv [] s&&recOk (RowW.records (OpenRow.toRowW (OpenLaw.row wt))) s) true s).2.1)))=λ_=>some (expectedOf qv,bltViewBooted):=by kernel_rfl
theorem TH(w:wM):(λos=>(jI wt.row.prog w 11 (some (.ref 6)) 8348 (gB w os)).map (λs=>((Fast.tw4187177175401517315 qv [] (Fast.tw5923862056798008813 wt.row.prog.main.body) (λs=>xlAt GH.qv [] s&&recOk (RowW.records (OpenRow.toRowW (OpenLaw.row wt))) s) true s).2.2.1,(Fast.tw4187177175401517315 qv [] (Fast.tw5923862056798008813 wt.row.prog.main.body) (λs=>xlAt GH.qv [] s&&recOk (RowW.records (OpenRow.toRowW (OpenLaw.row wt))) s) true s).2.2.2.1)))=λ_=>some (true,true):=by kernel_rfl
theorem TQ(w:wM):(λos=>(jI wt.row.prog w 11 (some (.ref 6)) 8348 (gB w os)).map (λs=>(Fast.tw4187177175401517315 qv [] (Fast.tw5923862056798008813 wt.row.prog.main.body) (λs=>xlAt GH.qv [] s&&recOk (RowW.records (OpenRow.toRowW (OpenLaw.row wt))) s) true s).2.2.2.2))=λ_=>some (pinGoodD (drecsOf qv),plainGoodE qv (looseW qv []),plainGoodD qv [],wideGood qv,clsGoodW qv []):=by kernel_rfl
local macro_rules | `(tactic| o_head $H)=>`(tactic| (refine holds_open (q:=GH.qv) (loose:=[]) (Xt:=λ s=>xlAt GH.qv [] s && recOk (RowW.records (OpenRow.toRowW (OpenLaw.row wt))) s) (XP:=XL GH.qv []) (Yf:=Hook.obs $H) (Ya:=Hook.val $H) (YP:=Hook.says $H) (N:=8348) ?hl (Hook.of $H) (Hook.keeps $H) (λ s e=>xl_of s (Xj.mp e).1) XL.keeps (by rfl) (by rfl) (by rfl) (λ s e=>recFacts_of (Xj.mp e).2) (by rfl) (by first | assumption | decide +kernel) (by decide +kernel) ⟨rfl,rfl,rfl,rfl,rfl,by decide +kernel⟩ ?hw ?hc; (case hl=>refine GH.SX (by kernel_rfl) rfl (λ s=>by kernel_rfl) GH.size GH.TX GH.TK GH.TH GH.TQ ?_; intro w; kernel_rfl)))
local macro_rules | `(tactic| o_law)=>`(tactic| refine holds_law GH.II λ II=>?_)
set_option maxHeartbeats 0
open_top head for wt
end GH
set_option maxHeartbeats 4000000
namespace L2
open PySem PySem.Spec PyProof.Rows
abbrev Key:=Sum Int Str
def Nd:Key->wg->Bool
 | .inl k,v=>Q1 k v
 | .inr x,v=>Value.isStrOf x v
def zC8(w:wM):Key->Int
 | .inl k=>hashInt k
 | .inr x=>hashStr w x
theorem jU:∀{k:Key}{v:wg},Nd k v=true->(∃i t,k=Sum.inl i/\v=Value.int i t)\/(∃x t,k=Sum.inr x/\v=Value.str x t)
 | .inl i,v,h=>by
  obtain⟨t,e⟩:=Value.isInt_shape (k:=i) (v:=v) h;exact .inl ⟨i,t,rfl,e⟩
 | .inr x,v,h=>by
  obtain⟨t,e⟩:=Value.isStrOf_shape (x:=x) (v:=v) h;exact .inr ⟨x,t,rfl,e⟩
theorem zBc(a b:Int):decide ((Sum.inl a:Key)=Sum.inl b)=(a == b):=by
 by_cases e:a=b
 ·subst e;simp
 ·have h:¬ (Sum.inl a:Key)=Sum.inl b:=λq=>e (Sum.inl.inj q)
  rw[decide_eq_false h];exact(beq_eq_false_iff_ne.mpr e).symm
theorem zAX(a b:Str):decide ((Sum.inr a:Key)=Sum.inr b)=decide (a=b):=by
 by_cases e:a=b
 ·subst e;simp
 ·have h:¬ (Sum.inr a:Key)=Sum.inr b:=λq=>e (Sum.inr.inj q)
  rw[decide_eq_false h,decide_eq_false e]
theorem YI(a:Int)(b:Str):decide ((Sum.inl a:Key)=Sum.inr b)=false:=decide_eq_false (λq=>nomatch q)
theorem zB3(a:Str)(b:Int):decide ((Sum.inr a:Key)=Sum.inl b)=false:=decide_eq_false (λq=>nomatch q)
def Bm(prog:wJ)(w:wM):PySem.KeyKind prog w Key where
 is:=Nd
 hash:=zC8 w
 inj:=λv a b ha hb=>by
  rcases jU ha with⟨i,t,rfl,rfl⟩ | ⟨x,t,rfl,rfl⟩
  ·rcases jU hb with⟨j,u,rfl,e⟩ | ⟨y,u,rfl,e⟩
   ·injection e with e1 _;rw[e1]
   ·exact nomatch e
  ·rcases jU hb with⟨j,u,rfl,e⟩ | ⟨y,u,rfl,e⟩
   ·exact nomatch e
   ·injection e with e1 _;rw[e1]
 byValue:=λk v h=>by
  rcases jU h with⟨i,t,rfl,rfl⟩ | ⟨x,t,rfl,rfl⟩<;>rfl
 pyHash:=λhv h=>by
  rcases jU hv with⟨i,t,rfl,rfl⟩ | ⟨x,t,rfl,rfl⟩
  ·exact wpAny_pyHash_int h
  ·exact wpAny_pyHash_str h
 eqBool:=λhu hv h=>by
  rcases jU hu with⟨i,t,rfl,rfl⟩ | ⟨x,t,rfl,rfl⟩
  ·rcases jU hv with⟨j,u,rfl,rfl⟩ | ⟨y,u,rfl,rfl⟩
   ·rw[zBc]at h;exact wpAny_eqBool_int h
   ·rw[YI]at h;exact XG i t y u _ _ _ _ h
  ·rcases jU hv with⟨j,u,rfl,rfl⟩ | ⟨y,u,rfl,rfl⟩
   ·rw[zB3]at h;exact XH x t j u _ _ _ _ h
   ·rw[zAX]at h;exact wpAny_eqBool_str h
 «strs»:=λk x t v h=>by
  rcases jU h with⟨i,u,rfl,e⟩ | ⟨y,u,rfl,e⟩
  ·exact nomatch e
  ·injection e with e1 _
   subst e1;cases v<;>rfl
inductive V where
 | bG | bl (b:Bool) | int (i:Int) | str (x:Str) | byt (b:Array UInt8) | lG (b:UInt64) | ref (a:wf) | ty (n:String)
 deriving DecidableEq
def aY:V->wg->Prop
 | .bG,u=>u=Value.none
 | .bl b,u=>u=Value.bool b
 | .int i,u=>∃t,u=Value.int i t
 | .str x,u=>∃t,u=Value.str x t
 | .byt b,u=>∃t,u=Value.bytes b t
 | .lG b,u=>∃t,u=Value.float b t
 | .ref a,u=>u=Value.ref a
 | .ty n,u=>u=Value.type n
abbrev aP:List V->List wg->Prop:=Paired aY
theorem aP.length{xs:List V}{us:List wg}(r:aP xs us):xs.length=us.length:=Uq r
theorem aP.get:∀{xs:List V}{us:List wg}{i:Nat}{x:V},aP xs us->xs[i]? = some x->∃u,us[i]? = some u/\aY x u
 | _,_,_,_,.nil,e=>by simp at e
 | _,_,0,_,.cons r _,e=>by simp at e;subst e;exact⟨_,rfl,r⟩
 | _,_,i+1,x,.cons _ t,e=>by
  obtain⟨u,h1,h2⟩:=aP.get (i:=i) (x:=x) t (by simpa using e);exact⟨u,by simpa using h1,h2⟩
theorem aP.set{x:V}{u:wg}(r:aY x u):∀{xs:List V}{us:List wg}(i:Nat),aP xs us->aP (xs.set i x) (us.set i u)
 | _,_,_,.nil=>.nil
 | _,_,0,.cons _ t=>.cons r t
 | _,_,i+1,.cons q t=>.cons q (aP.set r i t)
theorem aP.append:∀{xs ys:List V}{us ws:List wg},aP xs us->aP ys ws->aP (xs++ys) (us++ws)
 | _,_,_,_,.nil,s=>s
 | _,_,_,_,.cons r t,s=>.cons r (aP.append t s)
theorem aP.take:∀{xs:List V}{us:List wg}(n:Nat),aP xs us->aP (xs.take n) (us.take n)
 | _,_,0,_=>.nil
 | _,_,_+1,.nil=>.nil
 | _,_,n+1,.cons r t=>.cons r (aP.take n t)
theorem aP.drop:∀{xs:List V}{us:List wg}(n:Nat),aP xs us->aP (xs.drop n) (us.drop n)
 | _,_,0,r=>r
 | _,_,_+1,.nil=>.nil
 | _,_,n+1,.cons _ t=>aP.drop n t
def JA:Option V->Option wg->Prop
 | some v,some u=>aY v u
 | none,none=>True
 | _,_=>False
def KV{κ : Type} : List (κ × V)->List (κ × wg)->Prop:=Paired λ(p : κ × V)(q : κ × wg)=>p.1=q.1/\aY p.2 q.2
def kV:Key->V
 | .inl i=>.int i
 | .inr x=>.str x
inductive HO where
 /-- a list -/
 | lst (xs:List V)
 /-- a tuple (never changes) -/
 | tup (xs:List V)
 /-- a dict whose keys are ints and texts;one whose keys are tuples of ints and texts (the empty one is both) -/
 | dK (kvs:List (Key × V)) | dT (kvs:List (List Key × V))
 /-- a set of ints: its members,its size -/
 | set (S:Int->Bool) (n:Nat)
 /-- an instance of the class at C,its dict at dx,its attributes -/
 | ins (C dx:wf) (fs:List (Str × V))
 /-- the dict of the instance at x -/
 | own (x:wf)
 /-- the dict of an exception -/
 | xd (fs:List (Str × V))
 /-- a bound method,f of x -/
 | met (f x:wf)
 /-- a range object lo,lo+1,.. below hi -/
 | sP (lo hi:Int)
 /-- a thing that is known to the object (the script;a dict while a loop walks it): read,never written while it is so -/
 | fo (o:Obj) (u:HO)
 /-- a code object's table -/
 | km (ps:Array wg)
 /-- any other thing,by what is true of its one object (a def of one's own: mj a S n:=HO.ext λh=>..) -/
 | ext (φ : wH->Prop)
abbrev Hp:=wf->Option HO
def upd(H:Hp)(a:wf)(o:HO):Hp:=λb=>if b=a then some o else H b
theorem cT{H:Hp}{a:wf}{o:HO} : upd H a o a=some o:=by unfold upd;rw[if_pos rfl]
theorem d7{H:Hp}{a b:wf}{o:HO}(h:b≠a):upd H a o b=H b:=by unfold upd;rw[if_neg h]
theorem Ld{H:Hp}{a b:wf}{o u:HO}(h:H a=some o)(h':H b=some u)(d:o≠u):a≠b:=by
 intro e;subst e;rw[h]at h';exact d (wK h')
theorem jN{H:Hp}{a b:wf}{o:HO}(h:H a=some o)(h':H b=none):a≠b:=by
 intro e;subst e;rw[h]at h';cases h'
section
variable(P:wJ)(w:wM)
def dA(H:Hp)(h:wH)(a:wf):HO->Prop
 | .lst xs=>xs.length<=vd /\ ∃(its:List wg)(n:Nat),aP xs its/\h.get? a=some {cls:=.type "list",data:=.seq its.toArray n}
 | .tup xs=>xs.length<=vd /\ ∃its:List wg,aP xs its/\IsTup h a its.toArray
 | .dK kvs=>kvs.length<=vd/\(a == sysModules)=false /\ ∃vs,KV kvs vs/\h.DictOf (Bm P w) a vs
 | .dT kvs=>kvs.length<=vd/\(a == sysModules)=false /\ ∃xs:List (List Key × wf × wg),
     Paired (λ(p:List Key × V)(q:List Key × wf × wg)=>p.1=q.1/\H q.2.1=some (.tup (p.1.map kV))/\aY p.2 q.2.2) kvs xs /\
     ∃o es ep,h.get? a=some o/\o.ExactDict/\o.data=.dict es ep/\es.toList=xs.map (entryOfKey (tupleKind (Bm P w)))/\(xs.map (·.1)).Nodup
 | .set S n=>h.SetOf (intKind P w) a S n
 | .ins C dx fs=>H dx=some (.own a)/\fs.length<=1000/\dx≠a/\h.get? a=some (uQ C dx) /\
     ∃mA,h.Ns1 dx mA/\(∀f,JA (fs.lookup f) (mA f))/\PySem.Within mA (fs.map (·.1))
 | .own _=>∃o,h.get? a=some o
 | .xd fs=>∃mA,h.Ns1 a mA /\ ∀f,JA (fs.lookup f) (mA f)
 | .sP lo hi=>∃t u v,h.get? a=some {cls:=.type "range",data:=.fields #[.int lo t,.int hi u,.int 1 v]}
 | .fo o u=>h.get? a=some o/\dA H h a u
 | .km ps=>h.get? a=some {cls:=.none,data:=.fields ps}
 | .met f x=>h.get? a=some (xl (.ref f) (.ref x))
 | .ext φ=>φ h/\(∃o,h.get? a=some o) /\ ∀h1 h2:wH,φ h1->(∀o,h1.get? a=some o->h2.get? a=some o) -> φ h2
def cX(H:Hp)(h:wH):Prop:=∀a o,H a=some o->dA P w H h a o
end
section
variable{P:wJ}{w:wM}{H H':Hp}{h h':wH}{a:wf}{o:HO}
theorem dA.lt(x:dA P w H h a o):a<h.objs.size:=by
 cases o with
 | lst xs=>obtain⟨_,_,_,_,e⟩:=x;exact wA e
 | tup xs=>obtain⟨_,_,_,p⟩:=x;exact p.lt
 | dK kvs=>obtain⟨_,_,_,_,o,_,_,e,_⟩:=x;exact wA e
 | dT kvs=>obtain⟨_,_,_,_,o,_,_,e,_⟩:=x;exact wA e
 | set S n=>obtain⟨o,_,_,_,e,_⟩:=x;exact wA e
 | ins C dx fs=>obtain⟨_,_,_,e,_⟩:=x;exact wA e
 | own y=>obtain⟨_,e⟩:=x;exact wA e
 | xd fs=>obtain⟨_,⟨_,_,_,e,_⟩,_⟩:=x;exact wA e
 | sP lo hi=>obtain⟨_,_,_,e⟩:=x;exact wA e
 | fo ob u=>obtain⟨e,_⟩:=x;exact wA e
 | km ps=>exact wA (show h.get? a=some _ from x)
 | met f y=>exact wA (show h.get? a=some _ from x)
 | ext φ=>obtain⟨_,⟨_,e⟩,_⟩:=x;exact wA e
theorem Paired.IG{α β : Type}{F G : α -> β -> Prop} : ∀{l₁ : List α}{l₂ : List β},Paired F l₁ l₂ -> (∀a b,F a b->G a b)->Paired G l₁ l₂
 | _,_,.nil,_=>.nil
 | _,_,.cons r t,f=>.cons (f _ _ r) (Paired.IG t f)
theorem dA.jG(x:dA P w H h a o)(k:∀b u,(b=a\/H b=some (.own a))->h.get? b=some u->h'.get? b=some u)
  (ho:∀b,H b=some (.own a)->H' b=some (.own a)) (ht:∀b xs,H b=some (.tup xs)->H' b=some (.tup xs)):dA P w H' h' a o:=by
 induction o with
 | lst xs=>obtain⟨z,its,n,r,e⟩:=x;exact⟨z,its,n,r,k _ _ (.inl rfl) e⟩
 | tup xs=>obtain⟨z,its,r,ob,e,c⟩:=x;exact⟨z,its,r,ob,k _ _ (.inl rfl) e,c⟩
 | dK kvs=>obtain⟨z,y,vs,r,ob,es,ep,e,c⟩:=x;exact⟨z,y,vs,r,ob,es,ep,k _ _ (.inl rfl) e,c⟩
 | dT kvs =>
  obtain⟨z,y,xs,r,ob,es,ep,e,c⟩:=x;exact⟨z,y,xs,Paired.IG r λp q z=>⟨z.1,ht _ _ z.2.1,z.2.2⟩,ob,es,ep,k _ _ (.inl rfl) e,c⟩
 | set S n=>obtain⟨ob,es,ep,t,e,c⟩:=x;exact⟨ob,es,ep,t,k _ _ (.inl rfl) e,c⟩
 | ins C dx fs =>
  obtain⟨d,z,ne,e,mA,⟨od,es,ep,e2,c⟩,r⟩:=x;exact⟨ho _ d,z,ne,k _ _ (.inl rfl) e,mA,⟨od,es,ep,k _ _ (.inr d) e2,c⟩,r⟩
 | own y=>obtain⟨ob,e⟩:=x;exact⟨ob,k _ _ (.inl rfl) e⟩
 | xd fs=>obtain⟨mA,⟨od,es,ep,e,c⟩,r⟩:=x;exact⟨mA,⟨od,es,ep,k _ _ (.inl rfl) e,c⟩,r⟩
 | sP lo hi=>obtain⟨t,u,v,e⟩:=x;exact⟨t,u,v,k _ _ (.inl rfl) e⟩
 | fo ob u ih=>obtain⟨e,q⟩:=x;exact⟨k _ _ (.inl rfl) e,ih q⟩
 | km ps =>
  have e:h.get? a=some {cls:=.none,data:=.fields ps}:=x
  show h'.get? a=some {cls:=.none,data:=.fields ps}
  exact k a _ (.inl rfl) e
 | met f y =>
  have e:h.get? a=some (xl (.ref f) (.ref y)):=x
  show h'.get? a=some (xl (.ref f) (.ref y))
  exact k a _ (.inl rfl) e
 | ext φ=>obtain⟨p,⟨o,e⟩,st⟩:=x;exact⟨st _ _ p λo q=>k _ _ (.inl rfl) q,⟨o,k _ _ (.inl rfl) e⟩,st⟩
theorem cX.lt(x:cX P w H h)(e:H a=some o):a<h.objs.size:=(x a o e).lt
theorem cX.fresh(x:cX P w H h)(e:h.objs.size<=a):H a=none:=by
 cases q:H a with
 | none=>rfl
 | some u=>exact absurd (wU (x.lt q) e) (VR _)
theorem cX.kept(x:cX P w H h)(k:∀b u,h.get? b=some u->h'.get? b=some u):cX P w H h':=λa o e =>
 (x a o e).jG (λb u _ q=>k b u q) (λ_ q=>q) λ_ _ q=>q
theorem cX.laid(x:cX P w H h)(k:∀b u,h.get? b=some u->h'.get? b=some u)(hp:h.objs.size<=a)(new:dA P w (upd H a o) h' a o):cX P w (upd H a o) h':=λb u e=>by
 have hn:=x.fresh hp
 by_cases hb:b=a
 ·subst hb;rw[cT]at e;cases e;exact new
 ·rw[d7 hb]at e
  exact(x b u e).jG (λc v _ q=>k c v q) (λc q=>by rw[d7 (jN q hn)];exact q) λc xs q=>by rw[d7 (jN q hn)];exact q
end
def Rd(H:Hp)(a:wf)(u:HO):Prop:=H a=some u \/ ∃o,H a=some (.fo o u)
theorem Rd.ok{P:wJ}{w:wM}{H:Hp}{h:wH}{a:wf}{u:HO}(r:Rd H a u)(x:cX P w H h):dA P w H h a u:=by
 rcases r with r | ⟨o,r⟩
 ·exact x a u r
 ·obtain⟨_,q⟩:=x a _ r
  exact q
def Am:Option HO->Prop
 | some (.lst _)=>True
 | some (.dK _)=>True
 | some (.dT _)=>True
 | some (.set _ _)=>True
 | some (.ins _ _ _)=>True
 | some (.ext _)=>True
 | _=>False
section
variable{P:wJ}{w:wM}{H:Hp}{h h':wH}{x e:wf}{o':HO}
theorem cX.write(ok:cX P w H h)(mu:Am (H x))(he:e=x\/H e=some (.own x))(k:∀b u,b≠e->h.get? b=some u->h'.get? b=some u)(heo:∃u,h'.get? e=some u)
  (new:dA P w (upd H x o') h' x o'):cX P w (upd H x o') h':=λb u q=>by
 have nown:∀c y,H c=some (.own y)->c≠x:=λc y r z=>by subst z;rw[r]at mu;exact mu
 have ntup:∀c xs,H c=some (.tup xs)->c≠x:=λc xs r z=>by subst z;rw[r]at mu;exact mu
 by_cases hb:b=x
 ·subst hb;rw[cT]at q;cases q;exact new
 ·rw[d7 hb]at q
  by_cases hbe:b=e
  ·have q':H b=some (.own x):=by
    rcases he with z | z
    ·exact absurd (hbe.trans z) hb
    ·rw[hbe];exact z
   rw[q]at q';cases q';obtain⟨v,hv⟩:=heo;exact⟨v,by rw[hbe];exact hv⟩
  ·refine(ok b u q).jG (λc v hc r=>k c v ?_ r) (λc r=>by rw[d7 (nown c b r)];exact r) λc xs r=>by rw[d7 (ntup c xs r)];exact r
   rcases hc with rfl | hc
   ·exact hbe
   ·rintro rfl
    rcases he with z | z
    ·exact nown c b hc z
    ·rw[hc]at z;cases z;exact hb rfl
end
structure Un(fs ex:List wf)(H H':Hp)(h h':wH):Prop where
 keep:∀b o,h.get? b=some o->H b=none->b ∉ fs->b ∉ ex->h'.get? b=some o
 slot:∀b o,h.get? b=some o->H b=none->b∈fs->b ∉ ex->∃sl,h'.get? b=some {o with slots:=sl}
 free:∀b o,h.get? b=some o->H b=none->b ∉ ex->H' b=none
 there:∀b o,h.get? b=some o->b ∉ ex->∃o',h'.get? b=some o'
 gK:∀b xs,H b=some (.tup xs)->H' b=some (.tup xs)
 gj:∀b o u,H b=some (.fo o u)->H' b=some (.fo o u)
 gL:∀b ps,H b=some (.km ps)->∃more,H' b=some (.km (ps++more))
section
variable{fs fs' ex ex':List wf}{H H1 H2:Hp}{h h1 h2 h':wH}{a x e:wf}{o:HO}
theorem Un.any(u:Un fs ex H H1 h h1){b:wf}{ob:Obj}(q:h.get? b=some ob)(n:H b=none)(hx:b ∉ ex):∃sl,h1.get? b=some {ob with slots:=sl}:=by
 by_cases hb:b∈fs
 ·exact u.slot b ob q n hb hx
 ·exact⟨ob.slots,u.keep b ob q n hb hx⟩
theorem Un.kept(k:∀b u,h.get? b=some u->h'.get? b=some u):Un fs ex H H h h' :=
 ⟨λb ob q _ _ _=>k b ob q,λb ob q _ _ _=>⟨ob.slots,k b ob q⟩,λ_ _ _ n _=>n,λb ob q _=>⟨ob,k b ob q⟩,λ_ _ q=>q,λ_ _ _ q=>q,λ_ ps q=>⟨#[],by rw[q];simp⟩⟩
theorem Un.refl:Un fs ex H H h h:=Un.kept λ_ _ q=>q
theorem Un.laid(k:∀b u,h.get? b=some u->h'.get? b=some u)(hp:h.objs.size<=a)(hn:H a=none):Un fs ex H (upd H a o) h h' where
 keep:=λb u q _ _ _=>k b u q
 slot:=λb u q _ _ _=>⟨u.slots,k b u q⟩
 free:=λb u q n _=>by rw[d7 (wL (wU (wA q) hp))];exact n
 there:=λb u q _=>⟨u,k b u q⟩
 gK:=λb xs q=>by rw[d7 (jN q hn)];exact q
 gj:=λb u xs q=>by rw[d7 (jN q hn)];exact q
 gL:=λb ps q=>⟨#[],by rw[d7 (jN q hn),q];simp⟩
theorem Un.write(mu:Am (H x))(he:e=x\/H e=some (.own x))(k:∀b u,b≠e->h.get? b=some u->h'.get? b=some u)(heo:∃u,h'.get? e=some u):Un fs ex H (upd H x o) h h':=by
 have hx:∀b,H b=none->b≠x:=λb n z=>by subst z;rw[n]at mu;exact mu
 have hb:∀b,H b=none->b≠e:=λb n z=>by
  subst z;rcases he with r | r
  ·exact hx b n r
  ·rw[n]at r;cases r
 have hm:∀b u,H b=some u->¬ Am (some u)->b≠x:=λb u q nm z=>by subst z;rw[q]at mu;exact nm mu
 refine⟨λb u q n _ _=>k b u (hb b n) q,λb u q n _ _=>⟨u.slots,k b u (hb b n) q⟩,λb u q n _=>by rw[d7 (hx b n)];exact n,λb u q _=>?_,
  λb xs q=>by rw[d7 (hm b _ q λz=>z)];exact q,λb u xs q=>by rw[d7 (hm b _ q λz=>z)];exact q,λb ps q=>⟨#[],by rw[d7 (hm b _ q λz=>z),q];simp⟩⟩
 by_cases hbe:b=e
 ·subst hbe;exact heo
 ·exact⟨u,k b u hbe q⟩
end
def iN(h:wH)(H:Hp):List wf:=(wx h.objs.size).filter λa=>(H a).isSome
def jZ(h:wH)(H:Hp):wH:=uR h (iN h H)
theorem zvB(h:wH)(H:Hp):(jZ h H).objs.size=h.objs.size:=PySem.W.hideAll_size _ _
theorem zxF{h:wH}{H:Hp}{b:wf}{o:Obj}(e:h.get? b=some o)(n:H b=none):(jZ h H).get? b=some o :=
 Xy _ e λhm=>by
  have q:(H b).isSome=true:=(ve.mp hm).2;rw[n]at q;simp at q
theorem YX{h:wH}{H:Hp}{b:wf}{o:Obj}(e:(jZ h H).get? b=some o):h.get? b=some o/\H b=none:=by
 have e':h.get? b=some o:=XI (iN h H) e;refine⟨e',?_⟩;cases q:H b with
 | none=>rfl
 | some x =>
  have hm:b∈iN h H:=ve.mpr ⟨wI.mpr (wA e'),by simp[q]⟩;have z:(jZ h H).get? b=none:=PySem.W.hideAll_none (iN h H) hm;rw[z]at e;cases e
def zy6(g h:wH)(L:wf):List (wf × Obj):=(wx h.objs.size).filterMap λa=>if a=L\/(g.get? a).isSome=true then none else(h.get? a).map λo=>(a,o)
def ck(g h:wH)(L d:wf):List (wf × Obj):=(zy6 g h L).filter λp=>decide (p.1≠d)
structure Mod(K:wb)(mg:Str->Option wg)(base:wH):Prop where
 lS:K.In base
 glob:base.Ns wN mg
 blt:∃mb,base.Ns builtinsNs mb /\ ∀x:Str,x≠"__name__" -> mb x=vU x
 nolimit:base.NoLimit
structure Cx where
 prog:wJ
 w:wM
 K:wb
 mg:Str->Option wg
 base:wH
 A:wW
 N:List Str
 s₀ : wl
 H₀ : Hp
 env:Env
 outer:List Env
 stack:List Env
 ex:List wf
 fn:Str->Bool
 calm:Bool
 pn:List (wf × Obj)
 xe:wg->wl->Prop
def dr(l:List Env):List wf:=l.filterMap (·.frame)
abbrev Cx.fs(X:Cx):List wf:=dr X.outer
def zA(sc:Scope)(x:Str):Prop:=sc.names.lookup x=some .local\/sc.names.lookup x=some .cell\/sc.names.lookup x=some .free
def Loc(sc:Scope)(x:Str):Prop:=sc.names.lookup x=some .local\/sc.names.lookup x=some .cell
def zDe(env:Env)(h:wH)(m:Str->Option wg)(x:Str)(u:wg):Prop :=
 (env.kindOf x=some .local/\m x=some u)\/((env.kindOf x=some .cell\/env.kindOf x=some .free) /\ ∃c,env.cells.lookup x=some c/\h.IsCell c (some u))
structure Cx.Ok(X:Cx):Prop where
 mod:Mod X.K X.mg X.base
 kind:X.env.scope.kind=.function
 glob:X.env.globals=wN
 blt:X.env.builtins=builtinsNs
 above:X.s₀.heap.objs.size<=X.env.locals
 inj:∀x y c,X.env.cells.lookup x=some c->X.env.cells.lookup y=some c->x=y
 has:∀x,(X.env.kindOf x=some .cell\/X.env.kindOf x=some .free)->∃c,X.env.cells.lookup x=some c
 jS:∀x c,X.fn x=true->X.env.cells.lookup x=some c->X.s₀.heap.objs.size<=c
 hd:X.calm=true->X.A.handled=none
 frames:X.A.frames=some X.stack
 ki:X.stack=X.outer\/(X.stack=X.env::X.outer/\X.env.frame=some X.env.locals)
 nV:∀b∈X.ex,b≠X.env.locals /\ ∀x c,X.env.cells.lookup x=some c->c≠b
 bs:∀b o,X.base.get? b=some o->X.s₀.heap.get? b=some o/\X.H₀ b=none
 gm:X.base.objs.size<=X.s₀.heap.objs.size
 jE:∀b o,X.base.get? b=some o->b ∉ X.ex
 kg:∀b∈X.ex,b ∉ X.fs
 eB:X.s₀.heap.FunFrames X.base X.outer
 gW:∀b∈X.fs,X.H₀ b=none
structure Inv(X:Cx)(pins:List (wf × Obj))(σ : List (Option V))(H:Hp)(s:wl):Prop where
 ok:X.Ok
 os:s.os=X.s₀.os
 bare:AllBare s.gens
 base:Un X.fs X.ex X.H₀ H X.s₀.heap s.heap
 loc:∃m,s.heap.Ns X.env.locals m /\ ∀(i:Nat)(x:Str)(v:V),X.N[i]? = some x -> σ[i]? = some (some v)->zA X.env.scope x->∃u,aY v u/\zDe X.env s.heap m x u
 cell:∀x c,X.env.cells.lookup x=some c->∃v,s.heap.IsCell c v
 free:H X.env.locals=none
 fg:∀x c,X.env.cells.lookup x=some c->H c=none
 pin:∀p∈X.pn++pins,s.heap.get? p.1=some p.2/\H p.1=none/\p.1≠X.env.locals/\p.1 ∉ X.fs /\ ∀v,p.2.data≠.cell v
 aF:cX X.prog X.w H s.heap
 len : σ.length=X.N.length
section
variable{X:Cx}{pins:List (wf × Obj)}{σ : List (Option V)}{H H':Hp}{s:wl}{h':wH}
theorem Cx.Ok.TV(ok:X.Ok){b:wf}{o:Obj}(e:X.base.get? b=some o):b ∉ X.fs:=λhb=>by
 have:=(ok.eB.mem hb).1;rw[e]at this;cases this
theorem Inv.bs(I:Inv X pins σ H s):∀b o,X.base.get? b=some o->s.heap.get? b=some o/\H b=none:=λb o e =>
 ⟨I.base.keep b o (I.ok.bs b o e).1 (I.ok.bs b o e).2 (I.ok.TV e) (I.ok.jE b o e),I.base.free b o (I.ok.bs b o e).1 (I.ok.bs b o e).2 (I.ok.jE b o e)⟩
theorem Inv.bk(I:Inv X pins σ H s):∀b o,X.base.get? b=some o->s.heap.get? b=some o:=λb o e=>(I.bs b o e).1
theorem Inv.mod(I:Inv X pins σ H s):Mod X.K X.mg X.base:=I.ok.mod
theorem Inv.cW(I:Inv X pins σ H s):X.K.In s.heap:=I.ok.mod.lS.keeps I.bk
theorem Inv.lt(I:Inv X pins σ H s):X.env.locals<s.heap.objs.size:=let ⟨_,hn,_⟩:=I.loc;hn.lt
theorem Inv.sz(I:Inv X pins σ H s):X.s₀.heap.objs.size<=s.heap.objs.size:=Wk I.ok.above (VG I.lt)
theorem Inv.UO(I:Inv X pins σ H s){a:wf}(h:s.heap.objs.size<=a):a ∉ X.fs:=λhb=>by
 obtain⟨_,o,ho,_⟩:=I.ok.eB.mem hb;exact absurd (wU (wA ho) (Wk I.sz h)) (VR _)
theorem Inv.ja(I:Inv X pins σ H s):∀x c,X.env.cells.lookup x=some c->c≠X.env.locals:=λx c e z=>by
 obtain⟨v,o,ho,hd⟩:=I.cell x c e;obtain⟨m,⟨o',es,ep,ho',hd',_⟩,_⟩:=I.loc;rw[z,ho']at ho;cases ho;rw[hd']at hd;cases hd
theorem Inv.eB(I:Inv X pins σ H s):s.heap.FunFrames X.base X.outer:=by
 have all:∀(l:List Env),(∀b∈dr l,b∈X.fs)->X.s₀.heap.FunFrames X.base l->s.heap.FunFrames X.base l:=by
  intro l
  induction l with
  | nil=>intro _ _;trivial
  | cons env r ih =>
   intro hs hl;obtain⟨hk,⟨L,o,hf,hn,ho,hd⟩,hr⟩:=hl;have hL:L∈X.fs:=hs L (by unfold dr;rw[qY,hf];exact wC);obtain⟨sl,e⟩:=I.base.slot L o ho (I.ok.gW L hL) hL λz=>I.ok.kg L z hL
   exact⟨hk,⟨L,_,hf,hn,e,hd⟩,ih (λb hb=>hs b (by unfold dr;rw[qY,hf];exact wy _ hb)) hr⟩
 exact all X.outer (λ_ hb=>hb) I.ok.eB
theorem Inv.stack(I:Inv X pins σ H s):s.heap.FunFrames X.base X.stack:=by
 rcases I.ok.ki with e | ⟨e,hf⟩
 ·rw[e];exact I.eB
 ·rw[e]
  obtain⟨m,hn,_⟩:=I.loc;refine .cons (by rw[I.ok.kind];decide) hf hn ?_ I.eB;exact Heap.get?_none_of_le (Wk I.ok.gm I.ok.above)
theorem Inv.kQ(I:Inv X pins σ H s):∀b∈dr X.stack,b∈X.env.locals::X.fs:=λb hb=>by
 rcases I.ok.ki with e | ⟨e,hf⟩
 ·rw[e]at hb;exact wy _ hb
 ·rw[e]at hb
  unfold dr at hb;rw[qY,hf]at hb;exact hb
theorem Inv.rS(I:Inv X pins σ H s):∀b∈dr X.stack,H b=none:=λb hb=>by
 rcases wQ.mp (I.kQ b hb)with e | hb
 ·rw[e];exact I.free
 ·obtain⟨_,o,ho,_⟩:=I.ok.eB.mem hb
  exact I.base.free b o ho (I.ok.gW b hb) λz=>I.ok.kg b z hb
theorem Inv.step{g':Array GenState}{t':Nat}{d':Drawn}{ch:List wf}(I:Inv X pins σ H s)
  (hch:∀b∈ch,(b∈X.ex\/X.s₀.heap.objs.size<=b)/\b≠X.env.locals/\(∀x c,X.env.cells.lookup x=some c->c≠b) /\ ∀p∈X.pn++pins,p.1≠b)
  (keep:∀b o,b≠X.env.locals->b ∉ X.fs->b ∉ ch->s.heap.get? b=some o->H b=none->h'.get? b=some o)
  (slot:∀b o,b≠X.env.locals->b∈X.fs->b ∉ ch->s.heap.get? b=some o->H b=none->∃sl,h'.get? b=some {o with slots:=sl}) (free:∀b o,b ∉ ch->s.heap.get? b=some o->H b=none->H' b=none)
  (there:∀b o,b ∉ ch->s.heap.get? b=some o->∃o',h'.get? b=some o')
  (gK:∀b xs,H b=some (.tup xs)->H' b=some (.tup xs)) (gj:∀b o u,H b=some (.fo o u)->H' b=some (.fo o u)) (gL:∀b ps,H b=some (.km ps)->∃more,H' b=some (.km (ps++more)))
  (ns:∀m,s.heap.Ns X.env.locals m->h'.Ns X.env.locals m) (aF:cX X.prog X.w H' h') (hg:AllBare g') :
  Inv X pins σ H' {s with heap:=h',gens:=g',drawn:=d',toks:=t'}:=by
 have neL:∀b o,X.s₀.heap.get? b=some o->b≠X.env.locals:=λb o e=>wL (wU (wA e) I.ok.above)
 have neC:∀b o,X.s₀.heap.get? b=some o->b ∉ X.ex->b ∉ ch:=λb o e hx hb=>by
  rcases (hch b hb).1 with z | z
  ·exact hx z
  ·exact absurd (wU (wA e) z) (VR _)
 have cellK:∀x c,X.env.cells.lookup x=some c->∀v,s.heap.IsCell c v->h'.IsCell c v:=λx c e v ⟨o,ho,hd⟩=>by
  have nch:c ∉ ch:=λz=>(hch c z).2.2.1 x c e rfl
  by_cases hc:c∈X.fs
  ·obtain⟨sl,q⟩:=slot c o (I.ja x c e) hc nch ho (I.fg x c e)
   exact⟨_,q,hd⟩
  ·exact⟨o,keep c o (I.ja x c e) hc nch ho (I.fg x c e),hd⟩
 refine⟨I.ok,I.os,hg,⟨λb o e n hb hx=>?_,λb o e n hb hx=>?_,λb o e n hx=>?_,λb o e hx=>?_,λb xs e=>gK b xs (I.base.gK b xs e),λb o xs e=>gj b o xs (I.base.gj b o xs e),λb ps e=>?_⟩,?_,λx c e=>?_,?_,λx c e=>?_,λp hp=>?_,aF,I.len⟩
 ·exact keep b o (neL b o e) hb (neC b o e hx) (I.base.keep b o e n hb hx) (I.base.free b o e n hx)
 ·obtain⟨sl,e1⟩:=I.base.slot b o e n hb hx
  obtain⟨sl',e2⟩:=slot b _ (neL b o e) hb (neC b o e hx) e1 (I.base.free b o e n hx);exact⟨sl',e2⟩
 ·obtain⟨o',e1⟩:=I.base.there b o e hx
  exact free b o' (neC b o e hx) e1 (I.base.free b o e n hx)
 ·obtain⟨o',e1⟩:=I.base.there b o e hx
  exact there b o' (neC b o e hx) e1
 ·obtain⟨m1,e1⟩:=I.base.gL b ps e
  obtain⟨m2,e2⟩:=gL b _ e1;exact⟨m1++m2,by rw[e2,XJ]⟩
 ·obtain⟨m,hn,hl⟩:=I.loc
  refine⟨m,ns m hn,λi x v e1 e2 e3=>?_⟩;obtain⟨u,r,l⟩:=hl i x v e1 e2 e3;refine⟨u,r,?_⟩;rcases l with l | ⟨k,c,e,z⟩
  ·exact .inl l
  ·exact .inr ⟨k,c,e,cellK x c e _ z⟩
 ·obtain⟨v,z⟩:=I.cell x c e
  exact⟨v,cellK x c e v z⟩
 ·obtain⟨m,⟨o,_,_,ho,_⟩,_⟩:=I.loc
  exact free _ o (λz=>(hch _ z).2.1 rfl) ho I.free
 ·obtain⟨v,o,ho,hd⟩:=I.cell x c e
  exact free c o (λz=>(hch c z).2.2.1 x c e rfl) ho (I.fg x c e)
 ·obtain⟨e,n,ne,nf,d⟩:=I.pin p hp
  have nch:p.1 ∉ ch:=λz=>(hch p.1 z).2.2.2 p hp rfl
  exact⟨keep p.1 p.2 ne nf nch e n,free p.1 p.2 nch e n,ne,nf,d⟩
theorem Inv.un{t':Nat}(I:Inv X pins σ H s)(u:Un X.fs [] H H' s.heap h')(aF:cX X.prog X.w H' h'):Inv X pins σ H' {s with heap:=h',toks:=t'}:=by
 obtain⟨m,⟨o,es,ep,ho,r⟩,_⟩:=id I.loc;obtain⟨sl,hL⟩:=u.any ho I.free (by simp)
 exact I.step (g':=s.gens) (d':=s.drawn) (ch:=[]) (λ_ z=>nomatch z) (λb o _ hb _ e n=>u.keep b o e n hb (by simp)) (λb o _ hb _ e n=>u.slot b o e n hb (by simp)) (λb o _ e n=>u.free b o e n (by simp)) (λb o _ e=>u.there b o e (by simp)) u.gK u.gj u.gL (λm' hm=>by
  obtain⟨o',es',ep',ho',r'⟩:=hm;rw[ho]at ho';cases ho';exact⟨_,es',ep',hL,r'⟩) aF I.bare
theorem Inv.call{g':Array GenState}{t':Nat}{d':Drawn}{ch:List wf}(I:Inv X pins σ H s)(u:Un (dr X.stack) ch H H' s.heap h')(aF:cX X.prog X.w H' h')(hg:AllBare g')
  (hch:∀b∈ch,(b∈X.ex\/X.s₀.heap.objs.size<=b)/\b≠X.env.locals/\(∀x c,X.env.cells.lookup x=some c->c≠b) /\ ∀p∈X.pn++pins,p.1≠b) :
  Inv X pins σ H' {s with heap:=h',gens:=g',drawn:=d',toks:=t'}:=by
 obtain⟨m,⟨o,es,ep,ho,r⟩,_⟩:=id I.loc;obtain⟨sl,hL⟩:=u.any ho I.free λz=>(hch _ z).2.1 rfl
 exact I.step (ch:=ch) hch (λb o hL hb hc e n=>u.keep b o e n (λz=>(wQ.mp (I.kQ b z)).elim hL hb) hc) (λb o _ _ hc e n=>u.any e n hc) (λb o hc e n=>u.free b o e n hc) (λb o hc e=>u.there b o e hc) u.gK u.gj u.gL (λm' hm=>by
  obtain⟨o',es',ep',ho',r'⟩:=hm;rw[ho]at ho';cases ho';exact⟨_,es',ep',hL,r'⟩) aF hg
theorem Inv.turned{t':Nat}{it:wf}(I:Inv X pins σ H s)(k:∀b o,b≠it->s.heap.get? b=some o->h'.get? b=some o)(hn:H it=none)(hL:it≠X.env.locals)
  (h1:it∈X.ex\/X.s₀.heap.objs.size<=it) (h2:∀x c,X.env.cells.lookup x=some c->c≠it) (h3:∀p∈X.pn++pins,p.1≠it):Inv X pins σ H {s with heap:=h',toks:=t'}:=by
 have nit:∀b u,H b=some u->b≠it:=λb u e z=>by rw[z,hn]at e;cases e
 refine I.step (g':=s.gens) (d':=s.drawn) (ch:=[it]) (λb hb=>?_) (λb o _ _ hc e _=>k b o (λz=>hc (by simp[z])) e) (λb o _ _ hc e _=>⟨o.slots,k b o (λz=>hc (by simp[z])) e⟩) (λ_ _ _ _ n=>n)
  (λb o hc e=>⟨o,k b o (λz=>hc (by simp[z])) e⟩) (λ_ _ e=>e) (λ_ _ _ e=>e) (λb ps e=>⟨#[],by rw[e];simp⟩) (λm hm=>?_) (λb u e=>?_) I.bare
 ·have e:b=it:=by simpa using hb
  subst e;exact⟨h1,hL,h2,h3⟩
 ·obtain⟨o,es,ep,ho,r⟩:=hm
  exact⟨o,es,ep,k _ o (Wp hL) ho,r⟩
 ·refine(I.aF b u e).jG (λc v hc q=>k c v ?_ q) (λ_ q=>q) λ_ _ q=>q
  rcases hc with z | z
  ·rw[z];exact nit b u e
  ·exact nit c _ z
theorem Inv.tok(I:Inv X pins σ H s)(t:Nat):Inv X pins σ H {s with toks:=t}:=I.un (h':=s.heap) (t':=t) Un.refl I.aF
theorem Inv.kept{t':Nat}(I:Inv X pins σ H s)(k:∀b u,s.heap.get? b=some u->h'.get? b=some u):Inv X pins σ H {s with heap:=h',toks:=t'}:=I.un (Un.kept k) (I.aF.kept k)
theorem Inv.laid{a:wf}{o:HO}{t':Nat}(I:Inv X pins σ H s)(k:∀b u,s.heap.get? b=some u->h'.get? b=some u)(hp:s.heap.objs.size<=a)(new:dA X.prog X.w (upd H a o) h' a o) :
  Inv X pins σ (upd H a o) {s with heap:=h',toks:=t'}:=I.un (Un.laid k hp (I.aF.fresh hp)) (I.aF.laid k hp new)
theorem Inv.write{x e:wf}{o:HO}{t':Nat}(I:Inv X pins σ H s)(mu:Am (H x))(he:e=x\/H e=some (.own x))(k:∀b u,b≠e->s.heap.get? b=some u->h'.get? b=some u)(heo:∃u,h'.get? e=some u)
  (new:dA X.prog X.w (upd H x o) h' x o):Inv X pins σ (upd H x o) {s with heap:=h',toks:=t'}:=I.un (Un.write mu he k heo) (I.aF.write mu he k heo new)
theorem Inv.HR{pins':List (wf × Obj)}(I:Inv X pins σ H s)(h:∀p∈pins',s.heap.get? p.1=some p.2/\H p.1=none/\p.1≠X.env.locals/\p.1 ∉ X.fs /\ ∀v,p.2.data≠.cell v):Inv X pins' σ H s :=
 ⟨I.ok,I.os,I.bare,I.base,I.loc,I.cell,I.free,I.fg,λp hp=>(We.mp hp).elim (λz=>I.pin p (Wo _ z)) (h p),I.aF,I.len⟩
theorem CC{N:List Str}(hN:N.Nodup){i j:Nat}{x:Str}(a:N[i]? = some x)(b:N[j]? = some x):i=j:=by
 obtain⟨h1,e1⟩:=WU.mp a;obtain⟨h2,e2⟩:=WU.mp b;exact(List.getElem_inj hN).mp (e1.trans e2.symm)
theorem CD{M:Model}{A:wW}{E:wg->wl->Prop}{i:Nat}{x:Str}{v:V}{u:wg}{Q:Unit->wl->Prop}(I:Inv X pins σ H s)(hN:X.N.Nodup)(hi:X.N[i]? = some x)(hx:Loc X.env.scope x)(r:aY v u)
  (h:∀s',Inv X pins (σ.set i (some v)) H s'->(∃a,vn a s.heap s'.heap/\(a=X.env.locals\/X.env.cells.lookup x=some a))->Q () s') (hf:X.fn x=true\/X.env.scope.names.lookup x=some .local:=by first | exact .inl rfl | exact .inr rfl | assumption):wq M A (storeName X.env x u) Q E s:=by
 obtain⟨m,hn,hl⟩:=id I.loc;have hcls:(X.env.scope.kind == .class || (X.env.scope.kind == .module&&X.env.locals != X.env.globals))=false:=by rw[I.ok.kind];rfl
 have hiσ : i < σ.length:=by rw[I.len];exact(WU.mp hi).1
 have ja:=I.ja
 have tracked:∀{a:wf}{h':wH},(∃o,s.heap.get? a=some o/\H a=none)->vn a s.heap h'->cX X.prog X.w H h':=λ{a h'} ha hs b ob e=>by
  obtain⟨_,_,hfree⟩:=ha;refine(I.aF b ob e).jG (λc w' hc q=>(hs.2 c ?_).trans q) (λ_ q=>q) λ_ _ q=>q
  rintro rfl;rcases hc with rfl | hc
  ·rw[hfree]at e;cases e
  ·rw[hfree]at hc;cases hc
 rcases hx with hk | hk
 ·refine wpAny_storeName_local hk hn (λh' hn' hs=>?_) hcls
  obtain⟨oL,_,_,hoL,_⟩:=id hn;refine h _ ⟨I.ok,I.os,I.bare,⟨λb o e n hb hx=>?_,λb o e n hb hx=>?_,I.base.free,λb o e hx=>?_,I.base.gK,I.base.gj,I.base.gL⟩,⟨_,hn',λj y v' e1 e2 e3=>?_⟩,λy c e=>?_,I.free,I.fg,λp hp=>?_,tracked ⟨oL,hoL,I.free⟩ hs,by simpa using I.len⟩ ⟨_,hs,.inl rfl⟩
  ·exact(hs.2 b (wL (wU (wA e) I.ok.above))).trans (I.base.keep b o e n hb hx)
  ·obtain⟨sl,e1⟩:=I.base.slot b o e n hb hx
   exact⟨sl,(hs.2 b (wL (wU (wA e) I.ok.above))).trans e1⟩
  ·obtain⟨o',e1⟩:=I.base.there b o e hx
   exact⟨o',(hs.2 b (wL (wU (wA e) I.ok.above))).trans e1⟩
  ·by_cases hj:j=i
   ·subst hj
    rw[hi]at e1;cases e1;rw[xR hiσ]at e2;cases e2;exact⟨u,r,.inl ⟨hk,by simp⟩⟩
   ·rw[QE (Wp hj)]at e2
    obtain⟨u',r',q⟩:=hl j y v' e1 e2 e3;refine⟨u',r',?_⟩;rcases q with⟨k,e⟩ | ⟨k,c,e,z⟩
    ·refine .inl ⟨k,?_⟩
     have:y≠x:=λe=>hj (CC hN e1 (e ▸ hi))
     simp[this,e]
    ·exact .inr ⟨k,c,e,z.sameBut hs (ja y c e)⟩
  ·obtain⟨w',z⟩:=I.cell y c e
   exact⟨w',z.sameBut hs (ja y c e)⟩
  ·obtain⟨e,n,ne,nf,d⟩:=I.pin p hp
   exact⟨(hs.2 p.1 ne).trans e,n,ne,nf,d⟩
 ·have hfn:X.fn x=true:=by
   rcases hf with z | z
   ·exact z
   ·rw[z]at hk;cases hk
  obtain⟨c,hc⟩:=I.ok.has x (.inl hk);obtain⟨w',z⟩:=I.cell x c hc;refine wpAny_storeName_cell I.ok.kind hk hc z (λh' hc' hs=>?_);obtain⟨oc,hoc,hocd⟩:=id z;refine h {s with heap:=h'} ⟨I.ok,I.os,I.bare,⟨λb o e n hb hx=>?_,λb o e n hb hx=>?_,I.base.free,λb o e hx=>?_,I.base.gK,I.base.gj,I.base.gL⟩,⟨m,hn.sameBut hs (Wp (ja x c hc)),λj y v' e1 e2 e3=>?_⟩,λy c' e=>?_,I.free,I.fg,λp hp=>?_,tracked ⟨oc,hoc,I.fg x c hc⟩ hs,by simpa using I.len⟩ ⟨c,hs,.inr hc⟩
  ·exact(hs.2 b (wL (wU (wA e) (I.ok.jS x c hfn hc)))).trans (I.base.keep b o e n hb hx)
  ·obtain⟨sl,e1⟩:=I.base.slot b o e n hb hx
   exact⟨sl,(hs.2 b (wL (wU (wA e) (I.ok.jS x c hfn hc)))).trans e1⟩
  ·obtain⟨o',e1⟩:=I.base.there b o e hx
   exact⟨o',(hs.2 b (wL (wU (wA e) (I.ok.jS x c hfn hc)))).trans e1⟩
  ·by_cases hj:j=i
   ·subst hj
    rw[hi]at e1;cases e1;rw[xR hiσ]at e2;cases e2;exact⟨u,r,.inr ⟨.inl hk,c,hc,hc'⟩⟩
   ·rw[QE (Wp hj)]at e2
    obtain⟨u',r',q⟩:=hl j y v' e1 e2 e3;refine⟨u',r',?_⟩;rcases q with q | ⟨k,c',e,z'⟩
    ·exact .inl q
    ·refine .inr ⟨k,c',e,z'.sameBut hs ?_⟩
     rintro rfl;exact hj (CC hN e1 (I.ok.inj _ _ _ e hc ▸ hi))
  ·by_cases hcc:c'=c
   ·subst hcc;exact⟨_,hc'⟩
   ·obtain⟨w2,z2⟩:=I.cell y c' e
    exact⟨w2,z2.sameBut hs hcc⟩
  ·obtain⟨e,n,ne,nf,d⟩:=I.pin p hp
   refine⟨(hs.2 p.1 ?_).trans e,n,ne,nf,d⟩;intro q;rw[q,hoc]at e;have q':oc=p.2:=wK e;exact d w' (by rw[<- q'];exact hocd)
theorem mR{M:Model}{A:wW}{E:wg->wl->Prop}{i:Nat}{x:Str}{v:V}{u:wg}{Q:Unit->wl->Prop}(I:Inv X pins σ H s)(hN:X.N.Nodup)(hi:X.N[i]? = some x)(hx:Loc X.env.scope x)(r:aY v u)
  (h:∀s',Inv X pins (σ.set i (some v)) H s'->Q () s') (hf:X.fn x=true\/X.env.scope.names.lookup x=some .local:=by first | exact .inl rfl | exact .inr rfl | assumption):wq M A (storeName X.env x u) Q E s :=
 CD I hN hi hx r (λs' I' _=>h s' I') hf
theorem Inv.Iv{s':wl}{ch:List wf}(I:Inv X pins σ H s)(ho:s'.os=s.os)(u:Un (dr X.stack) ch H H' s.heap s'.heap)(aF:cX X.prog X.w H' s'.heap)(hg:AllBare s'.gens)
  (hch:∀b∈ch,(b∈X.ex\/X.s₀.heap.objs.size<=b)/\b≠X.env.locals/\(∀x c,X.env.cells.lookup x=some c->c≠b) /\ ∀p∈X.pn++pins,p.1≠b):Inv X pins σ H' s':=by
 obtain⟨h',g',d',t',o'⟩:=s';have e:o'=s.os:=ho;subst e;exact I.call (g':=g') (t':=t') (d':=d') u aF hg hch
end
abbrev XK:=wg->Option wf->Hp->Prop
abbrev St:=List (Option V)
abbrev VK:=V->Hp->Prop
abbrev TE:=St->Hp->VK->Prop
abbrev TT:=St->Hp->(Bool->Hp->Prop)->Prop
abbrev TA:=St->Hp->(List V->Hp->Prop)->Prop
structure cq where
 nx:St->Hp->Prop
 rt:VK
 bk:St->Hp->Prop:=λ_ _=>False
 ct:St->Hp->Prop:=λ_ _=>False
abbrev TS:=cq->St->Hp->Prop
def EP(X:Cx)(pins:List (wf × Obj))(σ : St)(Q:VK)(u:wg)(s':wl):Prop:=∃v H',Inv X pins σ H' s'/\aY v u/\Q v H'
def TP(X:Cx)(pins:List (wf × Obj))(σ : St)(Q:Bool->Hp->Prop)(b:Bool)(s':wl):Prop:=∃H',Inv X pins σ H' s'/\Q b H'
def AP(X:Cx)(pins:List (wf × Obj))(σ : St)(Q:List V->Hp->Prop)(us:List wg)(s':wl):Prop:=∃vs H',Inv X pins σ H' s'/\aP vs us/\Q vs H'
def SP(X:Cx)(pins:List (wf × Obj))(D:cq)(f:Flow)(s':wl):Prop :=
 match f with
 | .next=>∃σ' H',Inv X pins σ' H' s'/\D.nx σ' H'
 | .brk=>∃σ' H',Inv X pins σ' H' s'/\D.bk σ' H'
 | .cont=>∃σ' H',Inv X pins σ' H' s'/\D.ct σ' H'
 | .ret u=>∃v σ' H',Inv X pins σ' H' s'/\aY v u/\D.rt v H'
def PE(X:Cx)(e:Expr)(t:TE):Prop :=
 ∀(pins:List (wf × Obj))(s:wl)(σ : St)(H:Hp)(Q:VK),Inv X pins σ H s->t σ H Q->wq (model X.prog X.w) X.A (eval e X.env) (EP X pins σ Q) X.xe s
def PT(X:Cx)(e:Expr)(t:TT):Prop :=
 ∀(pins:List (wf × Obj))(s:wl)(σ : St)(H:Hp)(Q:Bool->Hp->Prop),Inv X pins σ H s->t σ H Q->wq (model X.prog X.w) X.A (isTrue e X.env (eval e X.env)) (TP X pins σ Q) X.xe s
def PW(X:Cx)(e:Expr)(t:TT):Prop :=
 ∀(whole:Sem wg)(pins:List (wf × Obj))(s:wl)(σ : St)(H:Hp)(Q:Bool->Hp->Prop),Inv X pins σ H s->t σ H Q->wq (model X.prog X.w) X.A (isTrue e X.env whole) (TP X pins σ Q) X.xe s
theorem PW.pt{X:Cx}{e:Expr}{t:TT}(h:PW X e t):PT X e t:=h _
def PA(X:Cx)(es:List Expr)(t:TA):Prop :=
 ∀(pos:Pos)(pins:List (wf × Obj))(s:wl)(σ : St)(H:Hp)(Q:List V->Hp->Prop),Inv X pins σ H s->t σ H Q->wq (model X.prog X.w) X.A (spliced (Vs pos (va es X.env))) (AP X pins σ Q) X.xe s
def PS(X:Cx)(st:vj)(t:TS):Prop :=
 ∀(pins:List (wf × Obj))(s:wl)(σ : St)(H:Hp)(D:cq),Inv X pins σ H s->t D σ H->wq (model X.prog X.w) X.A (exec st X.env) (SP X pins D) X.xe s
def ff(X:Cx)(st:List vj)(t:TS):Prop :=
 ∀(pins:List (wf × Obj))(s:wl)(σ : St)(H:Hp)(D:cq),Inv X pins σ H s->t D σ H->wq (model X.prog X.w) X.A (execs st X.env) (SP X pins D) X.xe s
theorem aJ{α : Type}{t:Sem α}{Q Q' : α -> wl->Prop}{M:Model}{A:wW}{E:wg->wl->Prop}{s:wl}(h:wq M A t Q E s)(hQ:∀a s,Q a s->Q' a s):wq M A t Q' E s:=WA h hQ λ_ _ x=>x
section
variable{X:Cx}
def lX(i:Nat):TE:=λσ H Q=>∃v,σ[i]? = some (some v)/\Q v H
def tC(v:V):TE:=λ_ H Q=>Q v H
theorem zAL{i:Nat}{x:Str}{pos:Pos}(hN:X.N[i]? = some x)(hv:zA X.env.scope x)(hd:(x == ("__debug__" : Str))=false:=by decide)(hcd:(x == ("__classdict__" : Str))=false:=by decide):PE X (.Name x pos) (lX i):=by
 intro pins s σ H Q I h;obtain⟨v,e,h⟩:=h;obtain⟨m,hn,hl⟩:=I.loc;obtain⟨u,r,l⟩:=hl i x v hN e hv;have fin:EP X pins σ Q u s:=⟨v,H,I,r,h⟩;rcases l with⟨hk,hm⟩ | ⟨hk,c,hc,hcell⟩
 ·exact wpAny_Name (wpAny_loadName_local I.ok.kind hk hn hm fin) hd
 ·rcases hk with hk | hk
  ·exact wpAny_Name (wpAny_loadName_cell I.ok.kind hk hc hcell fin) hd
  ·exact wpAny_Name (wpAny_loadName_free I.ok.kind hk hc hcell fin hcd) hd
theorem aA{i j pos} : PE X (.Constant (.int i) j pos) (tC (.int i)):=λ_ _ _ H _ I h=>wpAny_Constant_int ⟨.int i,H,I.tok _,⟨_,rfl⟩,h⟩
theorem fI{b j pos} : PE X (.Constant (.bool b) j pos) (tC (.bl b)):=λ_ _ _ H _ I h=>Constant_bool ⟨.bl b,H,I,rfl,h⟩
theorem j8{j pos} : PE X (.Constant .none j pos) (tC .bG):=λ_ _ _ H _ I h=>Constant_none ⟨.bG,H,I,rfl,h⟩
theorem dk{x j pos} : PE X (.Constant (.str x) j pos) (tC (.str x)):=λ_ _ _ H _ I h=>Calls.Constant_str ⟨.str x,H,I.tok _,⟨_,rfl⟩,h⟩
def Gl(X:Cx)(x:Str):Prop:=X.env.kindOf x=some .globalImplicit
theorem mm{E:wg->wl->Prop}{pins:List (wf × Obj)}{s:wl}{σ : St}{H:Hp}{x:Str}{u:wg}{pos:Pos}{Q:wg->wl->Prop}(I:Inv X pins σ H s)(hg:Gl X x)(hm:X.mg x=some u)(h:Q u s)
  (hd:(x == ("__debug__" : Str))=false:=by decide):wq (model X.prog X.w) X.A (eval (.Name x pos) X.env) Q E s :=
 xc I.ok.kind hg (Calls.loadGlobal_global (by rw[I.ok.glob];exact I.mod.glob.keeps I.bk) hm h) hd
theorem gx{E:wg->wl->Prop}{pins:List (wf × Obj)}{s:wl}{σ : St}{H:Hp}{x:Str}{u:wg}{pos:Pos}{Q:wg->wl->Prop}(I:Inv X pins σ H s)(hg:Gl X x)(hm:X.mg x=none)(hv:vU x=some u)(h:Q u s)
  (hn:x≠"__name__":=by decide) (hd:(x == ("__debug__" : Str))=false:=by decide):wq (model X.prog X.w) X.A (eval (.Name x pos) X.env) Q E s:=by
 obtain⟨mb,h1,h2⟩:=I.mod.blt;exact xc I.ok.kind hg (Calls.loadGlobal_builtin (by rw[I.ok.glob];exact I.mod.glob.keeps I.bk) hm (by rw[I.ok.blt];exact h1.keeps I.bk) ((h2 x hn).trans hv) h) hd
theorem bM{x:Str}{v:V}{u:wg}{pos:Pos}(hg:Gl X x)(hm:X.mg x=some u)(r:aY v u)(hd:(x == ("__debug__" : Str))=false:=by decide):PE X (.Name x pos) (tC v) :=
 λ_ _ _ H _ I h=>mm I hg hm ⟨v,H,I,r,h⟩ hd
theorem lh{x:Str}{v:V}{u:wg}{pos:Pos}(hg:Gl X x)(hm:X.mg x=none)(hv:vU x=some u)(r:aY v u)(hn:x≠"__name__":=by decide)(hd:(x == ("__debug__" : Str))=false:=by decide):PE X (.Name x pos) (tC v) :=
 λ_ _ _ H _ I h=>gx I hg hm hv ⟨v,H,I,r,h⟩ hn hd
def t2I(ta tb:TE)(k:Int->Int->Hp->Prop):St->Hp->Prop:=λσ H=>ta σ H λx H1=>tb σ H1 λy H2=>∃i j,x=.int i/\y=.int j/\k i j H2
variable{a b:Expr}{ta tb:TE}{pos:Pos}
def mE(p:Int->Int->Bool)(ta tb:TE):TE:=λσ H Q=>t2I ta tb (λi j H2=>Q (.bl (p i j)) H2) σ H
abbrev tLt:TE->TE->TE:=mE λi j=>decide (i<j)
abbrev tLe:TE->TE->TE:=mE λi j=>decide (i<=j)
abbrev tGt:TE->TE->TE:=mE λi j=>decide (j<i)
abbrev tGe:TE->TE->TE:=mE λi j=>decide (j<=i)
abbrev zDs:TE->TE->TE:=mE λi j=>decide (i=j)
abbrev zDr:TE->TE->TE:=mE λi j=>!decide (i=j)
def tB(t:TE):TT:=λσ H Q=>t σ H λx H1=>∃c,x=.bl c/\Q c H1
theorem dh{e:Expr}{t:TE}(h:PE X e t)(he:∀whole,isTrue e X.env whole=(do let v <- whole;standAt e.pos;holding [v] (truthy v)):=by intro _;rfl):PT X e (tB t):=by
 intro pins s σ H Q I hw;refine isTrue_plain (aJ (h pins s σ H _ I hw) λv s1 ⟨x,H1,I1,r1,q1⟩=>?_) (he _);obtain⟨d,rfl,q⟩:=q1;cases r1;exact WE ⟨H1,I1,q⟩
variable{tA tB':TT}{ck:List Expr}
def MR(t u:TT):TT:=λσ H Q=>t σ H λc H1=>if c=true then u σ H1 Q else Q false H1
def RC(t u:TT):TT:=λσ H Q=>t σ H λc H1=>if c=true then Q true H1 else u σ H1 Q
def LZ(t:TT):TT:=λσ H Q=>t σ H λc H1=>Q (!c) H1
theorem yr(ha:PT X a tA):PW X (.BoolOp .And [a] pos) tA:=by
 intro wh pins s σ H Q I h;refine isTrue_and (aJ (ha pins s σ H Q I h) λc s1 e=>?_);cases c with
 | true=>exact isTrue_and_nil e
 | false=>exact e
theorem kF(ha:PT X a tA):PW X (.BoolOp .Or [a] pos) tA:=by
 intro wh pins s σ H Q I h;refine isTrue_or (aJ (ha pins s σ H Q I h) λc s1 e=>?_);cases c with
 | false=>exact isTrue_or_nil e
 | true=>exact e
theorem zJ(ha:PT X a tA)(hb:PW X (.BoolOp .And (b::ck) pos) tB'):PW X (.BoolOp .And (a::b::ck) pos) (MR tA tB'):=by
 intro wh pins s σ H Q I h;refine isTrue_and (aJ (ha pins s σ H _ I h) λc s1 ⟨H1,I1,q1⟩=>?_);cases c with
 | true=>exact hb wh pins s1 σ H1 Q I1 q1
 | false=>exact⟨H1,I1,q1⟩
theorem kq(ha:PT X a tA)(hb:PW X (.BoolOp .Or (b::ck) pos) tB'):PW X (.BoolOp .Or (a::b::ck) pos) (RC tA tB'):=by
 intro wh pins s σ H Q I h;refine isTrue_or (aJ (ha pins s σ H _ I h) λc s1 ⟨H1,I1,q1⟩=>?_);cases c with
 | true=>exact⟨H1,I1,q1⟩
 | false=>exact hb wh pins s1 σ H1 Q I1 q1
theorem dR(ha:PT X a tA):PT X (.UnaryOp .Not a pos) (LZ tA):=by
 intro pins s σ H Q I h;exact isTrue_not (ha pins s σ H (λc H1=>Q (!c) H1) I h)
def LO(ta tb:TE):TE:=λσ H Q=>ta σ H λx H1=>∃c,x=.bl c/\if c=true then tb σ H1 Q else Q (.bl false) H1
def NB(ta:TE):TE:=λσ H Q=>ta σ H λx H1=>∃c,x=.bl c/\Q (.bl (!c)) H1
theorem lF{op}{t:TE}(h:PE X a t):PE X (.BoolOp op [a] pos) t:=λpins s σ H Q I hw=>BoolOp_one (h pins s σ H Q I hw)
theorem iW(ha:PE X a ta)(hb:PE X (.BoolOp .And (b::ck) pos) tb):PE X (.BoolOp .And (a::b::ck) pos) (LO ta tb):=by
 intro pins s σ H Q I h;refine BoolOp_and (aJ (ha pins s σ H _ I h) λv s1 ⟨x,H1,I1,r1,q1⟩=>?_);obtain⟨c,rfl,q1⟩:=q1;cases r1;refine WE ?_;cases c with
 | true=>exact hb pins s1 σ H1 Q I1 q1
 | false=>exact⟨.bl false,H1,I1,rfl,q1⟩
theorem nj(ha:PE X a ta):PE X (.UnaryOp .Not a pos) (NB ta):=by
 intro pins s σ H Q I h;refine UnaryOp_ (aJ (ha pins s σ H _ I h) λv s1 ⟨x,H1,I1,r1,q1⟩=>?_);obtain⟨c,rfl,q1⟩:=q1;cases r1;exact not_of (WE ⟨.bl (!c),H1,I1,rfl,q1⟩)
def JL(t:TT)(ta tb:TE):TE:=λσ H Q=>t σ H λc H1=>if c=true then ta σ H1 Q else tb σ H1 Q
theorem yw{c:Expr}(hc:PT X c tA)(ha:PE X a ta)(hb:PE X b tb):PE X (.IfExp c a b pos) (JL tA ta tb):=by
 intro pins s σ H Q I h;refine wpAny_IfExp (aJ (hc pins s σ H _ I h) λd s1 ⟨H1,I1,q1⟩=>?_);cases d with
 | true=>exact ha pins s1 σ H1 Q I1 q1
 | false=>exact hb pins s1 σ H1 Q I1 q1
end
def aI(K:wb)(H:Hp)(a:wf)(xs:List V):Prop :=
 Rd H a (.lst xs) \/
  ∃(o:Obj)(its:Array wg)(n:Nat),K.lookup a=some o/\o.cls=.type "list"/\o.dict=none/\o.data=.seq its n/\its.size<=vd/\aP xs its.toList
def aR(K:wb)(H:Hp)(a:wf)(xs:List V):Prop :=
 Rd H a (.tup xs) \/
  ∃(o:Obj)(its:Array wg)(n:Nat),K.lookup a=some o/\o.cls=.type "tuple"/\o.data=.seq its n/\its.size<=vd/\aP xs its.toList
def zDi:wg->Option V
 | .none=>some .bG
 | .bool b=>some (.bl b)
 | .int i _=>some (.int i)
 | .str x _=>some (.str x)
 | .bytes b _=>some (.byt b)
 | .float b _=>some (.lG b)
 | .ref a=>some (.ref a)
 | .type n=>some (.ty n)
 | _=>none
theorem aY.abs{x:V}{u:wg}(r:aY x u):zDi u=some x:=by
 cases x with
 | bG=>cases r;rfl
 | bl _=>cases r;rfl
 | int _=>obtain⟨t,rfl⟩:=r;rfl
 | str _=>obtain⟨t,rfl⟩:=r;rfl
 | byt _=>obtain⟨t,rfl⟩:=r;rfl
 | lG _=>obtain⟨t,rfl⟩:=r;rfl
 | ref _=>cases r;rfl
 | ty _=>cases r;rfl
theorem aY.inj{x y:V}{u:wg}(r:aY x u)(q:aY y u):x=y:=wK (r.abs.symm.trans q.abs)
theorem aP.inj:∀{xs ys:List V}{us:List wg},aP xs us->aP ys us->xs=ys
 | _,_,_,.nil,.nil=>rfl
 | _,_,_,.cons r t,.cons r' t'=>by rw[r.inj r',aP.inj t t']
section
variable{X:Cx}{pins:List (wf × Obj)}{σ : St}{H:Hp}{s:wl}{a:wf}{xs ys:List V}
theorem aI.of{K:wb}(h:H a=some (.lst xs)):aI K H a xs:=.inl (.inl h)
theorem aR.of{K:wb}(h:H a=some (.tup xs)):aR K H a xs:=.inl (.inl h)
theorem Inv.list(I:Inv X pins σ H s)(h:aI X.K H a xs):∃its:List wg,aP xs its/\PlainL s.heap a its.toArray/\xs.length<=vd:=by
 rcases h with h | ⟨o,its,n,hk,hc,hd,hs,hz,r⟩
 ·obtain⟨z,its,n,r,e⟩:=h.ok I.aF
  exact⟨its,r,⟨_,n,e,rfl,rfl,rfl⟩,z⟩
 ·refine⟨its.toList,r,⟨o,n,I.cW a o hk,hc,hd,by simpa using hs⟩,?_⟩
  have e:=r.length;simp only[wO]at e
  lia
theorem Inv.tuple(I:Inv X pins σ H s)(h:aR X.K H a xs):∃its:List wg,aP xs its/\IsTup s.heap a its.toArray/\xs.length<=vd:=by
 rcases h with h | ⟨o,its,n,hk,hc,hs,hz,r⟩
 ·obtain⟨z,its,r,p⟩:=h.ok I.aF
  exact⟨its,r,p,z⟩
 ·refine⟨its.toList,r,⟨o,I.cW a o hk,hc,n,by simpa using hs⟩,?_⟩
  have e:=r.length;simp only[wO]at e
  lia
theorem Inv.rL(I:Inv X pins σ H s)(h:aI X.K H a xs)(h':aI X.K H a ys):xs=ys:=by
 obtain⟨its,r,⟨o,n,e,_,_,d⟩,_⟩:=I.list h;obtain⟨its',r',⟨o',n',e',_,_,d'⟩,_⟩:=I.list h';rw[e]at e';cases e';rw[d]at d'
 injection d' with d1 _
 have:its=its':=by simpa using congrArg UC d1
 subst this;exact r.inj r'
theorem Inv.AS(I:Inv X pins σ H s)(h:aR X.K H a xs)(h':aR X.K H a ys):xs=ys:=by
 obtain⟨its,r,⟨o,e,_,n,d⟩,_⟩:=I.tuple h;obtain⟨its',r',⟨o',e',_,n',d'⟩,_⟩:=I.tuple h';rw[e]at e';cases e';rw[d]at d'
 injection d' with d1 _
 have:its=its':=by simpa using congrArg UC d1
 subst this;exact r.inj r'
end
abbrev Cx.i_(X:Cx)(E:wg->wl->Prop):Cx:={X with xe:=E}
abbrev Cx.sU(X:Cx):Cx:=X.i_ λ_ _=>False
theorem Cx.Ok.i_{X:Cx}(ok:X.Ok)(E:wg->wl->Prop):(X.i_ E).Ok :=
 ⟨ok.mod,ok.kind,ok.glob,ok.blt,ok.above,ok.inj,ok.has,ok.jS,ok.hd,ok.frames,ok.ki,ok.nV,ok.bs,ok.gm,ok.jE,ok.kg,ok.eB,ok.gW⟩
theorem Cx.Ok.kf{X:Cx}{E:wg->wl->Prop}(ok:(X.i_ E).Ok):X.Ok :=
 ⟨ok.mod,ok.kind,ok.glob,ok.blt,ok.above,ok.inj,ok.has,ok.jS,ok.hd,ok.frames,ok.ki,ok.nV,ok.bs,ok.gm,ok.jE,ok.kg,ok.eB,ok.gW⟩
section
variable{X:Cx}{pins:List (wf × Obj)}{σ : St}{H:Hp}{s:wl}{E:wg->wl->Prop}
theorem Inv.i_(I:Inv X pins σ H s)(E:wg->wl->Prop):Inv (X.i_ E) pins σ H s:=⟨I.ok.i_ E,I.os,I.bare,I.base,I.loc,I.cell,I.free,I.fg,I.pin,I.aF,I.len⟩
theorem Inv.kf(I:Inv (X.i_ E) pins σ H s):Inv X pins σ H s:=⟨I.ok.kf,I.os,I.bare,I.base,I.loc,I.cell,I.free,I.fg,I.pin,I.aF,I.len⟩
theorem SP.kf{D:cq}{f:Flow}{s':wl}(h:SP (X.i_ E) pins D f s'):SP X pins D f s':=by
 cases f with
 | next=>obtain⟨σ',H',I,q⟩:=h;exact⟨σ',H',I.kf,q⟩
 | brk=>obtain⟨σ',H',I,q⟩:=h;exact⟨σ',H',I.kf,q⟩
 | cont=>obtain⟨σ',H',I,q⟩:=h;exact⟨σ',H',I.kf,q⟩
 | ret u=>obtain⟨v,σ',H',I,r,q⟩:=h;exact⟨v,σ',H',I.kf,r,q⟩
theorem ff.sU{st:List vj}{t:TS}(h:ff X.sU st t):ff X st t:=λpins s σ H D I hw =>
 WA (h pins s σ H D (I.i_ _) hw) (λ_ _ q=>q.kf) λ_ _ z=>Wx z
end
section
variable{X:Cx}{st:vj}{ck:List vj}{t u:TS}{e:Expr}{te:TE}{pos:Pos}
def Nj:TS:=λD σ H=>D.nx σ H
def EC(t u:TS):TS:=λD σ H=>t {D with nx:=u D} σ H
theorem bY:ff X [] Nj:=λ_ _ σ H _ I h=>Qe ⟨σ,H,I,h⟩
theorem ak(h1:PS X st t)(h2:ff X ck u):ff X (st::ck) (EC t u):=by
 intro pins s σ H D I h;refine wpAny_execs_cons (aJ (h1 pins s σ H {D with nx:=u D} I h) λf s1 q=>?_);cases f with
 | next =>
  obtain⟨σ',H',I',q⟩:=q;exact h2 pins s1 σ' H' D I' q
 | ret v=>exact q
 | brk=>exact q
 | cont=>exact q
theorem av(h1:PS X st t):ff X [st] t:=by
 intro pins s σ H D I h;refine wpAny_execs_cons (aJ (h1 pins s σ H D I h) λf s1 q=>?_);cases f with
 | next=>exact Qe q
 | ret v=>exact q
 | brk=>exact q
 | cont=>exact q
theorem Inv.quiet{pins:List (wf × Obj)}{σ : St}{H:Hp}{s:wl}(I:Inv X pins σ H s):interactive X.env=false:=by simp[interactive,I.ok.kind]
def OP(te:TE):TS:=λD σ H=>te σ H λ_ H1=>D.nx σ H1
theorem iE(he:PE X e te)(hs:swapsWith e none pos.line X.env=pure false:=by rfl):PS X (.Expr e pos) (OP te):=by
 intro pins s σ H D I h;exact wpAny_Expr_any (aJ (he pins s σ H _ I h) λv s1 ⟨x,H1,I1,r1,q1⟩=>⟨σ,H1,I1,q1⟩) I.quiet hs
def M_(te:TE):TS:=λD σ H=>te σ H D.rt
theorem aG(he:PE X e te):PS X (.Return (some e) pos) (M_ te):=by
 intro pins s σ H D I h;exact wpAny_Return_some (aJ (he pins s σ H _ I h) λv s1 ⟨x,H1,I1,r1,q1⟩=>⟨x,σ,H1,I1,r1,q1⟩)
def Ke(c:TT)(t u:TS):TS:=λD σ H=>c σ H λb H1=>if b=true then t D σ H1 else u D σ H1
theorem bV{c:Expr}{a b:List vj}{tc:TT}(hc:PT X c tc)(ha:ff X a t)(hb:ff X b u):PS X (.If c a b pos) (Ke tc t u):=by
 intro pins s σ H D I h;refine wpAny_If (aJ (hc pins s σ H _ I h) λd s1 ⟨H1,I1,q1⟩=>?_);cases d with
 | true=>exact ha pins s1 σ H1 D I1 q1
 | false=>exact hb pins s1 σ H1 D I1 q1
def zBX:TS:=λ_ _ _=>False
theorem DL:PS X st zBX:=λ_ _ _ _ _ _ h=>h.elim
end
abbrev TG:=V->St->Hp->(St->Hp->Prop)->Prop
abbrev iB:=List V->St->Hp->(St->Hp->Prop)->Prop
def PG(X:Cx)(target:Expr)(t:TG):Prop :=
 ∀(pins:List (wf × Obj))(s:wl)(σ : St)(H:Hp)(v:V)(u:wg)(Q:St->Hp->Prop),Inv X pins σ H s->aY v u->t v σ H Q ->
  wq (model X.prog X.w) X.A (assign target X.env u) (λ_ s'=>∃σ' H',Inv X pins σ' H' s'/\Q σ' H') X.xe s
def nI(X:Cx)(ts:List Expr)(t:iB):Prop :=
 ∀(pins:List (wf × Obj))(s:wl)(σ : St)(H:Hp)(vs:List V)(us:List wg)(Q:St->Hp->Prop),Inv X pins σ H s->aP vs us->t vs σ H Q ->
  wq (model X.prog X.w) X.A (assignInOrder ((VF ts X.env).map (·.2)) us) (λ_ s'=>∃σ' H',Inv X pins σ' H' s'/\Q σ' H') X.xe s
abbrev y8:=V->V->V->Hp->(Hp->Prop)->Prop
def RJ(X:Cx)(t:y8):Prop :=
 ∀(pins:List (wf × Obj))(s:wl)(σ : St)(H:Hp)(o i v:V)(ov iv u:wg)(Q:Hp->Prop),Inv X pins σ H s->aY o ov->aY i iv->aY v u->t o i v H Q ->
  wq (model X.prog X.w) X.A (setItem ov iv u) (λ_ s'=>∃H',Inv X pins σ H' s'/\Q H') X.xe s
abbrev pZ:=V->V->Hp->VK->Prop
def Oc(X:Cx)(op:Operator)(t:pZ):Prop :=
 ∀(pins:List (wf × Obj))(s:wl)(σ : St)(H:Hp)(x y:V)(v u:wg)(Q:VK),Inv X pins σ H s->aY x v->aY y u->t x y H Q ->
  wq (model X.prog X.w) X.A (inplaceOp op v u) (EP X pins σ Q) X.xe s
section
variable{X:Cx}{pos:Pos}
def gg(i:Nat):TG:=λv σ H Q=>Q (σ.set i (some v)) H
theorem aZ{i:Nat}{x:Str}(hN:X.N.Nodup)(hi:X.N[i]? = some x)(hx:Loc X.env.scope x)(hf:X.fn x=true\/X.env.scope.names.lookup x=some .local:=by first | exact .inl rfl | exact .inr rfl | assumption):PG X (.Name x pos) (gg i):=by
 intro pins s σ H v u Q I r h;exact wpAny_assign_Name (mR I hN hi hx r (λs' I'=>⟨_,H,I',h⟩) hf)
def Fe:iB:=λvs σ H Q=>vs=[]/\Q σ H
def Aa(t:TG)(u:iB):iB:=λvs σ H Q=>∃v r,vs=v::r/\t v σ H λσ' H'=>u r σ' H' Q
theorem gf:nI X [] Fe:=by
 intro pins s σ H vs us Q I r h;obtain⟨e,h⟩:=h;subst e;cases r;exact assignInOrder_nil ⟨σ,H,I,h⟩
theorem cR{e:Expr}{es:List Expr}{t:TG}{u:iB}(h1:PG X e t)(h2:nI X es u)
  (hs:(VF (e::es) X.env).map (·.2)=assign e X.env::(VF es X.env).map (·.2):=by rfl):nI X (e::es) (Aa t u):=by
 intro pins s σ H vs us Q I r h;obtain⟨v,vr,e1,h⟩:=h;subst e1;cases r with
 | cons r rr =>
  rw[hs];refine assignInOrder_cons (aJ (h1 pins s σ H _ _ _ I r h) λ_ s1 ⟨σ1,H1,I1,q1⟩=>?_);exact h2 pins s1 σ1 H1 _ _ Q I1 rr q1
def hJ(K:wb)(n:Nat)(t:iB):TG:=λv σ H Q=>∃a xs,v=.ref a/\aR K H a xs/\xs.length=n/\t xs σ H Q
theorem gC{es:List Expr}{k:Nat}{t:iB}{n:Nat}(hc:X.calm=true)(h:nI X es t)
  (hn:(VF es X.env).length=n:=by rfl) (hst:(VF es X.env).findIdx? (·.1)=none:=by rfl):PG X (.Tuple es k pos) (hJ X.K n t):=by
 intro pins s σ H v u Q I r hw;obtain⟨a,xs,e1,hq,hl,hw⟩:=hw;subst e1;cases r;obtain⟨its,rv,ht,hz⟩:=I.tuple hq;refine assign_Tuple_tuple (I.ok.hd hc) ht (by simp[hn,<- hl,rv.length]) hst λh' hx=>?_
 have I1:Inv X pins σ H {s with heap:=h'}:=I.kept (t':=s.toks) λb o e=>hx b o (wL (wA e)) e
 exact h pins _ σ H xs _ Q I1 (by simpa using rv) hw
def Mv(to ti:TE)(t:y8):TG:=λv σ H Q=>to σ H λo H1=>ti σ H1 λi H2=>t o i v H2 λH3=>Q σ H3
theorem yb{o i:Expr}{to ti:TE}{t:y8}(ho:PE X o to)(hi:PE X i ti)(hs:RJ X t)
  (ha:∀v,assign (.Subscript o i pos) X.env v=(do
   let ov <- holding [v] (eval o X.env)
   let iv <- holding [v,ov] (eval i X.env)
   standAt pos
   holding [v,ov,iv] (setItem ov iv v)
   release [v,ov,iv] []):=by intro _;rfl):PG X (.Subscript o i pos) (Mv to ti t):=by
 intro pins s σ H v u Q I r h;rw[ha];refine we (vC (aJ (ho pins s σ H _ I h) λov s1 ⟨x,H1,I1,r1,q1⟩=>?_));refine we (vC (aJ (hi pins s1 σ H1 _ I1 q1) λiv s2 ⟨y,H2,I2,r2,q2⟩=>?_));refine we (qU (we (vC (aJ (hs pins s2 σ H2 x y v ov iv u _ I2 r1 r2 r q2) λ_ s3 ⟨H3,I3,q3⟩=>?_))));exact wpAny_release ⟨σ,H3,I3,q3⟩
def kN(te:TE)(g:TG):TS:=λD σ H=>te σ H λx H1=>g x σ H1 D.nx
theorem kj{tg e:Expr}{te:TE}{g:TG}(he:PE X e te)(hg:PG X tg g)(hs:swapsWithSole [tg] e pos.line X.env=pure false:=by rfl)(hw:swappedStores [tg] e X.env=pure none:=by rfl)
  (h1:(VF [tg] X.env).map (·.2)=[assign tg X.env]:=by rfl):PS X (.Assign [tg] e pos) (kN te g):=by
 intro pins s σ H D I h;refine wpAny_Assign_stores (aJ (he pins s σ H _ I h) λv s1 ⟨x,H1,I1,r1,q1⟩=>?_) hs hw;rw[h1];exact aJ (hg pins s1 σ H1 x v _ I1 r1 q1) λ_ s2 q=>q
theorem zBZ{i:Nat}{x:Str}{e:Expr}{te:TE}{pos':Pos}(hN:X.N.Nodup)(hi:X.N[i]? = some x)(hx:Loc X.env.scope x)(he:PE X e te)(hs:swapsWith e (some (.Name x pos')) pos.line X.env=pure false:=by rfl)(hf:X.fn x=true\/X.env.scope.names.lookup x=some .local:=by first | exact .inl rfl | exact .inr rfl | assumption) :
  PS X (.Assign [.Name x pos'] e pos) (kN te (gg i)):=by
 intro pins s σ H D I h;refine wpAny_Assign_Name (aJ (he pins s σ H _ I h) λv s1 ⟨y,H1,I1,r1,q1⟩=>?_) hs;exact mR I1 hN hi hx r1 (λs2 I2=>⟨_,H1,I2,q1⟩) hf
def KJ(i j:Nat)(ta:TA):TS:=λD σ H=>ta σ H λvs H1=>∃v w,vs=[v,w]/\D.nx ((σ.set i (some v)).set j (some w)) H1
theorem zBg{i j:Nat}{x y:Str}{a b:Expr}{ta:TA}{px py pt:Pos}{kt k2 pt2}(hc:X.calm=true)(hN:X.N.Nodup)(hi:X.N[i]? = some x)(hj:X.N[j]? = some y)(hij:i≠j)
  (hx:X.env.scope.names.lookup x=some .local) (hy:X.env.scope.names.lookup y=some .local) (ha:PA X [a,b] ta)
  (hw:swappedStores [.Tuple [.Name x px,.Name y py] kt pt] (.Tuple [a,b] k2 pt2) X.env=pure (some [x,y]))
  (hs:swapsWithSole [.Tuple [.Name x px,.Name y py] kt pt] (.Tuple [a,b] k2 pt2) pos.line X.env=pure false:=by rfl) :
  PS X (.Assign [.Tuple [.Name x px,.Name y py] kt pt] (.Tuple [a,b] k2 pt2) pos) (KJ i j ta):=by
 intro pins s σ H D I h;rw[exec_Assign_arm];refine we (qU ?_);rw[hs];refine we (wo ?_);rw[if_neg (by decide)];refine we (Tuple_ (aJ (ha _ pins s σ H _ I h) λus s1 ⟨vs,H1,I1,r1,q1⟩=>?_));obtain⟨v,w,e1,q1⟩:=q1;subst e1
 obtain⟨u1,u2,rfl,rv,rw'⟩:∃u1 u2,us=[u1,u2]/\aY v u1/\aY w u2:=by
  cases r1 with
  | cons p q =>
   cases q with
   | cons p' q' =>
    cases q';exact⟨_,_,rfl,p,p'⟩
 refine Ww ?_ (by show 2<=vd;decide);have I2:Inv X pins σ H1 {s1 with heap:=s1.heap.push {cls:=.type "tuple",data:=.seq [u1,u2].toArray}}:=I1.kept (t':=s1.toks) λb o e=>wn _ e
 rw[hw];refine we (wo ?_)
 show wq (model X.prog X.w) X.A (do rule "assign.swapped-stores";let items <- unpackItems (.ref s1.heap.objs.size) 2 none;assignInOrder [λv=>bindName X.env y v,λv=>bindName X.env x v] items.reverse;pure Flow.next) _ _ _
 refine we (qp (we (unpackItems_tuple (items:=#[u1,u2]) (I.ok.hd hc) (QD s1.heap _) λh' hx'=>?_)));have I3:=I2.kept (h':=h') (t':=s1.toks) λb o e=>hx' b o (wL (wA e)) e
 show wq _ _ (assignInOrder [λv=>bindName X.env y v,λv=>bindName X.env x v] [u2,u1] >>= λ_=>pure Flow.next) _ _ _
 refine we (assignInOrder_cons (wpAny_bindName (mR I3 hN hj (.inl hy) rw' (λs2 I4=>?_) (.inr hy))));refine assignInOrder_cons (wpAny_bindName (mR I4 hN hi (.inl hx) rv (λs3 I5=>assignInOrder_nil (wo ?_)) (.inr hx)));rw[List.set_comm _ _ (Wp hij)]at I5;exact⟨_,H1,I5,q1⟩
def O1(i:Nat)(te:TE)(ti:pZ):TS:=λD σ H=>∃x,σ[i]? = some (some x)/\te σ H λy H1=>ti x y H1 λz H2=>D.nx (σ.set i (some z)) H2
theorem zA1{i:Nat}{x:Str}{e:Expr}{te:TE}{op:Operator}{ti:pZ}{pos':Pos}(hN:X.N.Nodup)(hi:X.N[i]? = some x)(hx:Loc X.env.scope x)(he:PE X e te)(ho:Oc X op ti)(hf:X.fn x=true\/X.env.scope.names.lookup x=some .local:=by first | exact .inl rfl | exact .inr rfl | assumption) :
  PS X (.AugAssign (.Name x pos') op e pos) (O1 i te ti):=by
 intro pins s σ H D I h;obtain⟨v,e1,h⟩:=h;obtain⟨m,hn,hl⟩:=I.loc;have Dc:zA X.env.scope x:=by rcases hx with k | k;exact .inl k;exact .inr (.inl k)
 obtain⟨u,r,l⟩:=hl i x v hi e1 Dc;refine wpAny_AugAssign_Name ?_
 have go:wq (model X.prog X.w) X.A (eval e X.env) (λw s₂=>wq (model X.prog X.w) X.A (inplaceOp op u w) (λr s₃=>wq (model X.prog X.w) X.A (storeName X.env x r) (λ_=>SP X pins D .next) X.xe s₃) X.xe s₂) X.xe s:=by
  refine aJ (he pins s σ H _ I h) λw s1 ⟨y,H1,I1,r1,q1⟩=>?_
  refine aJ (ho pins s1 σ H1 v y u w _ I1 r r1 q1) λz s2 ⟨zv,H2,I2,r2,q2⟩=>?_
  exact mR I2 hN hi hx r2 (λs3 I3=>⟨_,H2,I3,q2⟩) hf
 rcases l with⟨hk,hm⟩ | ⟨hk,c,hc,hcell⟩
 ·exact wpAny_loadName_local I.ok.kind hk hn hm go
 ·rcases hk with hk | hk
  ·exact wpAny_loadName_cell I.ok.kind hk hc hcell go
  ·rcases hx with k | k
   ·have:X.env.scope.names.lookup x=some .free:=hk
    rw[k]at this;cases this
   ·have:X.env.scope.names.lookup x=some .free:=hk
    rw[k]at this;cases this
def IW(f:Int->Int->Int):pZ:=λx y H Q=>∃i j,x=.int i/\y=.int j/\Q (.int (f i j)) H
theorem Yu:Oc X .Add (IW λi j=>i+j):=by
 intro pins s σ H x y v u Q I r1 r2 h;obtain⟨i,j,e1,e2,q⟩:=h;subst e1;subst e2;obtain⟨t,rfl⟩:=r1;obtain⟨t',rfl⟩:=r2;exact iadd_int ⟨.int _,H,I.tok _,⟨_,rfl⟩,q⟩
end
section
variable{X:Cx}{pos:Pos}
def Cc(c:TT)(tb:TS):TS:=λD σ H=>∃W:Nat->St->Hp->Prop,(∃m,W m σ H) /\ ∀m σ H,W m σ H ->
 c σ H λb H1=>if b=true then ∃N:St->Hp->Prop,(∀σ' H',N σ' H'->∃m',m'<m/\W m' σ' H')/\tb {D with nx:=N,ct:=N,bk:=D.nx} σ H1 else D.nx σ H1
theorem mT{c:Expr}{body:List vj}{tc:TT}{tb:TS}(hp:PassesOwn (model X.prog X.w) X.A X.env X.xe)(hc:PT X c tc)(hb:ff X body tb):PS X (.While c body [] pos) (Cc tc tb):=by
 intro pins s σ H D I h;obtain⟨W,⟨m0,w0⟩,turn⟩:=h;refine wpAny_While (codeAny_whileLoop (λn s'=>∃σ' H',Inv X pins σ' H' s'/\W n σ' H') ?_ m0 ⟨σ,H,I,w0⟩);rintro n s1 ⟨σ1,H1,I1,w1⟩;refine VP hp (aJ (hc pins s1 σ1 H1 _ I1 (turn n σ1 H1 w1)) λb s2 ⟨H2,I2,q2⟩=>?_);cases b with
 | true =>
  obtain⟨N,hN,q2⟩:=q2;rw[if_pos rfl];refine VP hp (aJ (hb pins s2 σ1 H2 _ I2 q2) λf s3 q3=>?_);cases f with
  | next =>
   obtain⟨σ3,H3,I3,n3⟩:=q3;obtain⟨m',hm,w3⟩:=hN σ3 H3 n3;exact⟨m',hm,σ3,H3,I3,w3⟩
  | cont =>
   obtain⟨σ3,H3,I3,n3⟩:=q3;obtain⟨m',hm,w3⟩:=hN σ3 H3 n3;exact⟨m',hm,σ3,H3,I3,w3⟩
  | brk=>exact q3
  | ret v=>exact q3
 | false =>
  rw[if_neg vG];exact Qe ⟨σ1,H2,I2,q2⟩
end
structure It where
 go:Nat->Hp->Prop
 fB:Nat->Hp->V->Hp->Prop
 stop:Nat->Hp->Prop
def d9(X:Cx)(pins:List (wf × Obj))(H:Hp)(b:wf):Prop :=
 H b=none/\b≠X.env.locals/\b ∉ X.fs/\(b∈X.ex\/X.s₀.heap.objs.size<=b)/\(∀x c,X.env.cells.lookup x=some c->c≠b) /\ ∀p∈X.pn++pins,p.1≠b
theorem Inv.iY{X:Cx}{pins:List (wf × Obj)}{σ : St}{H H':Hp}{s:wl}{b:wf}(I:Inv X pins σ H s)(hb:s.heap.objs.size<=b)(hn:H' b=none):d9 X pins H' b:=by
 refine⟨hn,vi (wU I.lt hb),I.UO hb,.inr (Wk I.sz hb),λx c e z=>?_,λp hp z=>?_⟩
 ·obtain⟨v,q⟩:=I.cell x c e
  exact absurd (wU q.lt (by rw[z];exact hb)) (VR _)
 ·exact absurd (wU (wA (I.pin p hp).1) (by rw[z];exact hb)) (VR _)
structure iH(P:wJ)(w:wM)(K:wb)(tg:Expr)(J:It)(fp:List wf)(it:wf)(tn:Nat->wH->Prop):Prop where
 mem:it∈fp
 obj:∀i h,tn i h->∀b∈fp,∃o,h.get? b=some o /\ ∀v,o.data≠.cell v
 keep:∀i h h',tn i h->(∀b∈fp,∀o,h.get? b=some o->h'.get? b=some o)->tn i h'
 item:∀(X:Cx),X.prog=P->X.w=w->X.K=K->X.calm=true->∀(i:Nat)(pins:List (wf × Obj))(s:wl)(σ : St)(H:Hp)(E:wg->wl->Prop),Inv X pins σ H s->(∀b∈fp,d9 X pins H b)->tn i s.heap->J.go i H ->
   wq (model P w) X.A (Vo (.ref it)) (λr s1=>∃u,r=some u /\
     wq (model P w) X.A (Qf tg (.ref it) u) (λ_ s2=>∃x H',Inv X pins σ H' s2/\aY x u/\J.fB i H x H'/\tn (i+1) s2.heap /\ ∀b∈fp,H' b=none) E s1) E s
 done:∀(X:Cx),X.prog=P->X.w=w->X.K=K->X.calm=true->∀(i:Nat)(pins:List (wf × Obj))(s:wl)(σ : St)(H:Hp)(E:wg->wl->Prop),Inv X pins σ H s->(∀b∈fp,d9 X pins H b)->tn i s.heap->J.stop i H ->
   wq (model P w) X.A (Vo (.ref it)) (λr s1=>r=none/\Inv X pins σ H s1) E s
 self:∀(A:wW)(i:Nat)(s:wl)(Q:wg->wl->Prop)(E:wg->wl->Prop),tn i s.heap->Q (.ref it) s->wq (model P w) A (pyIter (.ref it)) Q E s
abbrev TI:=St->Hp->(It->Hp->Prop)->Prop
def B7(X:Cx)(pins:List (wf × Obj))(σ : St)(tg:Expr)(R:It->Hp->Prop)(itv:wg)(s2:wl):Prop :=
 ∃(it:wf)(fp:List wf)(tn:Nat->wH->Prop)(J:It)(H':Hp),itv=.ref it/\Inv X pins σ H' s2/\iH X.prog X.w X.K tg J fp it tn/\tn 0 s2.heap/\(∀b∈fp,d9 X pins H' b)/\R J H'
def PI(X:Cx)(tg iter:Expr)(wi:TI):Prop :=
 ∀(pins:List (wf × Obj))(s:wl)(σ : St)(H:Hp)(R:It->Hp->Prop),Inv X pins σ H s->wi σ H R ->
  wq (model X.prog X.w) X.A (eval iter X.env) (λv s1=>wq (model X.prog X.w) X.A (pyIter v) (B7 X pins σ tg R) X.xe s1) X.xe s
theorem yM{M:Model}{A:wW}{E:wg->wl->Prop}{s:wl}{tg:Expr}{it:wf}{u:wg}{o:Obj}{n:String}{vs:Array wg}{Q:Unit->wl->Prop}(ho:s.heap.get? it=some o)(hc:o.cls=.type n)(hd:o.data=.fields vs)
   (hn:["enumerate","zip","dict_itemiterator","dict_reverseitemiterator","odict_iterator","itertools.zip_longest","itertools.pairwise"].contains n=false) (hQ:Q () s):wq M A (Qf tg (.ref it) u) Q E s:=by
 unfold Qf
 cases tg<;>first
   | exact wo hQ
   | (cases u<;>first
       | exact wo hQ
       | (refine we (wpAny_load ho ?_)
          rw[hc,hd]
          show wq M A (if(["enumerate","zip","dict_itemiterator","dict_reverseitemiterator","odict_iterator","itertools.zip_longest","itertools.pairwise"].contains n&&vs[0]? == some (VY _))=true then _ else _) Q E s
          rw[if_neg (by intro h;rw[hn,Vf]at h;cases h)];exact wo hQ))
def iK(K:wb)(a:wf):It :=
 ⟨λi H=>∃xs x,aI K H a xs/\xs[i]? = some x,λi H x H'=>H'=H /\ ∀xs,aI K H a xs->xs[i]? = some x,λi H=>∃xs,aI K H a xs/\xs.length<=i⟩
def jn(K:wb)(a:wf):It :=
 ⟨λi H=>∃xs x,aR K H a xs/\xs[i]? = some x,λi H x H'=>H'=H /\ ∀xs,aR K H a xs->xs[i]? = some x,λi H=>∃xs,aR K H a xs/\xs.length<=i⟩
def fW(lo:Int)(n:Nat):It:=⟨λi _=>i<n,λi H x H'=>H'=H/\x=.int (lo+i),λi _=>n<=i⟩
theorem B_{P:wJ}{w:wM}{K:wb}{tg:Expr}(a it:wf):iH P w K tg (iK K a) [it] it (λi h=>h.IsListIter it a i) where
 mem:=by simp
 obj:=λi h st b hb=>by
  have e:b=it:=by simpa using hb
  subst e;obtain⟨o,e,c,d⟩:=st;exact⟨o,e,λv z=>by rw[d]at z;cases z⟩
 keep:=λi h h' st k=>st.at λo e=>k it (by simp) o e
 item:=by
  intro X hP hw hK hc i pins s σ H E I hf st hg;subst hP hw hK;obtain⟨xs,x,hq,hx⟩:=hg;obtain⟨its,rv,p,hz⟩:=I.list hq;obtain⟨u,hu,ru⟩:=rv.get hx;obtain⟨f0,f1,f2,f3,f4,f5⟩:=hf it (by simp);refine wpAny_pyNext_list_item st p.isList (x:=u) (by simpa using hu) λh' st' sb=>?_
  have I1:Inv X pins σ H {s with heap:=h'}:=I.turned (t':=s.toks) (λb o hb e=>(sb.2 b hb).trans e) f0 f1 f3 f4 f5;obtain⟨o,e,c,d⟩:=id st';exact⟨u,rfl,yM (s:={s with heap:=h'}) e c d (by decide) ⟨x,H,I1,ru,⟨rfl,λys hy=>by rw[I.rL hy hq];exact hx⟩,st',λb hb=>(hf b hb).1⟩⟩
 done:=by
  intro X hP hw hK hc i pins s σ H E I hf st hg;subst hP hw hK;obtain⟨xs,hq,hx⟩:=hg;obtain⟨its,rv,p,hz⟩:=I.list hq;obtain⟨f0,f1,f2,f3,f4,f5⟩:=hf it (by simp);have hl:=rv.length;exact wpAny_pyNext_list_end (I.ok.hd hc) st p.isList (by simp;lia) λh' eb=>⟨rfl,I.turned (t':=s.toks) (λb o hb e=>eb b o hb e) f0 f1 f3 f4 f5⟩
 self:=λ_ _ _ _ _ st h=>wpAny_pyIter_listiter st h
theorem Pw{P:wJ}{w:wM}{K:wb}{tg:Expr}(a it:wf):iH P w K tg (jn K a) [it] it (λi h=>h.IsTupleIter it a i) where
 mem:=by simp
 obj:=λi h st b hb=>by
  have e:b=it:=by simpa using hb
  subst e;obtain⟨o,e,c,d⟩:=st;exact⟨o,e,λv z=>by rw[d]at z;cases z⟩
 keep:=λi h h' st k=>st.at λo e=>k it (by simp) o e
 item:=by
  intro X hP hw hK hc i pins s σ H E I hf st hg;subst hP hw hK;obtain⟨xs,x,hq,hx⟩:=hg;obtain⟨its,rv,p,hz⟩:=I.tuple hq;obtain⟨u,hu,ru⟩:=rv.get hx;obtain⟨f0,f1,f2,f3,f4,f5⟩:=hf it (by simp);refine wpAny_pyNext_tuple_item st (show s.heap.IsTuple a its.toArray from p) (x:=u) (by simpa using hu) λh' st' sb=>?_
  have I1:Inv X pins σ H {s with heap:=h'}:=I.turned (t':=s.toks) (λb o hb e=>(sb.2 b hb).trans e) f0 f1 f3 f4 f5;obtain⟨o,e,c,d⟩:=id st';exact⟨u,rfl,yM (s:={s with heap:=h'}) e c d (by decide) ⟨x,H,I1,ru,⟨rfl,λys hy=>by rw[I.AS hy hq];exact hx⟩,st',λb hb=>(hf b hb).1⟩⟩
 done:=by
  intro X hP hw hK hc i pins s σ H E I hf st hg;subst hP hw hK;obtain⟨xs,hq,hx⟩:=hg;obtain⟨its,rv,p,hz⟩:=I.tuple hq;obtain⟨f0,f1,f2,f3,f4,f5⟩:=hf it (by simp);have hl:=rv.length;exact wpAny_pyNext_tuple_end (I.ok.hd hc) st (show s.heap.IsTuple a its.toArray from p) (by simp;lia) λh' eb=>⟨rfl,I.turned (t':=s.toks) (λb o hb e=>eb b o hb e) f0 f1 f3 f4 f5⟩
 self:=λ_ _ _ _ _ st h=>wpAny_pyIter_tupleiter st h
theorem zsO{P:wJ}{w:wM}{K:wb}{tg:Expr}(it:wf)(lo:Int)(n:Nat):iH P w K tg (fW lo n) [it] it (λi h=>IsRangeIter h it (lo+(i:Nat)*1) ((n:Int)-(i:Nat)) 1) where
 mem:=by simp
 obj:=λi h st b hb=>by
  have e:b=it:=by simpa using hb
  subst e
  exact⟨_,st,λv z=>by
   have z':Data.fields _=Data.cell v:=z;cases z'⟩
 keep:=λi h h' st k=>k it (by simp) _ st
 item:=by
  intro X hP hw hK hc i pins s σ H E I hf st hg;subst hP hw hK;obtain⟨f0,f1,f2,f3,f4,f5⟩:=hf it (by simp);have W:=Walks.range (prog:=X.prog) (w:=X.w) (I.ok.hd hc) it lo 1 n;refine W.item i s _ _ hg st λv h' tk hv st' kk=>?_
  obtain⟨t,rfl⟩:=hv;have I1:Inv X pins σ H {s with heap:=h',toks:=tk}:=I.turned (λb o hb e=>kk b o (by simpa using hb) e) f0 f1 f3 f4 f5;refine⟨_,rfl,yM (s:={s with heap:=h',toks:=tk}) (n:="range_iterator") st' rfl rfl (by decide) ⟨.int (lo+i),H,I1,⟨t,?_⟩,⟨rfl,rfl⟩,st',λb hb=>(hf b hb).1⟩⟩;rw[xS]
 done:=by
  intro X hP hw hK hc i pins s σ H E I hf st hg;subst hP hw hK;obtain⟨f0,f1,f2,f3,f4,f5⟩:=hf it (by simp);exact wpAny_pyNext_range_end (I.ok.hd hc) st (by have:n<=i:=hg;lia) λh' eb=>⟨rfl,I.turned (t':=s.toks) (λb o hb e=>eb b o hb e) f0 f1 f3 f4 f5⟩
 self:=λ_ _ _ _ _ st h=>wpAny_pyIter_rangeiter st h
section
variable{X:Cx}{tg:Expr}
def zF(K:wb)(tl:TE):TI:=λσ H R=>tl σ H λx H1=>∃a,x=.ref a/\(∃xs,aI K H1 a xs)/\R (iK K a) H1
def BP(K:wb)(tl:TE):TI:=λσ H R=>tl σ H λx H1=>∃a,x=.ref a/\(∃xs,aR K H1 a xs)/\R (jn K a) H1
theorem iU{l:Expr}{tl:TE}(hl:PE X l tl):PI X tg l (zF X.K tl):=by
 intro pins s σ H R I h;refine aJ (hl pins s σ H _ I h) λv s1 ⟨x,H1,I1,r1,q1⟩=>?_
 obtain⟨a,e,⟨xs,hq⟩,q⟩:=q1;subst e;cases r1;obtain⟨its,rv,p,hz⟩:=I1.list hq;refine VZ p.isList ?_;refine⟨s1.heap.objs.size,[s1.heap.objs.size],_,_,H1,rfl,I1.kept (t':=s1.toks) λb o e=>wn _ e,B_ a _,⟨_,wP _ rfl,rfl,rfl⟩,λb hb=>?_,q⟩;have e:b=s1.heap.objs.size:=by simpa using hb
 subst e;exact I1.iY (wp _) (I1.aF.fresh (wp _))
theorem iM{l:Expr}{tl:TE}(hl:PE X l tl):PI X tg l (BP X.K tl):=by
 intro pins s σ H R I h;refine aJ (hl pins s σ H _ I h) λv s1 ⟨x,H1,I1,r1,q1⟩=>?_
 obtain⟨a,e,⟨xs,hq⟩,q⟩:=q1;subst e;cases r1;obtain⟨its,rv,p,hz⟩:=I1.tuple hq;refine VL (show s1.heap.IsTuple a its.toArray from p) ?_;refine⟨s1.heap.objs.size,[s1.heap.objs.size],_,_,H1,rfl,I1.kept (t':=s1.toks) λb o e=>wn _ e,Pw a _,⟨_,wP _ rfl,rfl,rfl⟩,λb hb=>?_,q⟩;have e:b=s1.heap.objs.size:=by simpa using hb
 subst e;exact I1.iY (wp _) (I1.aF.fresh (wp _))
theorem R4{pins:List (wf × Obj)}{σ : St}{H:Hp}{s:wl}{R:It->Hp->Prop}{E:wg->wl->Prop}{lo hi:Int}{t u v:Tok}{tk:Nat}(I:Inv X pins σ H s)(h1 : -(2^62)<=lo)(h2:lo<2^62)(h3 : -(2^62)<=hi)(h4:hi<2^62)
  (q:R (fW lo (hi-lo).toNat) H):wq (model X.prog X.w) X.A (pyIter (.ref s.heap.objs.size)) (B7 X pins σ tg R) E {s with heap:=s.heap.push {cls:=.type "range",data:=.fields #[.int lo t,.int hi u,.int 1 v]},toks:=tk}:=by
 refine wpAny_pyIter_range (UJ ..) (small_one h1 h2 h3 h4) ?_;have I1:Inv X pins σ H {s with heap:=s.heap.push {cls:=.type "range",data:=.fields #[.int lo t,.int hi u,.int 1 v]},toks:=tk}:=I.kept λb o e=>wn _ e
 refine⟨(s.heap.push {cls:=.type "range",data:=.fields #[.int lo t,.int hi u,.int 1 v]}).objs.size,[(s.heap.push {cls:=.type "range",data:=.fields #[.int lo t,.int hi u,.int 1 v]}).objs.size],_,_,H,rfl,
  I1.kept (t':=tk) λb o e=>wn _ e,zsO _ lo (hi-lo).toNat,?_,λb hb=>?_,q⟩
 ·have e1:lo+((0:Nat):Int)*1=lo:=by simp
  have e2:(((hi-lo).toNat:Nat):Int)-((0:Nat):Int)=UI lo hi 1:=by rw[rangeSize_one];split<;>lia
  show IsRangeIter _ _ (lo+((0:Nat):Int)*1) ((((hi-lo).toNat:Nat):Int)-((0:Nat):Int)) 1
  rw[e1,e2];exact wP _ rfl
 ·have e:b=(s.heap.push {cls:=.type "range",data:=.fields #[.int lo t,.int hi u,.int 1 v]}).objs.size:=by simpa using hb
  subst e;exact I1.iY (wp _) (I1.aF.fresh (wp _))
def BX(ta:TA):TI:=λσ H R=>ta σ H λvs H1=>∃j:Int,vs=[.int j] /\ -(2^62)<=j/\j<2^62/\R (fW 0 j.toNat) H1
def Pr(ta:TA):TI:=λσ H R=>ta σ H λvs H1=>∃i j:Int,vs=[.int i,.int j]/\(-(2^62)<=i/\i<2^62 /\ -(2^62)<=j/\j<2^62)/\R (fW i (j-i).toNat) H1
theorem jj{a:Expr}{ta:TA}{p pos:Pos}(hg:Gl X "range")(hm:X.mg "range"=none)(ha:PA X [a] ta)(hs:va [a] X.env=[(false,eval a X.env)]:=by rfl):PI X tg (.Call (.Name "range" p) [a] [] pos) (BX ta):=by
 intro pins s σ H R I h;refine Call_ (gx I hg hm boot_range (vD (aJ (ha pos pins s σ H _ I h) λus s1 ⟨vs,H1,I1,r1,q1⟩=>?_) hs rfl));obtain⟨j,e,q1,q2,q⟩:=q1;subst e;cases r1 with
 | cons r rr =>
  cases rr;obtain⟨t,rfl⟩:=r;exact call_range_1 (R4 I1 (by lia) (by lia) q1 q2 (by simpa using q))
theorem ZU{a b:Expr}{ta:TA}{p pos:Pos}(hg:Gl X "range")(hm:X.mg "range"=none)(ha:PA X [a,b] ta)(hs:va [a,b] X.env=[(false,eval a X.env),(false,eval b X.env)]:=by rfl)(hs2:va [b] X.env=[(false,eval b X.env)]:=by rfl) :
  PI X tg (.Call (.Name "range" p) [a,b] [] pos) (Pr ta):=by
 intro pins s σ H R I h;refine Call_ (gx I hg hm boot_range (vD (aJ (ha pos pins s σ H _ I h) λus s1 ⟨vs,H1,I1,r1,q1⟩=>?_) (by rw[hs,hs2]) (by rw[hs2];rfl)));obtain⟨i,j,e,⟨q1,q2,q3,q4⟩,q⟩:=q1;subst e;cases r1 with
 | cons r rr =>
  cases rr with
  | cons r' rr =>
   cases rr;obtain⟨t,rfl⟩:=r;obtain⟨t',rfl⟩:=r';exact call_range_2 (R4 I1 q1 q2 q3 q4 q)
def kR(wi:TI)(g:TG)(tb:TS):TS:=λD σ H=>wi σ H λJ H1=>∃W:Nat->Nat->St->Hp->Prop,(∃m,W 0 m σ H1) /\ ∀i m σ H,W i m σ H ->
 (J.stop i H/\D.nx σ H)\/(J.go i H /\ ∃N:St->Hp->Prop,(∀σ' H',N σ' H'->∃m',m'<m/\W (i+1) m' σ' H') /\ ∀x H',J.fB i H x H'->g x σ H' λσ2 H2=>tb {D with nx:=N,ct:=N,bk:=D.nx} σ2 H2)
def pU(fp:List wf)(h:wH):List (wf × Obj):=fp.filterMap λb=>(h.get? b).map λo=>(b,o)
theorem zI{fp:List wf}{h:wH}{b:wf}{o:Obj}(hb:b∈fp)(e:h.get? b=some o):(b,o)∈pU fp h:=Qg.mpr ⟨b,hb,by rw[e];rfl⟩
theorem zu6{fp:List wf}{h:wH}{p:wf × Obj}(hp:p∈pU fp h):p.1∈fp/\h.get? p.1=some p.2:=by
 obtain⟨b,hb,e⟩:=Qg.mp hp;cases q:h.get? b with
 | none=>rw[q]at e;cases e
 | some o =>
  rw[q]at e;have e':(b,o)=p:=wK e;subst e';exact⟨hb,q⟩
theorem Inv.pinned{pins:List (wf × Obj)}{σ : St}{H:Hp}{s:wl}{fp:List wf}(I:Inv X pins σ H s)(hf:∀b∈fp,d9 X pins H b)(ho:∀b∈fp,∃o,s.heap.get? b=some o /\ ∀v,o.data≠.cell v):Inv X (pins++pU fp s.heap) σ H s :=
 I.HR λp hp=>(We.mp hp).elim (λz=>I.pin p (Wc _ z)) λz=>by
  obtain⟨hb,e⟩:=zu6 z;obtain⟨f0,f1,f2,_⟩:=hf p.1 hb;obtain⟨o,e',d⟩:=ho p.1 hb;rw[e]at e';cases e';exact⟨e,f0,f1,f2,d⟩
theorem Inv.rK{pins pl:List (wf × Obj)}{σ : St}{H:Hp}{s:wl}(I:Inv X (pins++pl) σ H s):Inv X pins σ H s:=I.HR λp hp=>I.pin p (Wc _ (Wo _ hp))
theorem fu{iter:Expr}{body:List vj}{wi:TI}{g:TG}{tb:TS}{pos:Pos}(hp:PassesOwn (model X.prog X.w) X.A X.env X.xe)(hc:X.calm=true)(hi:PI X tg iter wi)(hg:PG X tg g)(hb:ff X body tb)
  (hs:∀x,foldedSetIterable iter X.env x=pure x:=by intro _;rfl):PS X (.For tg iter body [] pos) (kR wi g tb):=by
 intro pins s σ H D I h;refine wpAny_For (aJ (hi pins s σ H _ I h) λv s1 h1=>aJ h1 λitv s2 h2=>?_) hs;obtain⟨it,fp,tn,J,H2,e,I2,T,st2,f2,W,⟨m0,w0⟩,turn⟩:=h2;subst e
 -- what stays true of the iterator's objects through the loop
 have stat:∀{H':Hp},(∀b∈fp,H' b=none)->∀b∈fp,d9 X pins H' b:=λhn b hb=>⟨hn b hb,(f2 b hb).2⟩
 refine codeAny_forLoop_any (λn s'=>∃i σ' H',Inv X pins σ' H' s'/\tn i s'.heap/\(∀b∈fp,H' b=none)/\W i n σ' H') ?_ m0 ⟨0,σ,H2,I2,st2,λb hb=>(f2 b hb).1,w0⟩;rintro n s3 ⟨i,σ3,H3,I3,st3,fr3,w3⟩;rcases turn i n σ3 H3 w3 with⟨stop,qn⟩ | ⟨go,N,hN,step⟩
 ·refine VP hp (aJ (T.done X rfl rfl rfl hc i pins s3 σ3 H3 X.xe I3 (stat fr3) st3 stop) λr s4 ⟨hr,I4⟩=>?_)
  subst hr;exact Qe ⟨σ3,H3,I4,qn⟩
 ·refine VP hp (aJ (T.item X rfl rfl rfl hc i pins s3 σ3 H3 X.xe I3 (stat fr3) st3 go) λr s4 ⟨u,hr,h4⟩=>?_)
  subst hr;refine VP hp (aJ h4 λ_ s5 ⟨x,H5,I5,r5,y5,st5,fr5⟩=>?_);have I5':=I5.pinned (stat fr5) (T.obj _ _ st5);refine VP hp (aJ (hg _ s5 σ3 H5 x u _ I5' r5 (step x H5 y5)) λ_ s6 ⟨σ6,H6,I6,q6⟩=>?_);refine VP hp (aJ (hb _ s6 σ6 H6 _ I6 q6) λf s7 q7=>?_)
  have again:∀{σ7:St}{H7:Hp},Inv X (pins++pU fp s5.heap) σ7 H7 s7->N σ7 H7->∃m,m<n /\ ∃i σ' H',Inv X pins σ' H' s7/\tn i s7.heap/\(∀b∈fp,H' b=none)/\W i m σ' H':=λ{σ7 H7} I7 n7=>by
   obtain⟨m',hm,w7⟩:=hN σ7 H7 n7;refine⟨m',hm,i+1,σ7,H7,I7.rK,T.keep _ _ _ st5 λb hb o e=>(I7.pin (b,o) (Wc _ (Wc _ (zI hb e)))).1,λb hb=>?_,w7⟩;obtain⟨o,e,d⟩:=T.obj _ _ st5 b hb;exact(I7.pin (b,o) (Wc _ (Wc _ (zI hb e)))).2.1
  cases f with
  | next=>obtain⟨σ7,H7,I7,n7⟩:=q7;exact again I7 n7
  | cont=>obtain⟨σ7,H7,I7,n7⟩:=q7;exact again I7 n7
  | brk=>obtain⟨σ7,H7,I7,q7⟩:=q7;exact⟨σ7,H7,I7.rK,q7⟩
  | ret v=>obtain⟨x7,σ7,H7,I7,r7,q7⟩:=q7;exact⟨x7,σ7,H7,I7.rK,r7,q7⟩
end
theorem zwq{K:wb}{a:wf}{xs:List V}{g:TG}{tb:TS}{D:cq}{σ : St}{H:Hp}(Pv:Nat->St->Hp->Prop)(h0:Pv 0 σ H)(hl:∀i σ H,i<=xs.length->Pv i σ H->aI K H a xs)
  (hs:∀i x σ H,xs[i]? = some x->Pv i σ H->g x σ H λσ2 H2=>tb {D with nx:=Pv (i+1),ct:=Pv (i+1),bk:=D.nx} σ2 H2) (hd:∀σ H,Pv xs.length σ H->D.nx σ H) :
  ∃W:Nat->Nat->St->Hp->Prop,(∃m,W 0 m σ H) /\ ∀i m σ H,W i m σ H ->
   ((iK K a).stop i H/\D.nx σ H)\/((iK K a).go i H /\ ∃N:St->Hp->Prop,(∀σ' H',N σ' H'->∃m',m'<m/\W (i+1) m' σ' H') /\ ∀x H',(iK K a).fB i H x H'->g x σ H' λσ2 H2=>tb {D with nx:=N,ct:=N,bk:=D.nx} σ2 H2):=by
 refine⟨λi m σ H=>m=xs.length-i/\i<=xs.length/\Pv i σ H,⟨xs.length,by simp,Wu _,h0⟩,?_⟩;rintro i m σ H ⟨rfl,hi,p⟩;have q:=hl i σ H hi p
 by_cases hlt:i<xs.length
 ·refine .inr ⟨⟨xs,xs[i],q,by simp[hlt]⟩,Pv (i+1),λσ' H' p'=>⟨xs.length-(i+1),by lia,rfl,hlt,p'⟩,λx H' y=>?_⟩
  obtain⟨e,y⟩:=y;subst e;exact hs i x σ _ (y xs q) p
 ·have e:i=xs.length:=by lia
  subst e;exact .inl ⟨⟨xs,q,wp _⟩,hd σ H p⟩
theorem zyQ{K:wb}{a:wf}{xs:List V}{g:TG}{tb:TS}{D:cq}{σ : St}{H:Hp}(Pv:Nat->St->Hp->Prop)(h0:Pv 0 σ H)(hl:∀i σ H,i<=xs.length->Pv i σ H->aR K H a xs)
  (hs:∀i x σ H,xs[i]? = some x->Pv i σ H->g x σ H λσ2 H2=>tb {D with nx:=Pv (i+1),ct:=Pv (i+1),bk:=D.nx} σ2 H2) (hd:∀σ H,Pv xs.length σ H->D.nx σ H) :
  ∃W:Nat->Nat->St->Hp->Prop,(∃m,W 0 m σ H) /\ ∀i m σ H,W i m σ H ->
   ((jn K a).stop i H/\D.nx σ H)\/((jn K a).go i H /\ ∃N:St->Hp->Prop,(∀σ' H',N σ' H'->∃m',m'<m/\W (i+1) m' σ' H') /\ ∀x H',(jn K a).fB i H x H'->g x σ H' λσ2 H2=>tb {D with nx:=N,ct:=N,bk:=D.nx} σ2 H2):=by
 refine⟨λi m σ H=>m=xs.length-i/\i<=xs.length/\Pv i σ H,⟨xs.length,by simp,Wu _,h0⟩,?_⟩;rintro i m σ H ⟨rfl,hi,p⟩;have q:=hl i σ H hi p
 by_cases hlt:i<xs.length
 ·refine .inr ⟨⟨xs,xs[i],q,by simp[hlt]⟩,Pv (i+1),λσ' H' p'=>⟨xs.length-(i+1),by lia,rfl,hlt,p'⟩,λx H' y=>?_⟩
  obtain⟨e,y⟩:=y;subst e;exact hs i x σ _ (y xs q) p
 ·have e:i=xs.length:=by lia
  subst e;exact .inl ⟨⟨xs,q,wp _⟩,hd σ H p⟩
theorem MZ{lo:Int}{n:Nat}{g:TG}{tb:TS}{D:cq}{σ : St}{H:Hp}(Pv:Nat->St->Hp->Prop)(h0:Pv 0 σ H)
  (hs:∀i σ H,i<n->Pv i σ H->g (.int (lo+i)) σ H λσ2 H2=>tb {D with nx:=Pv (i+1),ct:=Pv (i+1),bk:=D.nx} σ2 H2) (hd:∀σ H,Pv n σ H->D.nx σ H) :
  ∃W:Nat->Nat->St->Hp->Prop,(∃m,W 0 m σ H) /\ ∀i m σ H,W i m σ H ->
   ((fW lo n).stop i H/\D.nx σ H)\/((fW lo n).go i H /\ ∃N:St->Hp->Prop,(∀σ' H',N σ' H'->∃m',m'<m/\W (i+1) m' σ' H') /\ ∀x H',(fW lo n).fB i H x H'->g x σ H' λσ2 H2=>tb {D with nx:=N,ct:=N,bk:=D.nx} σ2 H2):=by
 refine⟨λi m σ H=>m=n-i/\i<=n/\Pv i σ H,⟨n,by simp,Wu _,h0⟩,?_⟩;rintro i m σ H ⟨rfl,hi,p⟩
 by_cases hlt:i<n
 ·refine .inr ⟨hlt,Pv (i+1),λσ' H' p'=>⟨n-(i+1),by lia,rfl,hlt,p'⟩,λx H' y=>?_⟩
  obtain⟨e,y⟩:=y;subst e y;exact hs i σ _ hlt p
 ·have e:i=n:=by lia
  subst e;exact .inl ⟨wp _,hd σ H p⟩
abbrev R2:=V->V->Hp->VK->Prop
def aM(X:Cx)(f:wg->wg->Sem wg)(r:R2):Prop :=
 ∀(pins:List (wf × Obj))(s:wl)(σ : St)(H:Hp)(x y:V)(v u:wg)(Q:VK),Inv X pins σ H s->aY x v->aY y u->r x y H Q ->
  wq (model X.prog X.w) X.A (f v u) (EP X pins σ Q) X.xe s
def Dv(X:Cx)(f:wg->Sem wg)(r:V->Hp->VK->Prop):Prop :=
 ∀(pins:List (wf × Obj))(s:wl)(σ : St)(H:Hp)(x:V)(v:wg)(Q:VK),Inv X pins σ H s->aY x v->r x H Q ->
  wq (model X.prog X.w) X.A (f v) (EP X pins σ Q) X.xe s
def aK(X:Cx)(f:wg)(r:List V->Hp->VK->Prop):Prop :=
 ∀(pins:List (wf × Obj))(s:wl)(σ : St)(H:Hp)(xs:List V)(us:List wg)(Q:VK),Inv X pins σ H s->aP xs us->r xs H Q ->
  wq (model X.prog X.w) X.A (call f us) (EP X pins σ Q) X.xe s
def zDb(X:Cx)(r:V->Hp->(Bool->Hp->Prop)->Prop):Prop :=
 ∀(pins:List (wf × Obj))(s:wl)(σ : St)(H:Hp)(x:V)(v:wg)(Q:Bool->Hp->Prop),Inv X pins σ H s->aY x v->r x H Q ->
  wq (model X.prog X.w) X.A (truthy v) (TP X pins σ Q) X.xe s
def lU(r:R2)(ta tb:TE):TE:=λσ H Q=>ta σ H λx H1=>tb σ H1 λy H2=>r x y H2 Q
def Ob(r:V->Hp->VK->Prop)(ta:TE):TE:=λσ H Q=>ta σ H λx H1=>r x H1 Q
def rI(C:Int->Int->Prop)(g:Int->Int->V):R2:=λx y H Q=>∃i j,x=.int i/\y=.int j/\C i j/\Q (g i j) H
def iI(g:Int->Int->V):R2:=λx y H Q=>∃i j,x=.int i/\y=.int j/\Q (g i j) H
def rU(g:Int->V):V->Hp->VK->Prop:=λx H Q=>∃i,x=.int i/\Q (g i) H
section
variable{X:Cx}{a b c:Expr}{ta tb tc:TE}{pos:Pos}
theorem Bx(ha:PE X a ta)(hb:PE X b tb){pins:List (wf × Obj)}{s:wl}{σ : St}{H:Hp}{R:V->V->Hp->Prop}(I:Inv X pins σ H s)
  (h:ta σ H λx H1=>tb σ H1 λy H2=>R x y H2) {Q:wg->wl->Prop} {f:wg->wg->Sem wg}
  (hf:∀v u s2 x y H2,Inv X pins σ H2 s2->aY x v->aY y u->R x y H2->wq (model X.prog X.w) X.A (f v u) Q X.xe s2) :
  wq (model X.prog X.w) X.A (eval a X.env) (λv s₁=>wq (model X.prog X.w) X.A (eval b X.env) (λu s₂=>wq (model X.prog X.w) X.A (f v u) Q X.xe s₂) X.xe s₁) X.xe s:=by
 refine aJ (ha pins s σ H _ I h) λv s1 ⟨x,H1,I1,r1,q1⟩=>?_
 refine aJ (hb pins s1 σ H1 _ I1 q1) λu s2 ⟨y,H2,I2,r2,q2⟩=>?_
 exact hf v u s2 x y H2 I2 r1 r2 q2
theorem aD{op:Operator}{r:R2}(ho:aM X (Vd op) r)(ha:PE X a ta)(hb:PE X b tb):PE X (.BinOp a op b pos) (lU r ta tb):=by
 intro pins s σ H Q I h;exact wpAny_BinOp (Bx ha hb I h λv u s2 x y H2 I2 rx ry q=>ho pins s2 σ H2 x y v u Q I2 rx ry q)
theorem gE{op:UnaryOp}{r:V->Hp->VK->Prop}(ho:Dv X (unaryOp op) r)(ha:PE X a ta):PE X (.UnaryOp op a pos) (Ob r ta):=by
 intro pins s σ H Q I h;exact UnaryOp_ (aJ (ha pins s σ H _ I h) λv s1 ⟨x,H1,I1,r1,q1⟩=>ho pins s1 σ H1 x v Q I1 r1 q1)
theorem Az{f:wg->wg->Sem wg}{C:Int->Int->Prop}{g:Int->Int->Int}
  (rule:∀(i j:Int)(t u:Tok)(s:wl)(Q:wg->wl->Prop)(E:wg->wl->Prop),C i j->Q (.int (g i j) s.toks) {s with toks:=s.toks+1}->wq (model X.prog X.w) X.A (f (.int i t) (.int j u)) Q E s) :
  aM X f (rI C λi j=>.int (g i j)):=by
 intro pins s σ H x y v u Q I rx ry h;obtain⟨i,j,rfl,rfl,hc,q⟩:=h;obtain⟨t,rfl⟩:=rx;obtain⟨t',rfl⟩:=ry;exact rule i j t t' s _ _ hc ⟨.int (g i j),H,I.tok _,⟨_,rfl⟩,q⟩
theorem PU{f:wg->wg->Sem wg}{g:Int->Int->Int}
  (rule:∀(i j:Int)(t u:Tok)(s:wl)(Q:wg->wl->Prop)(E:wg->wl->Prop),Q (.int (g i j) s.toks) {s with toks:=s.toks+1}->wq (model X.prog X.w) X.A (f (.int i t) (.int j u)) Q E s) :
  aM X f (iI λi j=>.int (g i j)):=by
 intro pins s σ H x y v u Q I rx ry h;obtain⟨i,j,rfl,rfl,q⟩:=h;obtain⟨t,rfl⟩:=rx;obtain⟨t',rfl⟩:=ry;exact rule i j t t' s _ _ ⟨.int (g i j),H,I.tok _,⟨_,rfl⟩,q⟩
theorem yH{f:wg->wg->Sem wg}{g:Int->Int->Bool}
  (rule:∀(i j:Int)(t u:Tok)(s:wl)(Q:wg->wl->Prop)(E:wg->wl->Prop),Q (.bool (g i j)) s->wq (model X.prog X.w) X.A (f (.int i t) (.int j u)) Q E s) :
  aM X f (iI λi j=>.bl (g i j)):=by
 intro pins s σ H x y v u Q I rx ry h;obtain⟨i,j,rfl,rfl,q⟩:=h;obtain⟨t,rfl⟩:=rx;obtain⟨t',rfl⟩:=ry;exact rule i j t t' s _ _ ⟨.bl (g i j),H,I,rfl,q⟩
def Ji(i j:Int):Prop:=0<=j/\j<=1000000/\i.natAbs<2^64
theorem zAE:aM X (Vd .Add) (iI λi j=>.int (i+j)):=PU λ_ _ _ _ _ _ _ q=>add_int q
theorem n_:aM X (Vd .Sub) (iI λi j=>.int (i-j)):=PU λ_ _ _ _ _ _ _ q=>sub_int q
theorem gH:aM X (Vd .Mod) (rI (λ_ j=>0<j) λi j=>.int (i % j)):=Az λi j _ _ _ _ _ hc q=>by
 have h1:(0:Int)<j:=hc;exact mod_int' (by lia) (by rw[Int.fmod_eq_emod_of_nonneg i (by lia)];exact q)
theorem ZG:aM X (Vd .Pow) (rI Ji λi j=>.int (i^j.toNat)):=Az λ_ _ _ _ _ _ _ hc q=>pow_int_small hc.1 hc.2.1 hc.2.2 q
theorem Yl{f:wg->Sem wg}{g:Int->Int}
  (rule:∀(i:Int)(t:Tok)(s:wl)(Q:wg->wl->Prop)(E:wg->wl->Prop),Q (.int (g i) s.toks) {s with toks:=s.toks+1}->wq (model X.prog X.w) X.A (f (.int i t)) Q E s) :
  Dv X f (rU λi=>.int (g i)):=by
 intro pins s σ H x v Q I rx h;obtain⟨i,rfl,q⟩:=h;obtain⟨t,rfl⟩:=rx;exact rule i t s _ _ ⟨.int (g i),H,I.tok _,⟨_,rfl⟩,q⟩
theorem gz:Dv X (unaryOp .USub) (rU λi=>.int (-i)):=Yl λ_ _ _ _ _ q=>neg_int q
end
section
variable{X:Cx}{a b c:Expr}{ta tb tc:TE}{pos:Pos}
theorem Pt{pins:List (wf × Obj)}{σ : St}{H:Hp}{s:wl}{Q:VK}{k k':Bool}(I:Inv X pins σ H s)(q:Q (.bl k) H)(e:k=k'):EP X pins σ Q (.bool k') s:=by
 subst e;exact⟨.bl k,H,I,rfl,q⟩
theorem rn:aM X (wY .Lt) (iI λi j=>.bl (decide (i<j))):=yH λ_ _ _ _ _ _ _ q=>lt_int q
theorem pT:aM X (wY .LtE) (iI λi j=>.bl (decide (i<=j))):=yH λ_ _ _ _ _ _ _ q=>le_int q
theorem lB:aM X (wY .Gt) (iI λi j=>.bl (decide (j<i))):=yH λ_ _ _ _ _ _ _ q=>gt_int q
theorem Nn:aM X (wY .GtE) (iI λi j=>.bl (decide (j<=i))):=yH λ_ _ _ _ _ _ _ q=>ge_int q
theorem zAU:aM X (wY .Is) (λx y H Q=>y=.bG/\Q (.bl (decide (x=.bG))) H):=by
 intro pins s σ H x y v u Q I rx ry h;obtain⟨rfl,q⟩:=h;cases ry;refine is_none_gen (Pt I q ?_)
 cases x<;>first
  | (cases rx;rfl)
  | (obtain⟨t,rfl⟩:=rx;rfl)
theorem aM.or{f:wg->wg->Sem wg}{r r':R2}(h:aM X f r)(h':aM X f r'):aM X f (λx y H Q=>r x y H Q\/r' x y H Q):=by
 intro pins s σ H x y v u Q I rx ry q;rcases q with q | q
 ·exact h pins s σ H x y v u Q I rx ry q
 ·exact h' pins s σ H x y v u Q I rx ry q
theorem bL(b:Expr){op:CmpOp}(h:op≠.In:=by decide)(h2:op≠.NotIn:=by decide):behindInMarks op b=false:=by
 have e1:(op == CmpOp.In)=false:=by cases op<;>first | rfl | exact absurd rfl h
 have e2:(op == CmpOp.NotIn)=false:=by cases op<;>first | rfl | exact absurd rfl h2
 cases b<;>simp[behindInMarks,e1,e2]
theorem gU{op:CmpOp}{r:R2}(ho:aM X (wY op) r)(ha:PE X a ta)(hb:PE X b tb)(hm:behindInMarks op b=false):PE X (.Compare a [op] [b] pos) (lU r ta tb):=by
 intro pins s σ H Q I h;exact wpAny_Compare1 (Bx ha hb I h λv u s2 x y H2 I2 rx ry q=>ho pins s2 σ H2 x y v u Q I2 rx ry q) hm
def Dw(t:TE):TT:=λσ H Q=>t σ H λx H'=>∃k,x=.bl k/\Q k H'
theorem bZ{op:CmpOp}{r:R2}(ho:aM X (wY op) r)(ha:PE X a ta)(hb:PE X b tb)(hm:behindInMarks op b=false):PT X (.Compare a [op] [b] pos) (Dw (lU r ta tb)):=by
 intro pins s σ H Q I h
 refine wpAny_isTrue_Compare1 (aJ (ha pins s σ H _ I h) λv s1 ⟨x,H1,I1,r1,q1⟩=>aJ (hb pins s1 σ H1 _ I1 q1) λu s2 ⟨y,H2,I2,r2,q2⟩ =>
  aJ (ho pins s2 σ H2 x y v u _ I2 r1 r2 q2) λc s3 ⟨z,H3,I3,r3,k,e,q3⟩=>?_) hm
 subst e;cases r3;exact WE ⟨H3,I3,q3⟩
def JD(r r':R2)(ta tb tc:TE):TE:=λσ H Q=>ta σ H λx H1=>tb σ H1 λy H2=>r x y H2 λz H3=>∃k,z=.bl k /\
 (if k=true then tc σ H3 λw' H4=>r' y w' H4 Q else Q (.bl false) H3)
theorem zxB{op op':CmpOp}{r r':R2}(ho:aM X (wY op) r)(ho':aM X (wY op') r')(ha:PE X a ta)(hb:PE X b tb)(hc:PE X c tc)
  (hm:lastMarks [op,op'] [b,c]=false:=by with_unfolding_all rfl):PT X (.Compare a [op,op'] [b,c] pos) (Dw (JD r r' ta tb tc)):=by
 intro pins s σ H Q I h
 refine isTrue_chain (aJ (ha pins s σ H _ I h) λv s1 ⟨x,H1,I1,r1,q1⟩=>test_link (aJ (hb pins s1 σ H1 _ I1 q1) λu s2 ⟨y,H2,I2,r2,q2⟩ =>
  aJ (ho pins s2 σ H2 x y v u _ I2 r1 r2 q2) λd s3 ⟨z,H3,I3,r3,k,e,q3⟩=>?_)) hm
 subst e;cases r3;refine WE ?_;cases k with
 | false =>
  obtain⟨k',e',q'⟩:=q3;cases e';exact ite_ff ⟨H3,I3,q'⟩
 | true =>
  refine ite_tt (test_last (aJ (hc pins s3 σ H3 _ I3 q3) λw' s4 ⟨z',H4,I4,r4,q4⟩=>aJ (ho' pins s4 σ H4 y z' u w' _ I4 r2 r4 q4) λd' s5 ⟨z2,H5,I5,r5,k2,e2,q5⟩=>?_));subst e2;cases r5;exact WE ⟨H5,I5,q5⟩
def ER(K:wb)(x:V)(H:Hp)(k:Bool):Prop :=
 match x with
 | .bG=>k=false
 | .bl b=>k=b
 | .int i=>k=(i != 0)
 | .str y=>y.length<=vd/\k=((y.length:Int) != 0)
 | .byt y=>y.size<=vd/\k=((y.size:Int) != 0)
 | .ref p=>(∃xs,aI K H p xs/\k = !xs.isEmpty)\/(∃xs,aR K H p xs/\k = !xs.isEmpty) \/ ∃kvs,H p=some (.dK kvs)/\k = !kvs.isEmpty
 | _=>False
theorem zsz{κ : Type}{kvs:List (κ × V)}{vs:List (κ × wg)}(r:KV kvs vs):(!vs.isEmpty) = !kvs.isEmpty:=by
 cases r<;>rfl
theorem LX{xs:List V}{its:List wg}(r:aP xs its):(!its.toArray.isEmpty) = !xs.isEmpty:=by
 cases r<;>simp
theorem ml:(vd:Nat)<2^63:=by rw[qW];decide
theorem zBa:zDb X (λx H Q=>∃k,ER X.K x H k/\Q k H):=by
 intro pins s σ H x v Q I rx h;obtain⟨k,e,q⟩:=h;have hl:=ml;have hs:vd=16777216:=qW;cases x with
 | bG =>
  cases rx;have e':k=false:=e;subst e';exact truthy_none ⟨H,I,q⟩
 | bl b =>
  cases rx;have e':k=b:=e;subst e';exact WE ⟨H,I,q⟩
 | int i =>
  obtain⟨t,rfl⟩:=rx;have e':k=(i != 0):=e;subst e';exact PySem.P.truthy_int ⟨H,I,q⟩
 | str y =>
  obtain⟨t,rfl⟩:=rx;obtain⟨hy,e'⟩:y.length<=vd/\k=((y.length:Int) != 0):=e;subst e';exact PySem.P.truthy_str (by lia) ⟨H,I.tok _,q⟩
 | byt y =>
  obtain⟨t,rfl⟩:=rx;obtain⟨hy,e'⟩:y.size<=vd/\k=((y.size:Int) != 0):=e;subst e';exact PySem.W.truthy_bytes (by lia) ⟨H,I.tok _,q⟩
 | ref p =>
  cases rx;have e':(∃xs,aI X.K H p xs/\k = !xs.isEmpty)\/(∃xs,aR X.K H p xs/\k = !xs.isEmpty) \/ ∃kvs,H p=some (.dK kvs)/\k = !kvs.isEmpty:=e;rcases e' with⟨xs,hx,e'⟩ | ⟨xs,hx,e'⟩ | ⟨kvs,hx,e'⟩
  ·subst e'
   obtain⟨its,r,pl,hz⟩:=I.list hx;have hlen:=r.length;exact wpAny_truthy_list pl.isList (by simp only[wR];lia) ⟨H,I.tok _,by rw[LX r];exact q⟩
  ·subst e'
   obtain⟨its,r,pl,hz⟩:=I.tuple hx;have hlen:=r.length;exact truthy_tuple pl (by simp only[wR];lia) ⟨H,I.tok _,by rw[LX r];exact q⟩
  ·subst e'
   obtain⟨hz,hS,vs,r,m⟩:kvs.length<=vd/\(p == sysModules)=false /\ ∃vs,KV kvs vs/\s.heap.DictOf (Bm X.prog X.w) p vs:=I.aF p _ hx;have hlen:kvs.length=vs.length:=Uq r;exact wpAny_truthy_dict hS m (by lia) ⟨H,I.tok _,by rw[zsz r];exact q⟩
 | _=>exact(show False from e).elim
theorem YT(ha:PE X a ta)(he:∀whole,isTrue a X.env whole=(do let v <- whole;standAt a.pos;holding [v] (truthy v))) :
  PT X a (λσ H Q=>ta σ H λx H'=>∃k,ER X.K x H' k/\Q k H'):=by
 intro pins s σ H Q I h;exact isTrue_plain (aJ (ha pins s σ H _ I h) λv s1 ⟨x,H1,I1,r1,q1⟩=>zBa pins s1 σ H1 x v Q I1 r1 q1) (he _)
theorem ztc:aM X (Vd .Add) (λx y H Q=>∃i j,x=.str i/\y=.str j/\i.length+j.length<=vd/\Q (.str (i++j)) H):=by
 intro pins s σ H x y v u Q I rx ry h;obtain⟨i,j,rfl,rfl,hz,q⟩:=h;obtain⟨t,rfl⟩:=rx;obtain⟨t',rfl⟩:=ry;exact add_str (λt' tk=>⟨.str (i++j),H,I.tok _,⟨_,rfl⟩,q⟩) hz
theorem fT{x:V}{us:List wg}(r:aP [x] us):∃u,us=[u]/\aY x u:=by
 cases r with
 | cons r1 r2=>cases r2;exact⟨_,rfl,r1⟩
theorem j9{x y:V}{us:List wg}(r:aP [x,y] us):∃u w',us=[u,w']/\aY x u/\aY y w':=by
 cases r with
 | cons r1 r2 =>
  cases r2 with
  | cons r3 r4=>cases r4;exact⟨_,_,rfl,r1,r3⟩
theorem zwb:aK X (.builtin "abs") (λxs H Q=>∃i,xs=[.int i]/\Q (.int (if i<0 then -i else i)) H):=by
 intro pins s σ H xs us Q I r h;obtain⟨i,rfl,q⟩:=h;obtain⟨u,rfl,t,rfl⟩:=fT r;exact call_abs_int λu tk=>⟨.int (if i<0 then -i else i),H,I.tok _,⟨_,rfl⟩,q⟩
theorem zvP(hc:X.calm=true):aK X (.builtin "min") (λxs H Q=>∃i j,xs=[.int i,.int j]/\Q (.int (if j<i then j else i)) H):=by
 intro pins s σ H xs us Q I r h;obtain⟨i,j,rfl,q⟩:=h;obtain⟨u,w',rfl,⟨t,rfl⟩,⟨t',rfl⟩⟩:=j9 r;refine min_two_ints (I.ok.hd hc) λh' tk k=>⟨_,H,I.kept k,?_,q⟩
 by_cases hj:j<i
 ·rw[if_pos hj,if_pos hj];exact⟨_,rfl⟩
 ·rw[if_neg hj,if_neg hj];exact⟨_,rfl⟩
theorem Zi:aK X (.type "int") (λxs H Q=>(∃i,xs=[.int i]/\Q (.int i) H) \/ ∃k,xs=[.bl k]/\Q (.int (if k then 1 else 0)) H):=by
 intro pins s σ H xs us Q I r h;rcases h with⟨i,rfl,q⟩ | ⟨k,rfl,q⟩
 ·obtain⟨u,rfl,t,rfl⟩:=fT r
  exact call_int_int ⟨.int i,H,I,⟨_,rfl⟩,q⟩
 ·obtain⟨u,rfl,r1⟩:=fT r
  cases r1;exact call_int_bool ⟨.int (if k then 1 else 0),H,I.tok _,⟨_,rfl⟩,q⟩
end
structure zDq(h:wH)(x dx C:wf)(mA:Str->Option wg):Prop where
 obj:h.get? x=some (uQ C dx)
 ns:h.Ns1 dx mA
 ne:dx≠x
section
variable{prog:wJ}{w:wM}{A:wW}{E:wg->wl->Prop}{s:wl}{K:wb}{x dx C f:wf}{mA:Str->Option wg}{name:Str}{v:wg}
end
section
variable{P:wJ}{w:wM}{H H':Hp}{h h':wH}{a C dx:wf}{fs fs':List (Str × V)}
end
structure Cls(K:wb)(C:wf):Prop where
 pg:PySem.W.plainGet K C Str.empty=true
 hd:PySem.W.hasDictIn K C=true
 po:PySem.W.plainOver K C=true
 sa:Vy K (.ref C) "__setattr__"=some (some (.builtin "object.__setattr__"))
structure Con(K:wb)(C:wf)(f:Str)(v:V)(u:wg):Prop where
 at_:Vy K (.ref C) f=some (some u)
 rel:aY v u
 get:xm K u "__get__"=some none
 cp:PySem.W.copiedNames.contains f=false
structure zDo(K:wb)(C:wf)(m:Str)(f:wf):Prop where
 at_:Vy K (.ref C) m=some (some (.ref f))
 fn:UD K (.ref f)=true
 kp:Vz K (.ref f)=true
section
variable{X:Cx}{pins:List (wf × Obj)}{σ : St}{H:Hp}{s:wl}{a C dx:wf}{fs:List (Str × V)}{f:Str}{v:V}{A:wW}{E:wg->wl->Prop}
end
section
variable{X:Cx}{o e value:Expr}{f:Str}{pos pos' tpos:Pos}{ta tv:TE}
end
section
variable{X:Cx}{pins:List (wf × Obj)}{σ : St}{H:Hp}{s:wl}{A:wW}{E:wg->wl->Prop}{Q:wg->wl->Prop}{c:wg}{b:Bool}
inductive ie(K:wb)(H:Hp):V->wg->Prop where
 | bG:ie K H .bG (.type "NoneType")
 | bl (x:Bool):ie K H (.bl x) (.type "bool")
 | int (i:Int):ie K H (.int i) (.type "int")
 | str (x:Str):ie K H (.str x) (.type "str")
 | lG (x:UInt64):ie K H (.lG x) (.type "float")
 | lst {a:wf} {xs:List V} (e:H a=some (.lst xs)):ie K H (.ref a) (.type "list")
 | fo {a:wf} {o:Obj} {xs:List V} (e:H a=some (.fo o (.lst xs))):ie K H (.ref a) (.type "list")
 | tup {a:wf} {xs:List V} (e:H a=some (.tup xs)):ie K H (.ref a) (.type "tuple")
 | dK {a:wf} {kvs:List (Key × V)} (e:H a=some (.dK kvs)):ie K H (.ref a) (.type "dict")
 | dT {a:wf} {kvs:List (List Key × V)} (e:H a=some (.dT kvs)):ie K H (.ref a) (.type "dict")
 | ins {a C dx:wf} {fs:List (Str × V)} (e:H a=some (.ins C dx fs)) (cl:Cls K C) (ha:Vy K (.ref C) "__class__"=some (some (.builtin "object.__class__")))
     (hn:xm K (.builtin "object.__class__") "__get__"=some (some (.builtin "getset_descriptor.__get__"))) (htk:uS K (.builtin "object.__class__")=some true)
     (hm:Xu K C (.type "object")=some true):ie K H (.ref a) (.ref C)
end
structure dF(k:Nat)(A:wW):Prop where
 hd:A.handled=none
 dp:A.depth+3*k+5<recursionLimit
 un:A.units+16*k+200<WF
 gd:A.guards=some []
theorem dF.mono{j k:Nat}{A:wW}(r:dF k A)(h:j<=k):dF j A:=⟨r.hd,by have:=r.dp;lia,by have:=r.un;lia,by first | exact r.gd | (simp[UE,Code.guards,UF,guardIds];exact r.gd)⟩
theorem dF.deeper{k:Nat}{A:wW}(r:dF (k+1) A)(env:Env):dF k (A.deeper env) :=
 ⟨r.hd,by have:=r.dp;show A.depth+1+3*k+5<_;lia,by have:=r.un;show A.units+3+16*k+200<_;lia,by first | exact r.gd | (simp[UE,Code.guards,UF,guardIds];exact r.gd)⟩
theorem dF.depth{k:Nat}{A:wW}(r:dF k A):A.depth<recursionLimit:=by have:=r.dp;lia
theorem dF.units{k:Nat}{A:wW}(r:dF k A):A.units+64<WF:=by have:=r.un;lia
def nT:TA:=λ_ H Q=>Q [] H
def rh(ta:TE)(tr:TA):TA:=λσ H Q=>ta σ H λx H1=>tr σ H1 λxs H2=>Q (x::xs) H2
section
variable{X:Cx}{e:Expr}{es:List Expr}{te:TE}{t:TA}{pos:Pos}
theorem af:PA X [] nT:=λ_ _ _ _ H Q I h=>xn ⟨[],H,I,.nil,h⟩
theorem ae(ha:PE X e te)(hr:PA X es t)(hs:va (e::es) X.env=(false,eval e X.env)::va es X.env:=by rfl):PA X (e::es) (rh te t):=by
 intro pos pins s σ H Q I h;rw[hs]
 show wq _ _ (spliced ((false,eval e X.env)::Vs pos (va es X.env))) _ _ s
 refine Q3 (aJ (ha pins s σ H _ I h) λu s1 ⟨x,H1,I1,r1,q1⟩=>?_);exact aJ (hr pos pins s1 σ H1 _ I1 q1) λus s2 ⟨xs,H2,I2,r2,q2⟩=>⟨x::xs,H2,I2,.cons r1 r2,q2⟩
def zDk(t:TA):TE:=λσ H Q=>t σ H λxs H1=>xs.length<=vd /\ ∀p,H1 p=none->Q (.ref p) (upd H1 p (.tup xs))
def zDc(t:TA):TE:=λσ H Q=>t σ H λxs H1=>xs.length<=vd /\ ∀p,H1 p=none->Q (.ref p) (upd H1 p (.lst xs))
theorem zAI{x1}(h:PA X es t):PE X (.Tuple es x1 pos) (zDk t):=by
 intro pins s σ H Q I hq;refine wpAny_Tuple_spliced (aJ (h pos pins s σ H _ I hq) λus s1 ⟨xs,H1,I1,r,z,q⟩=>⟨by rw[<- r.length];exact z,?_⟩);have hf:H1 s1.heap.objs.size=none:=I1.aF.fresh (wp _);refine⟨.ref s1.heap.objs.size,upd H1 s1.heap.objs.size (.tup xs),I1.laid (t':=s1.toks) (λb u e=>wn _ e) (wp _) ?_,rfl,q _ hf⟩;exact⟨z,us,r,⟨_,wP _ rfl,rfl,_,rfl⟩⟩
theorem Yi(h:PA X es t):PE X (.List es pos) (zDc t):=by
 intro pins s σ H Q I hq;refine wpAny_List_spliced (aJ (h pos pins s σ H _ I hq) λus s1 ⟨xs,H1,I1,r,z,q⟩=>⟨by rw[<- r.length];exact z,?_⟩);have hf:H1 s1.heap.objs.size=none:=I1.aF.fresh (wp _);refine⟨.ref s1.heap.objs.size,upd H1 s1.heap.objs.size (.lst xs),I1.laid (t':=s1.toks) (λb u e=>wn _ e) (wp _) ?_,rfl,q _ hf⟩;exact⟨z,us,0,r,wP _ rfl⟩
end
abbrev Sp:=List V->Hp->VK->XK->Prop
abbrev fv:=List Env->Hp->wl->XK->wg->wl->Prop
structure p0(P:wJ)(w:wM)(K:wb)(mg:Str->Option wg)(base:wH)(A:wW)(outer:List Env)(s:wl)(H:Hp):Prop where
 frames:A.frames=some outer
 mod:Mod K mg base
 bs:∀b o,base.get? b=some o->s.heap.get? b=some o/\H b=none
 gm:base.objs.size<=s.heap.objs.size
 eB:s.heap.FunFrames base outer
 gW:∀b∈dr outer,H b=none
 aF:cX P w H s.heap
 bare:AllBare s.gens
def CE(outer:List Env)(P:wJ)(w:wM)(H:Hp)(s:wl)(Q:VK)(u:wg)(s':wl):Prop :=
 ∃v H',s'.os=s.os/\AllBare s'.gens/\Un (dr outer) [] H H' s.heap s'.heap/\cX P w H' s'.heap/\aY v u/\Q v H'
def CR(CX:fv)(outer:List Env)(P:wJ)(w:wM)(H:Hp)(s:wl)(Q:VK)(E:XK)(r:Result)(s':wl):Prop :=
 match r with
 | .ok (.ret u)=>CE outer P w H s Q u s'
 | .ok _=>False
 | .error e=>CX outer H s E e s'
structure aN(P:wJ)(w:wM)(K:wb)(mg:Str->Option wg)(base:wH)(CX:fv)(k:Nat)(f:wf)(fd:wG)(ps:List Str)(sp:Sp):Prop where
 len:∀vs H Q E,sp vs H Q E->vs.length=ps.length
 run:∀(A:wW)(outer:List Env)(s:wl)(H:Hp)(args:Args)(us:List wg)(vs:List V)(Q:VK)(E:XK),dF k A->p0 P w K mg base A outer s H->BindsTo s fd args (ps.zip us)->aP vs us->sp vs H Q E ->
   codeAny (model P w) A (.call (.ref f) args) (CR CX outer P w H s Q E) s
section
variable{X:Cx}{pins:List (wf × Obj)}{σ : St}{H:Hp}{s s':wl}
theorem Inv.A1(I:Inv X pins σ H s):p0 X.prog X.w X.K X.mg X.base X.A X.stack s H :=
 ⟨I.ok.frames,I.ok.mod,I.bs,Wk I.ok.gm I.sz,I.stack,I.rS,I.aF,I.bare⟩
theorem Inv.after{Q:VK}{u:wg}(I:Inv X pins σ H s)(h:CE X.stack X.prog X.w H s Q u s'):EP X pins σ Q u s':=by
 obtain⟨v,H',os,bare,un,aF,r,q⟩:=h;obtain⟨hh,g,d,t,os'⟩:=s';obtain rfl:os'=s.os:=os;exact⟨v,H',I.call (h':=hh) (g':=g) (d':=d) (t':=t) (ch:=[]) un aF bare (λb z=>absurd z (by simp)),r,q⟩
end
def kY(sp:Sp)(dvs:List V)(E:XK)(t:TA):TE:=λσ H Q=>t σ H λvs H1=>sp (vs++dvs) H1 Q E
def kG(K:wb)(fd:wG)(ps:List Str)(ds:List wg):Prop :=
 ∀(s:wl)(us:List wg),K.In s.heap->(us++ds).length=ps.length->BindsTo s fd ⟨us,[]⟩ (ps.zip (us++ds))
theorem kG.all{K:wb}{fd:wG}{ps:List Str}(h:∀us:List wg,us.length=ps.length->bindArgs fd ⟨us,[]⟩=pure (ps.zip us)):kG K fd ps []:=λs us _ hl=>by
 rw[Wl]at hl ⊢;exact .of_eq (h us hl)
def nB(CX:fv)(X:Cx)(E:XK):Prop:=∀(pins:List (wf × Obj))(σ : St)(H:Hp)(s:wl)(e:wg)(s':wl),Inv X pins σ H s->CX X.stack H s E e s'->X.xe e s'
section
variable{X:Cx}{CX:fv}{k:Nat}{f C:wf}{fd:wG}{ps:List Str}{sp:Sp}{dvs:List V}{ds:List wg}{E:XK}{x m:Str}{p pos apos:Pos}{e o:Expr}{es:List Expr}{ta:TE}{t:TA}
theorem zAH{pins:List (wf × Obj)}{σ : St}{H:Hp}{s:wl}{Q:VK}{us:List wg}{vs:List V}(F:aN X.prog X.w X.K X.mg X.base CX k f fd ps sp)(hr:dF k X.A)(hb:kG X.K fd ps ds)(hd:aP dvs ds)(hx:nB CX X E)
  (I:Inv X pins σ H s) (r:aP vs us) (h:sp (vs++dvs) H Q E):wq (model X.prog X.w) X.A (call (.ref f) us) (EP X pins σ Q) X.xe s:=by
 have r2:aP (vs++dvs) (us++ds):=r.append hd;have hl:(us++ds).length=ps.length:=by rw[<- r2.length];exact F.len _ _ _ _ h
 refine wpAny_call (qJ (F.run X.A X.stack s H ⟨us,[]⟩ (us++ds) (vs++dvs) Q E hr I.A1 (hb s us I.cW hl) r2 h) λr s' hq=>?_);cases r with
 | error e=>exact hx pins σ H s e s' I hq
 | ok fl =>
  cases fl with
  | ret u=>exact I.after hq
  | next=>exact Wx hq
  | brk=>exact Wx hq
  | cont=>exact Wx hq
theorem PV(F:aN X.prog X.w X.K X.mg X.base CX k f fd ps sp)(hr:dF k X.A)(hg:Gl X x)(hm:X.mg x=some (.ref f))(hk:Vz X.K (.ref f)=true)(hb:kG X.K fd ps ds)(hd:aP dvs ds)(hx:nB CX X E)
  (ha:PA X (e::es) t) (hdb:(x == ("__debug__" : Str))=false:=by decide) (he:va (e::es) X.env=(false,eval e X.env)::va es X.env:=by rfl) (hpl:(Vs pos (va es X.env)).any (·.1)=false:=by rfl) :
  PE X (.Call (.Name x p) (e::es) [] pos) (kY sp dvs E t):=by
 intro pins s σ H Q I h;refine qq (mm I hg hm ?_ hdb);refine Q4 (h₀:=X.base) I.ok.mod.lS hk (aJ (ha pos pins s σ H _ I h) λus s1 ⟨vs,H1,I1,r,q⟩=>⟨I1.cW,?_⟩) he hpl;exact zAH F hr hb hd hx I1 r q
structure Mk(K:wb)(C f:wf):Prop where
 makes:PySem.W.makesIn K C=true
 init:Vy K (.ref C) "__init__"=some (some (.ref f))
 fn:UD K (.ref f)=true
 kp:Vz K (.ref C)=true
end
section
variable{X:Cx}{CX:fv}{k:Nat}{f C:wf}{fd:wG}{ps ks:List Str}{sp:Sp}{E:XK}{x m:Str}{p pos apos kpos:Pos}{e o:Expr}{es:List Expr}{kws:List Keyword}{te ta:TE}{t tk:TA}{nm:Option Str}
structure zDd(K:wb)(fd:wG)(ps ks:List Str)(g:List wg->List wg->List wg)(gV:List V->List V->List V):Prop where
 to:∀(s:wl)(us ws:List wg),K.In s.heap->(g us ws).length=ps.length->BindsTo s fd ⟨us,ks.zip ws⟩ (ps.zip (g us ws))
 rel:∀{vs:List V}{us:List wg}{zs:List V}{ws:List wg},aP vs us->aP zs ws->aP (gV vs zs) (g us ws)
variable{g:List wg->List wg->List wg}{gV:List V->List V->List V}
end
structure aT(N P:List Str)(sc:Scope):Prop where
 kind:sc.kind=.function
 co:sc.isCoroutine=false
 gen:sc.isGenerator=false
 nd:N.Nodup
 pre:N.take P.length=P
 par:∀x∈P,sc.names.lookup x=some .local\/sc.names.lookup x=some .cell
 TF:∀y∈sc.names,y.2≠.free
theorem M5{kindOf:Str->Option Ve}{x:Str} : ∀{binds:List (Str × wg)}{m:Str->Option wg},(∀v,(x,v) ∉ binds)->bindL kindOf binds m x=m x
 | [],_,_=>rfl
 | (n,v)::r,m,h=>by
  unfold bindL;rw[M5 λw hw=>h w (wy _ hw)]
  split
  ·have:x≠n:=by rintro rfl;exact h v wC
   simp[this]
  ·rfl
theorem N5{kindOf:Str->Option Ve}{x:Str} : ∀{binds:List (Str × wg)}{m:Str->Option wg},(∀v,(x,v) ∉ binds)->bindC kindOf binds m x=m x
 | [],_,_=>rfl
 | (n,v)::r,m,h=>by
  unfold bindC;rw[N5 λw hw=>h w (wy _ hw)]
  split
  ·rfl
  ·have:x≠n:=by rintro rfl;exact h v wC
   simp[this]
theorem KU{kindOf:Str->Option Ve}{x:Str}{v:wg} : ∀{P:List Str}{vs:List wg}{i:Nat}{m:Str->Option wg},P.Nodup->P[i]? = some x->vs[i]? = some v->kindOf x=some .local ->
  bindL kindOf (P.zip vs) m x=some v
 | [],_,_,_,_,h,_,_=>by simp at h
 | _::_,[],_,_,_,_,h,_=>by simp at h
 | p::P,w::vs,0,m,nd,h1,h2,hk=>by
  simp at h1 h2;subst h1;subst h2
  show bindL kindOf ((p,w)::P.zip vs) m p=_
  unfold bindL;rw[M5 λv hv=>(W3.mp nd).1 (QF hv).1,if_pos hk];simp
 | p::P,w::vs,i+1,m,nd,h1,h2,hk=>by
  show bindL kindOf ((p,w)::P.zip vs) m x=_
  unfold bindL;exact KU (i:=i) (W3.mp nd).2 (by simpa using h1) (by simpa using h2) hk
theorem N2{kindOf:Str->Option Ve}{x:Str}{v:wg} : ∀{P:List Str}{vs:List wg}{i:Nat}{m:Str->Option wg},P.Nodup->P[i]? = some x->vs[i]? = some v->kindOf x≠some .local ->
  bindC kindOf (P.zip vs) m x=some v
 | [],_,_,_,_,h,_,_=>by simp at h
 | _::_,[],_,_,_,_,h,_=>by simp at h
 | p::P,w::vs,0,m,nd,h1,h2,hk=>by
  simp at h1 h2;subst h1;subst h2
  show bindC kindOf ((p,w)::P.zip vs) m p=_
  unfold bindC;rw[N5 λv hv=>(W3.mp nd).1 (QF hv).1,if_neg hk];simp
 | p::P,w::vs,i+1,m,nd,h1,h2,hk=>by
  show bindC kindOf ((p,w)::P.zip vs) m x=_
  unfold bindC;exact N2 (i:=i) (W3.mp nd).2 (by simpa using h1) (by simpa using h2) hk
def start(N:List Str)(vs:List V):St:=vs.map some++Qr (N.length-vs.length) none
def gF(CX:fv)(P:wJ)(w:wM)(K:wb)(mg:Str->Option wg)(base:wH)(N:List Str)(qual:Str)(scope:Scope)(f:wf)(cd:wg)(A:wW)(outer:List Env)(s:wl)(H:Hp)(E:XK):Cx where
 prog:=P
 w:=w
 K:=K
 mg:=mg
 base:=base
 A:=A.deeper (envOfC qual scope s.heap.objs.size f cd)
 N:=N
 s₀:=s
 H₀:=H
 env:=envOfC qual scope s.heap.objs.size f cd
 outer:=outer
 stack:=envOfC qual scope s.heap.objs.size f cd::outer
 ex:=[]
 calm:=true
 fn:=λ_=>true
 pn:=[]
 xe:=λe s'=>wq (model P w) (A.deeper (envOfC qual scope s.heap.objs.size f cd)) (leaving (envOfC qual scope s.heap.objs.size f cd) e) (λ_ s''=>CX outer H s E e s'') (λe' s''=>CX outer H s E e' s'') s'
theorem Ft{sc:Scope}{n:Nat}{x:Str}(h:sc.names.lookup x=some .cell):∃c,(cellsFrom n sc.names []).lookup x=some c:=by
 have q:=Qx sc.names n [] (.inl h);exact V6.mp q
theorem PX{CX:fv}{P:wJ}{w:wM}{K:wb}{mg:Str->Option wg}{base:wH}{N ps:List Str}{qual:Str}{scope:Scope}{f:wf}{cd:wg}{A:wW}{outer:List Env}{s s1:wl}{H:Hp}{E:XK}{us:List wg}{vs:List V}
  (S:aT N ps scope) (hd:A.handled=none) (e0:p0 P w K mg base A outer s H) (hl:vs.length=ps.length) (r:aP vs us)
  (x:InCallC s s.heap.objs.size (bindL (envOfC qual scope s.heap.objs.size f cd).kindOf (ps.zip us) λ_=>none) (cellsFrom (s.heap.objs.size+1) scope.names []) (bindC (envOfC qual scope s.heap.objs.size f cd).kindOf (ps.zip us) λ_=>none) s1) :
  Inv (gF CX P w K mg base N qual scope f cd A outer s H E) [] (start N vs) H s1:=by
 have hpl:ps.length<=N.length:=by have:=congrArg qV S.pre;rw[Ws]at this;lia
 obtain⟨h1,tk,rfl,hk⟩:=x.done;have noA:∀b:wf,b ∉ (gF CX P w K mg base N qual scope f cd A outer s H E).ex:=λb z=>absurd (show b∈([]:List wf)from z) (by simp)
 refine⟨⟨e0.mod,S.kind,rfl,rfl,wp _,λy z c h1 h2=>?_,λy hy=>?_,λy c _ h=>?_,λ_=>hd,Xk e0.frames,.inr ⟨rfl,rfl⟩,λb z=>absurd z (noA b),e0.bs,e0.gm,λb _ _=>noA b,λb z=>absurd z (noA b),e0.eB,e0.gW⟩,
  rfl,e0.bare,Un.kept hk,⟨_,x.toInCall.ns,λi y v h1 h2 h3=>?_⟩,λy c h=>⟨_,x.cell y c h⟩,e0.aF.fresh (wp _),λy c h=>?_,λp hp=>absurd (show p∈([]:List (wf × Obj))from hp) (by simp),e0.aF.kept hk,?_⟩
 ·exact name_of_addr x.apart (Vw h1) (Vw h2)
 ·have hy:scope.names.lookup y=some .cell\/scope.names.lookup y=some .free:=hy
  rcases hy with hy | hy
  ·exact Ft hy
  ·exact absurd rfl (S.TF _ (Vw hy))
 ·exact VG (x.above y c (Vw h))
 ·have hi:i<vs.length:=by
   unfold start at h2
   by_cases hi:i<vs.length
   ·exact hi
   ·rw[vH (by simpa using hi)]at h2
    rw[xH]at h2
    split at h2<;>cases h2
  have ha:vs[i]? = some v:=by
   unfold start at h2;rw[Wf (by simpa using hi),wu]at h2;cases e:vs[i]? with
   | none=>rw[e]at h2;cases h2
   | some a=>rw[e]at h2;cases h2;rfl
  obtain⟨u,hu,rv⟩:=r.get ha
  have hp:ps[i]? = some y:=by
   rw[<- S.pre,xz (by lia)];exact h1
  have ndP:ps.Nodup:=by rw[<- S.pre];exact S.nd.sublist (XY _ _)
  refine⟨u,rv,?_⟩;rcases S.par y (Xl hp)with k | k
  ·exact .inl ⟨k,KU ndP hp hu k⟩
  ·obtain⟨c,e⟩:=Ft (n:=s.heap.objs.size+1) k
   refine .inr ⟨.inl k,c,e,?_⟩;have q:=x.cell y c e;rw[N2 ndP hp hu (by show scope.names.lookup y≠_;rw[k];decide)]at q;exact q
 ·exact e0.aF.fresh (VG (x.above y c (Vw h)))
 ·unfold start
  show _=N.length
  rw[wZ,wm,Vg]
  lia
theorem Pl{CX:fv}{P:wJ}{w:wM}{K:wb}{mg:Str->Option wg}{base:wH}{k:Nat}{f:wf}{name qual:Str}{params:Arguments}{body:List vj}{scope:Scope}{dV kV doc pm cdv ct oc:wg}{an od:Option wf}
  {osl:Array (Option wg)} {N ps:List Str} {sp:Sp} (lk:K.lookup f=some ⟨oc,od,.func (V7 name qual params body scope dV kV doc pm an cdv ct),osl⟩) (hcd:QV K cdv qual=true) (S:aT N ps scope)
  (len:∀vs H Q E,sp vs H Q E->vs.length=ps.length)
  (hbody:∀(A:wW)(outer:List Env)(s:wl)(H:Hp)(vs:List V)(Q:VK)(E:XK),dF k (A.deeper (envOfC qual scope s.heap.objs.size f cdv))->sp vs H Q E ->
   ∃t,ff (gF CX P w K mg base N qual scope f cdv A outer s H E) body t/\t {nx:=λ_ H'=>Q .bG H',rt:=Q} (start N vs) H) :
  aN P w K mg base CX (k+1) f (V7 name qual params body scope dV kV doc pm an cdv ct) ps sp:=by
 refine⟨len,λA outer s H args us vs Q E hr e0 hb r hsp=>?_⟩;have hl:=len _ _ _ _ hsp;have KX:K.In s.heap:=e0.mod.lS.keeps λb o e=>(e0.bs b o e).1
 have lim:s.heap.NoLimit:=e0.mod.nolimit.keeps λb o e=>(e0.bs b o e).1
 have hkind:∀y∈ps.zip us,scope.names.lookup y.1=some .local\/(scope.names.lookup y.1=some .cell/\((cellsFrom (s.heap.objs.size+1) scope.names []).lookup y.1).isSome=true):=λ⟨n,v⟩ hy=>by
  rcases S.par n (QF hy).1 with q | q
  ·exact .inl q
  ·exact .inr ⟨q,Qx _ _ _ (.inl q)⟩
 refine codeAny_call_function hr.depth (KX _ _ lk) rfl S.co S.gen rfl (XM KX hcd) (hb _ _ _ _ ?_);refine wpAny_newFunctionEnv_cells S.kind hkind λenv he s1 x=>?_
 subst he;refine⟨lim.keeps x.toInCall.keep,codeAny_func ?_⟩;obtain⟨t,ht,hq⟩:=hbody A outer s H vs Q E (hr.deeper _) hsp;have I:Inv (gF CX P w K mg base N qual scope f cdv A outer s H E) [] (start N vs) H s1:=PX S hr.hd e0 hl r x;refine WA (ht [] s1 (start N vs) H _ I hq) (λfl s' hs=>?_) λe s' hs=>hs
 have fin:∀{σ':St}{H':Hp}{v:V}{u:wg},Inv (gF CX P w K mg base N qual scope f cdv A outer s H E) [] σ' H' s'->aY v u->Q v H'->CE outer P w H s Q u s' :=
  λ{σ' H' v u} J rv q=>⟨v,H',J.os,J.bare,J.base,J.aF,rv,q⟩
 cases fl with
 | ret u =>
  obtain⟨v,σ',H',J,rv,q⟩:=hs;exact fin J rv q
 | next =>
  obtain⟨σ',H',J,q⟩:=hs;exact fin (v:=V.bG) (u:=Value.none) J rfl q
 | brk =>
  obtain⟨_,_,_,q⟩:=hs;exact Wx q
 | cont =>
  obtain⟨_,_,_,q⟩:=hs;exact Wx q
section
variable{X:Cx}{x:Str}{p pos:Pos}{e:Expr}{es:List Expr}{t:TA}{id T:String}{r:List V->Hp->VK->Prop}
def CZ(r:List V->Hp->VK->Prop)(t:TA):TE:=λσ H Q=>t σ H λvs H1=>r vs H1 Q
theorem bK(hc:aK X (.builtin id) r)(hg:Gl X x)(hm:X.mg x=none)(hv:vU x=some (.builtin id))(ha:PA X (e::es) t)(hn:x≠"__name__":=by decide)(hdb:(x == ("__debug__" : Str))=false:=by decide)
  (he:va (e::es) X.env=(false,eval e X.env)::va es X.env:=by rfl) (hpl:(Vs pos (va es X.env)).any (·.1)=false:=by rfl):PE X (.Call (.Name x p) (e::es) [] pos) (CZ r t):=by
 intro pins s σ H Q I h;refine qq (gx I hg hm hv ?_ hn hdb);exact PyProof.Rows.callWith_builtin1 (aJ (ha pos pins s σ H _ I h) λus s1 ⟨vs,H1,I1,r1,q1⟩=>hc pins s1 σ H1 vs us Q I1 r1 q1) he hpl
theorem dG(hc:aK X (.type T) r)(hg:Gl X x)(hm:X.mg x=none)(hv:vU x=some (.type T))(ha:PA X (e::es) t)(hn:x≠"__name__":=by decide)(hdb:(x == ("__debug__" : Str))=false:=by decide)
  (he:va (e::es) X.env=(false,eval e X.env)::va es X.env:=by rfl) (hpl:(Vs pos (va es X.env)).any (·.1)=false:=by rfl):PE X (.Call (.Name x p) (e::es) [] pos) (CZ r t):=by
 intro pins s σ H Q I h;refine qq (gx I hg hm hv ?_ hn hdb);exact vD (aJ (ha pos pins s σ H _ I h) λus s1 ⟨vs,H1,I1,r1,q1⟩=>hc pins s1 σ H1 vs us Q I1 r1 q1) he hpl
end
section
variable{κ : Type}[DecidableEq κ]
end
abbrev KT(H:Hp):List (List Key × V)->List (List Key × wf × wg)->Prop:=Paired λp q=>p.1=q.1/\H q.2.1=some (.tup (p.1.map kV))/\aY p.2 q.2.2
section
variable{P:wJ}{w:wM}{H:Hp}{h:wH}{a:wf}
end
section
variable{X:Cx}{pins:List (wf × Obj)}{σ : St}{H:Hp}{s:wl}{a:wf}{y v:V}{u r:wg}{o:Option V}{A:wW}{E:wg->wl->Prop}
theorem Inv.big(I:Inv X pins σ H s):sysModules<s.heap.objs.size:=by
 have h:wN<s.heap.objs.size:=(I.mod.glob.keeps I.bk).lt;exact XN (by decide) h
end
section
variable{X:Cx}{pins:List (wf × Obj)}{σ : St}{H:Hp}{s:wl}{a:wf}{kvs:List (Key × V)}{k:Key}{u:wg}{A:wW}{E:wg->wl->Prop}
end
def JT(i:Expr):Prop:=∀ov iv,subscripted i false ov iv=operate [ov,iv] (getItem ov iv)
theorem zy3{prog:wJ}{w:wM}{A:wW}{E:wg->wl->Prop}{s:wl}{env:Env}{value slice:Expr}{pos:Pos}{T id:String}{Q:wg->wl->Prop}
  (hl:typeLookup (.type T) "__getitem__"=pure (some (.builtin id))) (hs:JT slice)
  (h:wq (model prog w) A (eval value env) (λo s₁=>wq (model prog w) A (eval slice env) (λi s₂=>s₂.TypeIs o T/\wq (model prog w) A (getItem o i) Q E s₂) E s₁) E s) :
  wq (model prog w) A (eval (.Subscript value slice pos) env) Q E s:=by
 refine Subscript_ (WA h (λo s₁ h₁=>WA h₁ (λi s₂ h₂=>?_) λ_ _ x=>x) λ_ _ x=>x);obtain⟨hT,h₂⟩:=h₂;unfold subscriptTail;refine we ?_;rw[getitemInPython_of_ne hT.not_modules];refine we (qr hT hl ?_)
 have fin:wq (model prog w) A (subscripted slice false o i) (λr s₃=>wq (model prog w) A (letTemporaryGo value o r >>= λ_=>pure r) Q E s₃) E s₂:=by
  rw[hs o i];exact wpAny_operating (WA h₂ (λr s₃ h₃=>we (wpAny_letTemporaryGo (wo h₃))) λ_ _ x=>x)
 first
  | exact wo (we fin)
  | exact we (wo (we fin))
  | exact we fin
section
variable{X:Cx}{o i e value:Expr}{pos pos' tpos:Pos}{td ty tv:TE}
end
section
variable{X:Cx}{pos:Pos}
end
abbrev VV:List (V × V)->List (wg × wg)->Prop:=Paired λp q=>aY p.1 q.1/\aY p.2 q.2
structure M1(X:Cx)(o:Expr)(m:Str)(apos:Pos)(e:Expr)(cpos:Pos):Prop where
 base:attributeBase o m X.env (eval o X.env)=eval o X.env
 b8:((Vs cpos (va [e] X.env)).all (λx=>!x.1)&&(backToKw cpos (keywordEach [] X.env)).all (λx=>x.1.isSome)
   && decide (([e]:List Expr).length+([]:List Keyword).length+(if([]:List Keyword).isEmpty then 0 else 1)<30))=true
 line:(apos.endLine == cpos.line)=true
 trees:Vs cpos (va [e] X.env)=[(false,eval e X.env)]
structure M2(X:Cx)(o:Expr)(m:Str)(apos:Pos)(e f:Expr)(cpos:Pos):Prop where
 base:attributeBase o m X.env (eval o X.env)=eval o X.env
 b8:((Vs cpos (va [e,f] X.env)).all (λx=>!x.1)&&(backToKw cpos (keywordEach [] X.env)).all (λx=>x.1.isSome)
   && decide (([e,f]:List Expr).length+([]:List Keyword).length+(if([]:List Keyword).isEmpty then 0 else 1)<30))=true
 line:(apos.endLine == cpos.line)=true
 trees:Vs cpos (va [e,f] X.env)=[(false,eval e X.env),(false,eval f X.env)]
section
variable{X:Cx}{pins:List (wf × Obj)}{σ : St}{H:Hp}{s:wl}{a:wf}{y d:V}{u r:wg}{o:Option V}{A:wW}{E:wg->wl->Prop}
end
section
variable{X:Cx}{o e f:Expr}{apos cpos:Pos}{td ty tx:TE}
end
section
variable{X:Cx}{pins:List (wf × Obj)}{σ : St}{H:Hp}{s:wl}{a:wf}{kvs:List (Key × V)}{A:wW}{E:wg->wl->Prop}
end
section
variable{X:Cx}{pins:List (wf × Obj)}{σ : St}{H:Hp}{s:wl}{a:wf}{y:V}{u:wg}{A:wW}{E:wg->wl->Prop}
end
end L2
namespace HT
open PySem PyProof.Rows
section
open PySem.SeqAt
open PySem.AutoSeq1 (wpAny_loadPart')
open PySem.MeetsSeq PySem.MeetsSeq2 PySem.MeetsSeq3
end
section
variable{prog:wJ}{w:wM}{A:wW}{E:wg->wl->Prop}{s:wl}
theorem Tv{t b:wf}{vs ws:List wg}{Q:wg->wl->Prop}(ht:IsTup s.heap t vs.toArray)(hb:IsTup s.heap b ws.toArray)(hv:vs≠[])
  (h1:ws=[]->Q (.ref t) s) (h2:ws≠[]->Q (.ref s.heap.objs.size) {s with heap:=s.heap.push {cls:=.type "tuple",data:=.seq (vs++ws).toArray}})
  (hsz:vs.length+ws.length<=vd):wq (model prog w) A (Vd .Add (.ref t) (.ref b)) Q E s:=by
 obtain⟨⟨cls,dd,data,sl⟩,ho,hc,n,hd⟩:=id ht;obtain⟨⟨cls2,dd2,data2,sl2⟩,ho2,hc2,n2,hd2⟩:=id hb;simp only at hc hd hc2 hd2;subst hc hd hc2 hd2;have e:vs.toArray++ws.toArray=(vs++ws).toArray:=by simp
 by_cases hw:ws=[]
 ·exact concat_meets ⟨_,ho,rfl⟩ ⟨_,ho2,rfl⟩ noFill_tuple_add seq_tuple_add Qy Qt (Qh _ _)
   (tuple_addW1 t b vs.toArray ws.toArray n n2 dd dd2 sl sl2 (by simpa using hv) (by simp[hw])) ⟨ho,ho2,h1 hw⟩
 ·refine concat_meets ⟨_,ho,rfl⟩ ⟨_,ho2,rfl⟩ noFill_tuple_add seq_tuple_add Qy Qt (Qh _ _)
   (tuple_addW2 t b vs.toArray ws.toArray n n2 dd dd2 sl sl2 (by simpa using hv) (by simpa using hw) (by rw[wR,wR];exact hsz)) ⟨ho,ho2,?_⟩
  rw[e];exact h2 hw
def a_(n d:Nat):Option Int->Nat
 | none=>d
 | some v=>if v<0 then(v+(n:Int)).toNat else min v.toNat n
theorem Tq(n d:Nat):a_ n d none=d:=rfl
theorem Tt(n d k:Nat):a_ n d (some (k:Int))=min k n:=by
 show(if(k:Int)<0 then((k:Int)+(n:Int)).toNat else min (k:Int).toNat n)=min k n
 rw[if_neg (by lia),wT]
theorem zBU(n d:Nat)(hd:d<=n)(o:Option Int):a_ n d o<=n:=by
 cases o with
 | none=>exact hd
 | some v =>
  show(if v<0 then(v+(n:Int)).toNat else min v.toNat n)<=n
  by_cases hv:v<0
  ·rw[if_pos hv];lia
  ·rw[if_neg hv];exact xA _ _
theorem Pf(v:Int)(n d:Nat):(if v<0 then max (v+(n:Int)) 0 else min v (n:Int))=((a_ n d (some v):Nat):Int):=by
 show(if v<0 then max (v+(n:Int)) 0 else min v (n:Int))=(((if v<0 then(v+(n:Int)).toNat else min v.toNat n):Nat):Int)
 by_cases hv:v<0
 ·simp only[if_pos hv];lia
 ·simp only[if_neg hv];lia
theorem Yk(lo hi:Option Int)(n:Nat):Qa lo hi 1 (n:Int)=(((a_ n 0 lo:Nat):Int),((a_ n n hi:Nat):Int)):=by
 have h1:¬ ((1:Int)<0):=by lia
 unfold Qa;simp only[h1,if_false];refine qK ?_ ?_
 ·cases lo with
  | none=>rfl
  | some v=>exact Pf v n 0
 ·cases hi with
  | none=>rfl
  | some v=>exact Pf v n n
theorem zse(i j:Nat):V1 (i:Int) (j:Int) 1=j-i:=by
 unfold V1;have h1:(1:Int) > 0:=by lia
 simp only[h1,if_true,Int.ediv_one]
 split<;>lia
theorem Lj{v:wg}{o:Option Int}{Q:Option Int->wl->Prop}(p:IsPart v o)(h:Q o s):wq (model prog w) A (Ug v) Q E s:=by
 cases p with
 | none=>exact slicePart_none h
 | int i t=>exact slicePart_int h
theorem zjX{sl:wf}{vl vu:wg}{lo hi:Option Int}{n:Nat}{Q:Int × Int × Nat->wl->Prop}(hs:s.heap.IsSliceOf sl vl vu .none)(pl:IsPart vl lo)(pu:IsPart vu hi)
  (h:Q (((a_ n 0 lo:Nat):Int),1,a_ n n hi-a_ n 0 lo) s):wq (model prog w) A (xf (.ref sl) (pure (n:Int))) Q E s:=by
 obtain⟨os,hos,hcs,hds⟩:=id hs;unfold xf Uz;refine we (we (vk hos hds (x:=vl) rfl (we (vk hos hds (x:=vu) rfl (we (vk hos hds (x:=.none) rfl (wo ?_)))))));refine we (slicePart_none ?_)
 show wq _ _ (if((1:Int) == 0)=true then _ else _) _ _ s
 rw[if_neg (by decide)];refine we (Lj pl (we (Lj pu (we (wo ?_)))))
 show wq _ _ (match Qa lo hi 1 (n:Int)with | (lo,hi)=>pure (lo,(1:Int),V1 lo hi 1)) _ _ s
 rw[Yk lo hi n]
 show wq _ _ (pure (((a_ n 0 lo:Nat):Int),(1:Int),V1 ((a_ n 0 lo:Nat):Int) ((a_ n n hi:Nat):Int) 1)) _ _ s
 rw[zse];exact wo h
theorem zxe(xs:Array wg)(i k:Nat):((wx k).filterMap λ(m:Nat)=>xs[((i:Int)+(m:Int)*1).toNat]?).toArray=((xs.toList.drop i).take k).toArray:=by
 have e:(λ(m:Nat)=>xs[((i:Int)+(m:Int)*1).toNat]?)=λm=>xs[i+m]?:=by
  funext m
  have:((i:Int)+(m:Int)*1).toNat=i+m:=by lia
  rw[this]
 rw[e];have:=pick_run xs i k;rw[List.filterMap_map]at this;have e2:((λx=>xs[x]?) ∘ λx=>i+x)=λm=>xs[i+m]?:=rfl
 rw[e2]at this;rw[this]
theorem Sm{t sl:wf}{items:Array wg}{vl vu:wg}{lo hi:Option Int}{Q:wg->wl->Prop}(ht:IsTup s.heap t items)(hs:s.heap.IsSliceOf sl vl vu .none)(pl:IsPart vl lo)(pu:IsPart vu hi)
  (hw:¬ (a_ items.size 0 lo=0/\a_ items.size items.size hi=items.size))
  (h:Q (.ref s.heap.objs.size) {s with heap:=s.heap.push {cls:=.type "tuple",data:=.seq ((items.toList.drop (a_ items.size 0 lo)).take (a_ items.size items.size hi-a_ items.size 0 lo)).toArray}})
  (hsz:items.size<=vd):wq (model prog w) A (getItem (.ref t) (.ref sl)) Q E s:=by
 have htake:sizeOk (.seq ((items.toList.drop (a_ items.size 0 lo)).take (a_ items.size items.size hi-a_ items.size 0 lo)).toArray):=by
  show((items.toList.drop (a_ items.size 0 lo)).take (a_ items.size items.size hi-a_ items.size 0 lo)).toArray.size<=vd
  rw[wR,Ws,Wa,wO]
  lia
 have hj:a_ items.size items.size hi<=items.size:=zBU _ _ (wp _) hi;obtain⟨os,hos,hcs,hds⟩:=id hs;have hTs:s.TypeIs (.ref sl) "slice":=⟨os,hos,hcs⟩;unfold getItem
 try with_reducible refine vC ?_
 first | refine we (wo ?_) | skip
 refine we (wpAny_sequenceKey ht.typeIs (by decide) ?_)
 refine we (wpAny_callSpecial?_slot (name:=vW "__getitem__") ht.typeIs qh
  (Wb qh ht.typeIs entry_tuple_getitem ?_ (args_tuple_getitem _ _)))
 show wq _ _ (xg (.ref t) >>= _) _ _ s
 refine we (tupleItemsOf_ ht ?_);refine we (wpAny_typeOf hTs ?_);rw[if_pos (by decide)];refine we (zjX hs pl pu ?_)
 have hno:¬ ((((a_ items.size 0 lo:Nat):Int) == 0&&(1:Int) == 1&&(a_ items.size items.size hi-a_ items.size 0 lo) == items.size)=true):=by
  intro q;rw[w8,w8]at q;have q1:((a_ items.size 0 lo:Nat):Int)=0:=eq_of_beq q.1.1;have q2:a_ items.size items.size hi-a_ items.size 0 lo=items.size:=eq_of_beq q.2;exact hw ⟨by lia,by lia⟩
 show wq _ _ (if(((a_ items.size 0 lo:Nat):Int) == 0&&(1:Int) == 1&&(a_ items.size items.size hi-a_ items.size 0 lo) == items.size)=true then _ else _) _ _ s
 rw[if_neg hno,zxe]
 first
  | exact we (m:=V8 _) (Ww (wo ⟨_,rfl,wo h⟩) htake)
  | exact we (m:=V8 _) (Ww (we (wo (wo ⟨_,rfl,wo h⟩))) htake)
  | exact we (we (m:=V8 _) (Ww (wo (wo ⟨_,rfl,wo h⟩)) htake))
  | exact we (we (m:=V8 _) (Ww (wo ⟨_,rfl,wo h⟩) htake))
end
end HT
namespace L2
open PySem PySem.Spec PyProof.Rows
abbrev TO:=St->Hp->(Option Int->Hp->Prop)->Prop
def PO(X:Cx)(e:Option Expr)(t:TO):Prop :=
 ∀(pins:List (wf × Obj))(s:wl)(σ : St)(H:Hp)(Q:Option Int->Hp->Prop),Inv X pins σ H s->t σ H Q ->
  wq (model X.prog X.w) X.A (evalPart e X.env) (λu s'=>∃o H',Inv X pins σ H' s'/\IsPart u o/\Q o H') X.xe s
def RD:TO:=λ_ H Q=>Q none H
def Nq(t:TE):TO:=λσ H Q=>t σ H λx H1=>∃i,x=.int i/\Q (some i) H1
theorem Cv{ns:List Int} : ∀{us:List wg},aP (ns.map V.int) us->IntsAre us ns:=by
 induction ns with
 | nil=>intro us r;rw[QG]at r;cases r;exact .nil
 | cons n ns ih =>
  intro us r;rw[vb]at r;cases r with
  | cons r1 r2 =>
   obtain⟨t,e⟩:=r1;subst e;exact .cons n t (ih r2)
section
variable{X:Cx}{e:Expr}{te:TE}{lo hi:Option Expr}{tl th:TO}{pos p2:Pos}
theorem mL:PO X none RD:=by
 intro pins s σ H Q I h;rw[evalPart_none];exact wo ⟨none,H,I,.none,h⟩
theorem nF(h:PE X e te):PO X (some e) (Nq te):=by
 intro pins s σ H Q I hw;rw[evalPart_some];refine aJ (h pins s σ H _ I hw) λu s1 ⟨x,H1,I1,r1,q1⟩=>?_
 obtain⟨i,rfl,q⟩:=q1;obtain⟨t,rfl⟩:=r1;exact⟨some i,H1,I1,.int i t,q⟩
def kx(X:Cx)(r:V->Option Int->Option Int->Hp->VK->Prop):Prop :=
 ∀(pins:List (wf × Obj))(s:wl)(σ : St)(H:Hp)(x:V)(v vl vu:wg)(lo hi:Option Int)(sl:wf)(Q:VK),Inv X pins σ H s->aY x v->s.heap.IsSliceOf sl vl vu .none->IsPart vl lo->IsPart vu hi->r x lo hi H Q ->
  ∃T id,typeLookup (.type T) "__getitem__"=pure (some (.builtin id))/\s.TypeIs v T/\wq (model X.prog X.w) X.A (getItem v (.ref sl)) (EP X pins σ Q) X.xe s
theorem kx.or{r r':V->Option Int->Option Int->Hp->VK->Prop}(h:kx X r)(h':kx X r'):kx X (λx lo hi H Q=>r x lo hi H Q\/r' x lo hi H Q):=by
 intro pins s σ H x v vl vu lo hi sl Q I rx hs pl pu q;rcases q with q | q
 ·exact h pins s σ H x v vl vu lo hi sl Q I rx hs pl pu q
 ·exact h' pins s σ H x v vl vu lo hi sl Q I rx hs pl pu q
def OI(r:V->Option Int->Option Int->Hp->VK->Prop)(te:TE)(tl th:TO):TE:=λσ H Q=>te σ H λx H1=>tl σ H1 λl H2=>th σ H2 λu H3=>r x l u H3 Q
theorem m5{r:V->Option Int->Option Int->Hp->VK->Prop}(hr:kx X r)(he:PE X e te)(hl:PO X lo tl)(hu:PO X hi th):PE X (.Subscript e (.Slice lo hi none p2) pos) (OI r te tl th):=by
 intro pins s σ H Q I h;refine Subscript_ (aJ (he pins s σ H _ I h) λv s1 ⟨x,H1,I1,r1,q1⟩=>?_);refine wpAny_Slice (aJ (hl pins s1 σ H1 _ I1 q1) λvl s2 ⟨l,H2,I2,pl,q2⟩=>aJ (hu pins s2 σ H2 _ I2 q2) λvu s3 ⟨u,H3,I3,pu,q3⟩=>?_);rw[evalPart_none];refine wo ?_;have I4:Inv X pins σ H3 {s3 with heap:=s3.heap.push {cls:=.type "slice",data:=.fields #[vl,vu,.none]}}:=I3.kept (t':=s3.toks) λb ob q=>wn _ q
 obtain⟨T,id,hT,ht,hg⟩:=hr pins {s3 with heap:=s3.heap.push {cls:=.type "slice",data:=.fields #[vl,vu,.none]}} σ H3 x v vl vu l u s3.heap.objs.size Q I4 r1 (UL ..) pl pu q3
 show wq (model X.prog X.w) X.A (subscriptTail e (.Slice lo hi none p2) v (.ref s3.heap.objs.size)) (EP X pins σ Q) X.xe {s3 with heap:=s3.heap.push {cls:=.type "slice",data:=.fields #[vl,vu,.none]}}
 exact tail_any (ops:=[.ref s3.heap.objs.size,v]) ht hT hg (by with_unfolding_all rfl)
def jm(xs:List V)(lo hi:Option Int):List V:=(xs.drop (HT.a_ xs.length 0 lo)).take (HT.a_ xs.length xs.length hi-HT.a_ xs.length 0 lo)
theorem N4(xs:List V)(lo hi:Option Int):(jm xs lo hi).length<=xs.length:=by
 unfold jm;rw[Ws,Wa]
 lia
def Jg(K:wb):V->Option Int->Option Int->Hp->VK->Prop:=λx lo hi H Q=>∃a xs,x=.ref a/\aR K H a xs /\
 ¬ (HT.a_ xs.length 0 lo=0/\HT.a_ xs.length xs.length hi=xs.length) /\ ∀p,H p=none->Q (.ref p) (upd H p (.tup (jm xs lo hi)))
theorem zBG:kx X (Jg X.K):=by
 intro pins s σ H x v vl vu lo hi sl Q I rx hs pl pu h;obtain⟨a,xs,rfl,hx,hw,q⟩:=h;cases rx;obtain⟨its,r,ht,hz⟩:=I.tuple hx;have hlen:its.toArray.size=xs.length:=by rw[wR];exact r.length.symm
 refine⟨"tuple",_,qh.lookup,ht.typeIs,?_⟩;refine HT.Sm ht hs pl pu (by rw[hlen];exact hw) ?_ (by rw[hlen];exact hz);rw[hlen];refine⟨.ref s.heap.objs.size,_,I.laid (t':=s.toks) (o:=.tup (jm xs lo hi)) (λb ob q=>wn _ q) (wp _) ?_,rfl,q _ (I.aF.fresh (wp _))⟩;exact⟨Wk (N4 xs lo hi) hz,_,(r.drop (HT.a_ xs.length 0 lo)).take (HT.a_ xs.length xs.length hi-HT.a_ xs.length 0 lo),QD _ _⟩
def RZ(K:wb):R2:=λx y H Q=>∃a b xs ys,x=.ref a/\y=.ref b/\aR K H a xs/\aR K H b ys/\xs≠[]/\xs.length+ys.length<=vd /\
 (ys=[]->Q (.ref a) H)/\(ys≠[]->∀p,H p=none->Q (.ref p) (upd H p (.tup (xs++ys))))
theorem aP.AW{xs:List V}{us:List wg}(r:aP xs us):us=[] ↔ xs=[]:=by
 cases r with
 | nil=>simp
 | cons _ _=>simp
theorem zyg:aM X (Vd .Add) (RZ X.K):=by
 intro pins s σ H x y v u Q I rx ry h;obtain⟨a,b,xs,ys,rfl,rfl,ha,hb,hx,hz,q1,q2⟩:=h;cases rx;cases ry;obtain⟨its,r1,p1,_⟩:=I.tuple ha;obtain⟨its2,r2,p2,_⟩:=I.tuple hb;refine HT.Tv p1 p2 (λz=>hx (r1.AW.mp z)) (λz=>⟨.ref a,H,I,rfl,q1 (r2.AW.mp z)⟩) (λz=>?_) (by rw[<- r1.length,<- r2.length];exact hz);refine⟨.ref s.heap.objs.size,_,I.laid (t':=s.toks) (o:=.tup (xs++ys)) (λb ob q=>wn _ q) (wp _) ?_,rfl,q2 (λw=>z (r2.AW.mpr w)) _ (I.aF.fresh (wp _))⟩;exact⟨by rw[wZ];exact hz,_,r1.append r2,QD _ _⟩
end
def ib(n:Nat)(i:Int):Option Nat:=if 0<=i then(if i<n then some i.toNat else none)else if -(n:Int)<=i then some (i+n).toNat else none
def gy{α : Type}(xs:List α)(i:Int):Option α:=(ib xs.length i).bind λj=>xs[j]?
theorem O_{n:Nat}{i:Int}{j:Nat}(h:ib n i=some j):seqIndex? i n=some j/\j<n /\ -(n:Int)<=i/\i<n:=by
 unfold ib at h
 by_cases h0:0<=i
 ·rw[if_pos h0]at h
  by_cases h1:i<n
  ·rw[if_pos h1]at h
   have e:i.toNat=j:=wK h;exact⟨by rw[seqIndex_of h0 h1,e],by lia,by lia,h1⟩
  ·rw[if_neg h1]at h;cases h
 ·rw[if_neg h0]at h
  by_cases h1 : -(n:Int)<=i
  ·rw[if_pos h1]at h
   have e:(i+n).toNat=j:=wK h;exact⟨by rw[seqIndex_neg (by lia) h1,e],by lia,h1,by lia⟩
  ·rw[if_neg h1]at h;cases h
theorem Eh{α : Type}{xs:List α}{i:Int}{v : α}(h:gy xs i=some v):∃j,seqIndex? i xs.length=some j/\xs[j]? = some v/\j<xs.length /\ -(xs.length:Int)<=i/\i<xs.length:=by
 unfold gy at h;cases e:ib xs.length i with
 | none=>rw[e]at h;cases h
 | some j =>
  rw[e]at h;obtain⟨h1,h2,h3,h4⟩:=O_ e;exact⟨j,h1,h,h2,h3,h4⟩
theorem kU{α : Type}{xs:List α}{j:Nat}{v : α}(h:xs[j]? = some v):gy xs (j:Int)=some v:=by
 have hj:j<xs.length:=(WU.mp h).1
 have e:ib xs.length (j:Int)=some j:=by
  unfold ib;rw[if_pos (by lia),if_pos (by lia)];simp
 unfold gy;rw[e];exact h
def Zg(b:Expr):Prop:=∀o i,subscripted b false o i=operate [o,i] (getItem o i)
def gA(X:Cx)(r:R2):Prop :=
 ∀(value slice:Expr)(pins:List (wf × Obj))(s:wl)(σ : St)(H:Hp)(x y:V)(v u:wg)(Q:VK),Inv X pins σ H s->aY x v->aY y u->r x y H Q ->
  subscripted slice false v u=operate [v,u] (getItem v u)->wq (model X.prog X.w) X.A (subscriptTail value slice v u) (EP X pins σ Q) X.xe s
def Pp(X:Cx)(id:String)(r:V->List V->Hp->VK->Prop):Prop :=
 ∀(pins:List (wf × Obj))(s:wl)(σ : St)(H:Hp)(x:V)(xs:List V)(v:wg)(us:List wg)(Q:VK),Inv X pins σ H s->aY x v->aP xs us->r x xs H Q ->
  wq (model X.prog X.w) X.A (call (.builtin id) (v::us)) (EP X pins σ Q) X.xe s
section
variable{X:Cx}{a b:Expr}{ta tb:TE}{pos:Pos}
theorem gA.or{r r':R2}(h:gA X r)(h':gA X r'):gA X (λx y H Q=>r x y H Q\/r' x y H Q):=by
 intro value slice pins s σ H x y v u Q I rx ry q hs;rcases q with q | q
 ·exact h value slice pins s σ H x y v u Q I rx ry q hs
 ·exact h' value slice pins s σ H x y v u Q I rx ry q hs
theorem di{r:R2}(hr:gA X r)(ha:PE X a ta)(hb:PE X b tb)(hs:Zg b):PE X (.Subscript a b pos) (lU r ta tb):=by
 intro pins s σ H Q I h;exact Subscript_ (Bx ha hb I h λv u s2 x y H2 I2 rx ry q=>hr a b pins s2 σ H2 x y v u Q I2 rx ry q (hs _ _))
def O6(K:wb):R2:=λx y H Q=>∃p xs i v,x=.ref p/\y=.int i/\aI K H p xs/\gy xs i=some v/\Q v H
def Mg(K:wb):R2:=λx y H Q=>∃p xs i v,x=.ref p/\y=.int i/\aR K H p xs/\gy xs i=some v/\Q v H
def NJ:R2:=λx y H Q=>∃z i c,x=.str z/\y=.int i/\z.length<=vd/\gy z.cps.toList i=some c/\Q (.str ⟨#[c]⟩) H
theorem zzC:gA X (O6 X.K):=by
 intro value slice pins s σ H x y v u Q I rx ry h hs;obtain⟨p,xs,i,z,rfl,rfl,hq,he,q⟩:=h;cases rx;obtain⟨t,rfl⟩:=ry;obtain⟨its,r,pl,hz⟩:=I.list hq;obtain⟨j,h1,h2,h3,h4,h5⟩:=Eh he;obtain⟨w,ew,rw'⟩:=r.get h2;have hl:=r.length;have hn:=ml;have fin:EP X pins σ Q w s:=⟨z,H,I,rw',q⟩
 by_cases h0:0<=i
 ·have hj:i.toNat=j:=by
   rw[seqIndex_of h0 h5]at h1;exact wK h1
  exact item_listR pl.isList h0 (by lia) (by rw[hj];simpa using ew) fin hs
 ·have hj:(i+(its.toArray.size:Int)).toNat=j:=by
   rw[seqIndex_neg (by lia) h4]at h1;rw[wR,<- hl];exact wK h1
  exact subscriptTail_builtinR (x:=w) pl.isList.typeIs slot_list_getitem.lookup
   (wpAny_getItem_list_neg (Q:=λr s'=>r=w/\EP X pins σ Q r s') pl.isList (by lia) (by rw[wR]<;>lia) (by lia) (by rw[hj];simpa using ew) ⟨rfl,fin⟩) hs
theorem zAZ:gA X (Mg X.K):=by
 intro value slice pins s σ H x y v u Q I rx ry h hs;obtain⟨p,xs,i,z,rfl,rfl,hq,he,q⟩:=h;cases rx;obtain⟨t,rfl⟩:=ry;obtain⟨its,r,pl,hz⟩:=I.tuple hq;obtain⟨j,h1,h2,h3,h4,h5⟩:=Eh he;obtain⟨w,ew,rw'⟩:=r.get h2;have hl:=r.length;have hn:=ml;have fin:EP X pins σ Q w s:=⟨z,H,I,rw',q⟩
 exact subscriptTail_builtinR (x:=w) pl.typeIs slot_tuple_getitem.lookup
  (getItem_tuple (j:=j) (Q:=λr s'=>r=w/\EP X pins σ Q r s') pl (by lia) (by lia) (by rw[wR,<- hl];exact h1) (by simpa using ew) ⟨rfl,fin⟩) hs
theorem zAF:gA X NJ:=by
 intro value slice pins s σ H x y v u Q I rx ry h hs;obtain⟨z,i,c,rfl,rfl,hz,he,q⟩:=h;obtain⟨t,rfl⟩:=rx;obtain⟨t',rfl⟩:=ry;obtain⟨j,h1,h2,h3,h4,h5⟩:=Eh he;have hl:z.cps.toList.length=z.length:=by simp[Str.length]
 rw[hl]at h1 h4 h5;have hn:=ml
 exact tail_any (typeIs_str s z t) slot_str_getitem.lookup (getItem_str (c:=c) (by
  have e1:decide (i < -(2^63:Int))=false:=decide_eq_false (by lia);have e2:decide (i ≥ 2^63)=false:=decide_eq_false (by lia);rw[e1,e2,Bool.or_false]) (by rw[h1];simpa using h2) ⟨.str ⟨#[c]⟩,H,I.tok _,⟨_,rfl⟩,q⟩) hs
def dB(K:wb):R2:=λx y H Q=>O6 K x y H Q\/Mg K x y H Q\/NJ x y H Q
theorem cF:gA X (dB X.K):=zzC.or (zAZ.or zAF)
theorem zsA(its:List wg)(n j:Nat)(u:wg):xt (·.setIfInBounds j u) {cls:=.type "list",data:=.seq its.toArray n} = {cls:=.type "list",data:=.seq (its.set j u).toArray n}:=by
 simp[xt]
theorem Inv.lst{pins:List (wf × Obj)}{σ : St}{H:Hp}{s:wl}{p:wf}{xs:List V}(I:Inv X pins σ H s)(h:H p=some (.lst xs)) :
  ∃(its:List wg)(n:Nat),aP xs its/\s.heap.get? p=some {cls:=.type "list",data:=.seq its.toArray n}/\xs.length<=vd:=by
 obtain⟨z,its,n,r,e⟩:=I.aF p _ h;exact⟨its,n,r,e,z⟩
theorem Inv.Tx{pins:List (wf × Obj)}{σ : St}{H:Hp}{s:wl}{p:wf}{xs ys:List V}{its its':List wg}{n n':Nat}{f:Obj->Obj}(I:Inv X pins σ H s)(h:H p=some (.lst xs))
  (ho:s.heap.get? p=some {cls:=.type "list",data:=.seq its.toArray n}) (hf:f {cls:=.type "list",data:=.seq its.toArray n} = {cls:=.type "list",data:=.seq its'.toArray n'}) (r:aP ys its') (hz:ys.length<=vd) (t:Nat) :
  Inv X pins σ (upd H p (.lst ys)) {s with heap:=s.heap.update p f,toks:=t}:=by
 have e:(s.heap.update p f).get? p=some {cls:=.type "list",data:=.seq its'.toArray n'}:=by
  rw[Vh f ho (by rw[hf]<;>rfl),hf]
 refine I.write (x:=p) (e:=p) (by rw[h];trivial) (.inl rfl) (λb u hb q=>(WB _ _ (Wp hb)).trans q) ⟨_,e⟩ ?_;exact⟨hz,its',n',r,e⟩
def O3:V->V->V->Hp->(Hp->Prop)->Prop:=λo i v H Q=>∃p xs k j,o=.ref p/\i=.int k/\H p=some (.lst xs)/\ib xs.length k=some j/\Q (upd H p (.lst (xs.set j v)))
theorem zt:RJ X O3:=by
 intro pins s σ H o i v ov iv u Q I ro ri rv h;obtain⟨p,xs,k,j,rfl,rfl,hp,hj,q⟩:=h;cases ro;obtain⟨t,rfl⟩:=ri;obtain⟨its,n,r,ho,hz⟩:=I.lst hp;obtain⟨h1,h2,h3,h4⟩:=O_ hj;have hl:=r.length;have hn:=ml
 have I':Inv X pins σ (upd H p (.lst (xs.set j v))) {s with heap:=s.heap.update p (xt (·.setIfInBounds j u))} :=
  I.Tx hp ho (zsA its n j u) (r.set rv j) (by rw[VM];exact hz) s.toks
 by_cases h0:0<=k
 ·have hk:k.toNat=j:=by
   rw[seqIndex_of h0 h4]at h1;exact wK h1
  exact PySem.W.ki_setAt ho h0 (by lia) (by rw[wR,<- hl];exact h4) (by rw[hk];exact⟨_,I',q⟩)
 ·have hk:(k+(its.toArray.size:Int)).toNat=j:=by
   rw[seqIndex_neg (by lia) h3]at h1;rw[wR,<- hl];exact wK h1
  exact PySem.W.ki_setBack ho (by lia) (by rw[wR,<- hl];exact h3) (by lia) (by rw[hk];exact⟨_,I',q⟩)
theorem zpi(lo hi:Option Int)(n:Nat):(qX lo hi none n).1=((HT.a_ n 0 lo:Nat):Int)/\(qX lo hi none n).2.1=((HT.a_ n n hi:Nat):Int)/\(qX lo hi none n).2.2=1:=by
 refine⟨?_,?_,rfl⟩
 ·cases lo with
  | none=>simp[qX,HT.a_]
  | some i =>
   simp only[qX,HT.a_,uC,show(1:Int) > 0 by decide,if_true]
   by_cases h:i<0
   ·simp only[h,if_true]<;>lia
   ·simp only[h,if_false]<;>lia
 ·cases hi with
  | none=>simp[qX,HT.a_]
  | some i =>
   simp only[qX,HT.a_,uC,show(1:Int) > 0 by decide,if_true]
   by_cases h:i<0
   ·simp only[h,if_true]<;>lia
   ·simp only[h,if_false]<;>lia
theorem Y5(its:List wg)(lo hi:Option Int):slicePick its.toArray lo hi none=((its.drop (HT.a_ its.length 0 lo)).take (HT.a_ its.length its.length hi-HT.a_ its.length 0 lo)).toArray:=by
 obtain⟨h1,h2,h3⟩:=zpi lo hi its.toArray.size;unfold slicePick;rw[h1,h2,h3];simp only[sliceRange_one,pick_run,wR]<;>rfl
def Pe(K:wb):V->Option Int->Option Int->Hp->VK->Prop:=λx lo hi H Q=>∃a xs,x=.ref a/\aI K H a xs /\ ∀p,H p=none->Q (.ref p) (upd H p (.lst (jm xs lo hi)))
theorem zyY:kx X (Pe X.K):=by
 intro pins s σ H x v vl vu lo hi sl Q I rx hs pl pu h;obtain⟨a,xs,rfl,hx,q⟩:=h;cases rx;obtain⟨its,r,ht,hz⟩:=I.list hx;have hlen:=r.length;refine⟨"list",_,slot_list_getitem.lookup,ht.isList.typeIs,?_⟩;refine wpAny_getItem_list_slice ht.isList hs pl pu .none (by simp) ?_ (by rw[wR]<;>lia);rw[Y5,<- hlen];refine⟨.ref s.heap.objs.size,_,I.laid (t':=s.toks) (o:=.lst (jm xs lo hi)) (λb ob q=>wn _ q) (wp _) ?_,rfl,q _ (I.aF.fresh (wp _))⟩;exact⟨Wk (N4 xs lo hi) hz,_,0,(r.drop (HT.a_ xs.length 0 lo)).take (HT.a_ xs.length xs.length hi-HT.a_ xs.length 0 lo),wP _ rfl⟩
def j4:V->Bool
 | .bG=>true
 | .bl _=>true
 | .int _=>true
 | .str _=>true
 | _=>false
def kJ:V->V->Bool
 | .bG,.bG=>true
 | .bl a,.bl b=>a == b
 | .bl a,.int b=>(if a then 1 else 0) == b
 | .int a,.bl b=>a == (if b then 1 else 0)
 | .int a,.int b=>a == b
 | .str a,.str b=>a == b
 | _,_=>false
theorem zBR{A:wW}{s:wl}{y x:V}{u v:wg}(ry:aY y u)(rx:aY x v)(fy:j4 y=true)(fx:j4 x=true):SeqAt.EqAt A s u v (kJ y x):=by
 cases y with
 | bG =>
  cases ry;cases x with
  | bG=>cases rx;exact SeqAt.EqAt.same _
  | bl b=>cases rx;exact SeqAt.EqAt.none_bool b
  | int b=>obtain⟨t,rfl⟩:=rx;exact SeqAt.EqAt.none_int b t
  | str b=>obtain⟨t,rfl⟩:=rx;exact SeqAt.EqAt.none_str b t
  | _=>exact absurd (show false=true from fx) vG
 | bl a =>
  cases ry;cases x with
  | bG=>cases rx;exact SeqAt.EqAt.bool_none a
  | bl b=>cases rx;exact SeqAt.EqAt.bool_bool a b
  | int b=>obtain⟨t,rfl⟩:=rx;exact SeqAt.EqAt.bool_int a b t
  | str b=>obtain⟨t,rfl⟩:=rx;exact SeqAt.EqAt.bool_str a b t
  | _=>exact absurd (show false=true from fx) vG
 | int a =>
  obtain⟨t',rfl⟩:=ry;cases x with
  | bG=>cases rx;exact SeqAt.EqAt.int_none a t'
  | bl b=>cases rx;exact SeqAt.EqAt.int_bool a t' b
  | int b=>obtain⟨t,rfl⟩:=rx;exact SeqAt.EqAt.int_int a t' b t
  | str b=>obtain⟨t,rfl⟩:=rx;exact XG a t' b t
  | _=>exact absurd (show false=true from fx) vG
 | str a =>
  obtain⟨t',rfl⟩:=ry;cases x with
  | bG=>cases rx;exact SeqAt.EqAt.str_none a t'
  | bl b=>cases rx;exact SeqAt.EqAt.str_bool a t' b
  | int b=>obtain⟨t,rfl⟩:=rx;exact XH a t' b t
  | str b=>obtain⟨t,rfl⟩:=rx;exact SeqAt.EqAt.str_str a t' b t
  | _=>exact absurd (show false=true from fx) vG
 | _=>exact absurd (show false=true from fy) vG
def fF(x:V)(u:wg):Bool:=match u with
 | .none=>kJ .bG x
 | .bool b=>kJ (.bl b) x
 | .int i _=>kJ (.int i) x
 | .str z _=>kJ (.str z) x
 | _=>false
theorem J_{x y:V}{u:wg}(r:aY y u)(f:j4 y=true):fF x u=kJ y x:=by
 cases y with
 | bG=>cases r;rfl
 | bl b=>cases r;rfl
 | int i=>obtain⟨t,rfl⟩:=r;rfl
 | str z=>obtain⟨t,rfl⟩:=r;rfl
 | _=>exact absurd (show false=true from f) vG
theorem oQ{x:V} : ∀{xs:List V}{us:List wg},aP xs us->xs.all j4=true->us.any (fF x)=xs.any λy=>kJ y x
 | _,_,.nil,_=>rfl
 | y::xs,u::us,.cons r t,f=>by
  rw[Xv,w8]at f;rw[qQ,qQ,J_ r f.1,oQ t f.2]
theorem p6{A:wW}{s:wl}{x:V}{v:wg}(rx:aY x v)(fx:j4 x=true):∀{xs:List V}{us:List wg},aP xs us->xs.all j4=true->∀u∈us,SeqAt.EqAt A s u v (fF x u)
 | _,_,.nil,_=>λu hu=>by cases hu
 | y::xs,u::us,.cons r t,f=>λu' hu=>by
  rw[Xv,w8]at f;rcases wQ.mp hu with rfl | hu
  ·rw[J_ r f.1];exact zBR r rx f.1 fx
  ·exact p6 rx fx t f.2 u' hu
def yS(x:V)(xs:List V):Bool:=xs.any λy=>kJ y x
def kD(K:wb)(neg:Bool):R2:=λx y H Q=>∃p xs,y=.ref p/\(aI K H p xs\/aR K H p xs)/\j4 x=true/\xs.all j4=true/\Q (.bl (if neg then !yS x xs else yS x xs)) H
theorem Zs:aM X (wY .In) (kD X.K false):=by
 intro pins s σ H x y v u Q I rx ry h;obtain⟨p,xs,rfl,hq,fx,fs,q⟩:=h;cases ry;rcases hq with hq | hq
 ·obtain⟨its,r,pl,hz⟩:=I.list hq
  refine SeqAt.in_listAt (fF x) pl.isList (λw hw=>p6 rx fx r fs w (by simpa using hw)) ⟨.bl _,H,I,rfl,?_⟩;rw[show its.toArray.any (fF x)=its.any (fF x) by simp,oQ r fs];exact q
 ·obtain⟨its,r,pl,hz⟩:=I.tuple hq
  refine SeqAt.in_tupleAt (fF x) pl (λw hw=>p6 rx fx r fs w (by simpa using hw)) ⟨.bl _,H,I,rfl,?_⟩;rw[show its.toArray.any (fF x)=its.any (fF x) by simp,oQ r fs];exact q
theorem Y_:aM X (wY .NotIn) (kD X.K true):=by
 intro pins s σ H x y v u Q I rx ry h;obtain⟨p,xs,rfl,hq,fx,fs,q⟩:=h;cases ry;rcases hq with hq | hq
 ·obtain⟨its,r,pl,hz⟩:=I.list hq
  refine SeqAt.notIn_listAt (fF x) pl.isList (λw hw=>p6 rx fx r fs w (by simpa using hw)) ⟨.bl _,H,I,rfl,?_⟩;rw[show its.toArray.any (fF x)=its.any (fF x) by simp,oQ r fs];exact q
 ·obtain⟨its,r,pl,hz⟩:=I.tuple hq
  refine SeqAt.notIn_tupleAt (fF x) pl (λw hw=>p6 rx fx r fs w (by simpa using hw)) ⟨.bl _,H,I,rfl,?_⟩;rw[show its.toArray.any (fF x)=its.any (fF x) by simp,oQ r fs];exact q
theorem zp5:aK X (.builtin "len") (λxs H Q=>∃p ys,xs=[.ref p]/\(aI X.K H p ys\/aR X.K H p ys)/\Q (.int ys.length) H):=by
 intro pins s σ H xs us Q I r h;obtain⟨p,ys,rfl,hq,q⟩:=h;obtain⟨u,rfl,rx⟩:=fT r;cases rx;have hn:=ml;rcases hq with hq | hq
 ·obtain⟨its,r',pl,hz⟩:=I.list hq
  have hlen:=r'.length;exact Calls.call_len_list pl.isList (by simp only[wR]<;>lia) ⟨.int ys.length,H,I.tok _,⟨s.toks+1,by rw[wR,hlen]⟩,q⟩
 ·obtain⟨its,r',pl,hz⟩:=I.tuple hq
  have hlen:=r'.length;exact len_tuple pl (by simp only[wR]<;>lia) ⟨.int ys.length,H,I.tok _,⟨s.toks+1,by rw[wR,hlen]⟩,q⟩
theorem zo8:aK X (.type "list") (λxs H Q=>∃p ys,xs=[.ref p]/\(aI X.K H p ys\/aR X.K H p ys) /\ ∀l,H l=none->Q (.ref l) (upd H l (.lst ys))):=by
 intro pins s σ H xs us Q I r h;obtain⟨p,ys,rfl,hq,q⟩:=h;obtain⟨u,rfl,rx⟩:=fT r;cases rx
 have fin:∀(its:List wg),aP ys its->ys.length<=vd->∀(h':wH)(c':Nat),(∀b o',s.heap.get? b=some o'->h'.get? b=some o') ->
     h'.get? s.heap.objs.size=some {cls:=.type "list",dict:=none,data:=.seq its.toArray c',slots:=#[]}->EP X pins σ Q (.ref s.heap.objs.size) {s with heap:=h'}:=λits r' hz h' c' kp e =>
   ⟨.ref s.heap.objs.size,_,I.laid (t':=s.toks) kp (wp _) (show dA X.prog X.w _ h' _ (.lst ys)from⟨hz,its,c',r',e⟩),rfl,q _ (I.aF.fresh (wp _))⟩
 rcases hq with hq | hq
 . obtain⟨its,r',pl,hz⟩:=I.list hq
   have hlen:=r'.length;obtain⟨o,ho,hc,n,hd⟩:=pl.isList;exact call_list_seq p (.inl rfl) ho hc hd (λh' c' kp e=>fin its r' hz h' c' kp e) (by simp only[wR]<;>lia)
 . obtain⟨its,r',pl,hz⟩:=I.tuple hq
   have hlen:=r'.length;obtain⟨o,ho,hc,n,hd⟩:=pl;exact call_list_seq p (.inr rfl) ho hc hd (λh' c' kp e=>fin its r' hz h' c' kp e) (by simp only[wR]<;>lia)
theorem Zt:aK X (.type "tuple") (λxs H Q=>∃p ys,xs=[.ref p]/\((aI X.K H p ys /\ ∀l,H l=none->Q (.ref l) (upd H l (.tup ys)))\/(aR X.K H p ys/\Q (.ref p) H))):=by
 intro pins s σ H xs us Q I r h;obtain⟨p,ys,rfl,h⟩:=h;obtain⟨u,rfl,rx⟩:=fT r;cases rx;rcases h with⟨hq,q⟩ | ⟨hq,q⟩
 ·obtain⟨its,r',pl,hz⟩:=I.list hq
  have hlen:=r'.length;refine call_tuple_list pl.isList (λh' kp=>?_) (by simp only[wR]<;>lia);have I1:Inv X pins σ H {s with heap:=h'}:=I.kept (t':=s.toks) kp
  have I2:Inv X pins σ (upd H h'.objs.size (.tup ys)) {s with heap:=h'.push {cls:=.type "tuple",data:=.seq its.toArray}} :=
   I1.laid (t':=s.toks) (λb o e=>wn _ e) (wp _) (show dA X.prog X.w _ _ _ (.tup ys)from⟨hz,its,r',QD _ _⟩)
  exact⟨.ref h'.objs.size,_,I2,rfl,q _ (I1.aF.fresh (wp _))⟩
 ·obtain⟨its,r',pl,hz⟩:=I.tuple hq
  exact call_tuple_same pl ⟨.ref p,H,I,rfl,q⟩
def sF(K:wb)(T:String)(x:V)(H:Hp):Prop:=match x with
 | .str _=>T="str"
 | .int _=>T="int"
 | .ref p=>(T="list" /\ ∃xs,aI K H p xs)\/(T="tuple" /\ ∃o,K.lookup p=some o/\o.cls=.type "tuple"/\o.dict=none) \/
     (T="dict"/\((∃kvs,H p=some (.dK kvs)) \/ ∃kvs,H p=some (.dT kvs)))\/(T="set" /\ ∃S n,H p=some (.set S n))
 | _=>False
theorem zBq{pins:List (wf × Obj)}{σ : St}{H:Hp}{s:wl}{T:String}{x:V}{v:wg}(I:Inv X pins σ H s)(r:aY x v)(ty:sF X.K T x H) :
  s.TypeIs v T /\ ∀a,v=.ref a->∃ob,s.heap.get? a=some ob/\ob.dict=none:=by
 cases x with
 | str z =>
  obtain⟨t,rfl⟩:=r;cases (show T="str" from ty);exact⟨typeIs_str s z t,λ_ e=>nomatch e⟩
 | int i =>
  obtain⟨t,rfl⟩:=r;cases (show T="int" from ty);exact⟨typeIs_int s i t,λ_ e=>nomatch e⟩
 | ref p =>
  cases r;rcases ty with⟨rfl,xs,hq⟩ | ⟨rfl,o,hk,hc,hd⟩ | ⟨rfl,hk⟩ | ⟨rfl,S,n,hk⟩
  ·obtain⟨its,_,pl,_⟩:=I.list hq
   refine⟨pl.isList.typeIs,λa e=>?_⟩;cases e;obtain⟨o,n,e,c,hd,_⟩:=pl;exact⟨o,e,hd⟩
  ·refine⟨⟨o,I.cW p o hk,hc⟩,λa e=>?_⟩
   cases e;exact⟨o,I.cW _ o hk,hd⟩
  ·have z:∃o,s.heap.get? p=some o/\o.ExactDict:=by
    rcases hk with⟨kvs,hk⟩ | ⟨kvs,hk⟩
    ·obtain⟨_,_,_,_,o,_,_,e,ex,_⟩:=I.aF p _ hk
     exact⟨o,e,ex⟩
    ·obtain⟨_,_,_,_,o,_,_,e,ex,_⟩:=I.aF p _ hk
     exact⟨o,e,ex⟩
   obtain⟨o,e,ex⟩:=z;refine⟨⟨o,e,ex.1⟩,λa e2=>?_⟩;cases e2;exact⟨o,e,ex.2.1⟩
  ·obtain⟨o,_,_,_,e,ex,_⟩:=I.aF p _ hk
   refine⟨⟨o,e,ex.1⟩,λa e2=>?_⟩;cases e2;exact⟨o,e,ex.2.1⟩
 | _=>exact Wx ty
def OX(K:wb)(T:String)(r:V->List V->Hp->VK->Prop)(to:TE)(t:TA):TE:=λσ H Q=>to σ H λx H1=>sF K T x H1/\t σ H1 λxs H2=>r x xs H2 Q
variable{o e:Expr}{es:List Expr}{to:TE}{t:TA}{name:Str}{apos cpos:Pos}{T id:String}{r:V->List V->Hp->VK->Prop}
theorem iO(pa:PlainAttrs T)(slot:Slot T name id)(hty:typeOf (.builtin id)=pure (.type "method_descriptor"))(hm:Pp X id r)(ho:PE X o to)(ha:PA X (e::es) t)
  (hbase:attributeBase o name X.env (eval o X.env)=eval o X.env:=by rfl)
  (hfew:((Vs cpos (va (e::es) X.env)).all (λx=>!x.1)&&(backToKw cpos (keywordEach [] X.env)).all (λx=>x.1.isSome)
   && decide ((e::es).length+([]:List Keyword).length+(if([]:List Keyword).isEmpty then 0 else 1)<30))=true:=by rfl)
  (hline:(apos.endLine == cpos.line)=true:=by rfl) (hs:va (e::es) X.env=(false,eval e X.env)::va es X.env:=by rfl) (hplain:(Vs cpos (va es X.env)).any (·.1)=false:=by rfl) :
  PE X (.Call (.Attribute o name apos) (e::es) [] cpos) (OX X.K T r to t):=by
 intro pins s σ H Q I h;refine wpAny_Call_method_late hbase hfew hline rfl (aJ (ho pins s σ H _ I h) λv s1 ⟨x,H1,I1,r1,ty,q1⟩=>?_);obtain⟨h1,h2⟩:=zBq I1 r1 ty;refine⟨T,id,pa,slot,hty,h1,h2,?_⟩;have hA:=ha cpos pins s1 σ H1 _ I1 q1;rw[hs]at hA ⊢;refine Calls.callWith_builtin (by show(false || (Vs cpos (va es X.env)).any (·.1))=false;rw[hplain]<;>rfl) (Xm ?_);exact aJ hA λus s2 ⟨vs,H2,I2,r2,q2⟩=>hm pins s2 σ H2 x vs v us Q I2 r1 r2 q2
/- xs.append(e),list.index on a module's tuple .. are Pp facts of 06m -/
end
def YO(X:Cx)(id:String)(r:V->List V->Hp->VK->Prop):Prop :=
 ∀(pins:List (wf × Obj))(s:wl)(σ : St)(H:Hp)(x:V)(xs:List V)(v:wg)(us:List wg)(Q:VK),Inv X pins σ H s->aY x v->aP xs us->r x xs H Q ->
  wq (model X.prog X.w) X.A (call (.builtin id) (v::us)) (EP X pins σ Q) X.xe s
theorem aP.one:∀{x:V}{us:List wg},aP [x] us->∃u,us=[u]/\aY x u
 | _,_,.cons r .nil=>⟨_,rfl,r⟩
section
variable{X:Cx}{pins:List (wf × Obj)}{σ : St}{H:Hp}{s:wl}{l b:wf}{xs ys zs:List V}
theorem Inv.TU{its its':List wg}{n:Nat}{f:Array wg->Array wg}{t':Nat}(I:Inv X pins σ H s)(hH:H l=some (.lst xs))
  (e:s.heap.get? l=some {cls:=.type "list",data:=.seq its.toArray n}) (hf:f its.toArray=its'.toArray) (hv:aP ys its') (hz:ys.length<=vd) :
  Inv X pins σ (upd H l (.lst ys)) {s with heap:=s.heap.update l (xt f),toks:=t'}:=by
 have q:=PySem.IsL.update e f;rw[hf]at q;refine I.write (x:=l) (e:=l) (by rw[hH];exact trivial) (.inl rfl) (λb' u hb hu=>(WB s.heap (xt f) (Wp hb)).trans hu) ⟨_,q⟩ ?_;exact⟨hz,its',_,hv,q⟩
theorem Inv.IH{its:List wg}{t':Nat}(I:Inv X pins σ H s)(hv:aP ys its)(hz:ys.length<=vd) :
  Inv X pins σ (upd H s.heap.objs.size (.lst ys)) {s with heap:=s.heap.push {cls:=.type "list",data:=.seq its.toArray},toks:=t'} :=
 I.laid (λ_ _ q=>wn _ q) (wp _) ⟨hz,its,0,hv,wP _ rfl⟩
theorem Inv.fresh(I:Inv X pins σ H s):H s.heap.objs.size=none:=I.aF.fresh (wp _)
theorem Inv.A2(I:Inv X pins σ H s)(hH:H l=some (.lst xs)):xs.length<=vd /\ ∃(its:List wg)(n:Nat),aP xs its/\xs.length=its.length/\s.heap.get? l=some {cls:=.type "list",data:=.seq its.toArray n}:=by
 obtain⟨z,its,n,r,e⟩:=I.aF l _ hH;exact⟨z,its,n,r,r.length,e⟩
end
section
variable{X:Cx}
def MG:V->List V->Hp->VK->Prop:=λx vs H Q=>∃l xs y,x=.ref l/\vs=[y]/\H l=some (.lst xs)/\xs.length<vd/\Q .bG (upd H l (.lst (xs++[y])))
theorem gZ:YO X "list.append" MG:=by
 intro pins s σ H x vs v us Q I rx rv h;obtain⟨l,xs,y,rfl,rfl,hH,hz,q⟩:=h;cases rx;obtain⟨u,rfl,ru⟩:=rv.one;obtain⟨z,its,n,r,hl,e⟩:=I.A2 hH;refine call_meets F.slot_list_append ⟨_,e,rfl⟩ F.entry_list_append (F.args_list_append_2 _ _) (PySem.list_append l its.toArray n u (by rw[wR];lia)) ⟨e,?_⟩;refine⟨.bG,_,I.TU (its':=its++[u]) hH e (by simp) (r.append (.cons ru .nil)) ?_,rfl,q⟩;rw[wZ,Wm]
 lia
def EK:R2:=λx y H Q=>∃l b xs zs,x=.ref l/\y=.ref b/\H l=some (.lst xs)/\H b=some (.lst zs)/\xs.length+zs.length<=vd /\ ∀p,H p=none->Q (.ref p) (upd H p (.lst (xs++zs)))
theorem zBA:aM X (Vd .Add) EK:=by
 intro pins s σ H x y v u Q I rx ry h;obtain⟨l,b,xs,zs,rfl,rfl,hH,hB,hz,q⟩:=h;cases rx;cases ry;obtain⟨z,its,n,r,hl,e⟩:=I.A2 hH;obtain⟨z2,its2,n2,r2,hl2,e2⟩:=I.A2 hB;refine PySem.P.add_list e e2 ?_ (by rw[wR,wR];lia);have ea:its.toArray++its2.toArray=(its++its2).toArray:=by simp
 rw[ea];exact⟨.ref _,_,I.IH (t':=s.toks) (r.append r2) (by rw[wZ];lia),rfl,q _ I.fresh⟩
end
section
variable{prog:wJ}{w:wM}{A:wW}{E:wg->wl->Prop}{s:wl}
end
section
variable{X:Cx}
end
end L2
namespace Att
open PySem PySem.W PySem.Calls PyProof.Rows
theorem zlk{P:Params}{h:wH} : ∀(ns:List Int)(vs:List wg),WellAll P h vs (ns.map WData.int)->IntsAre vs ns:=by
 intro ns
 induction ns with
 | nil =>
  intro vs w;rw[QG]at w;cases w;exact .nil
 | cons n ns ih =>
  intro vs w;rw[vb]at w;cases w with
  | cons a b =>
   cases a;exact .cons _ _ (ih _ b)
theorem Yh{l:OpenLaw}{n:Nat}(hn:l.most=some n){P:Params}{h:wH}{args:List WData}{vals:List wg}
  (hpre:l.row.toRowW.claim.pre args=true) (hwl:WellAll P h vals args) :
  ∃a vs ns,vals=[Value.ref a]/\args=[WData.list (ns.map WData.int)]/\h.get? a=some {cls:=.type "list",data:=.seq vs.toArray}/\IntsAre vs ns/\ns.length<=n:=by
 have hsh:WShape.hasAll [] args [.list .int]=true:=(pre_splitW hpre).1;have hc:l.pre.holds [] {args:=args}=true:=(pre_splitW hpre).2;obtain⟨d,r,rfl,h1,h2⟩:=hasAllW_cons hsh;obtain rfl:=hasAllW_nil h2;obtain⟨xs,rfl,h3⟩:=hasW_list h1;obtain⟨ns,rfl⟩:=items_int h3
 have hlen:ns.length<=n:=by
  unfold OpenLaw.pre at hc
  have h4:(WTm.not (.lt (.lit (.int (n:Int))) (.len (.arg 0)))).holds [] {args:=[.list (ns.map .int)]}=true:=by
   have h4:=(holds_andW hc).1;rw[hn]at h4;exact h4
  have h5:=condW_of h4 (w_not (w_lt w_lit (w_len_list (w_arg rfl))));rw[wm]at h5;refine Nat.le_of_not_lt λq=>?_
  have q':(n:Int)<((ns.length:Nat):Int):=by lia
  first
   | (rw[decide_eq_true q']at h5;exact absurd h5 (by decide))
   | (simp at h5;lia)
 cases hwl with
 | cons w1 w2 =>
  cases w2;cases w1 with
  | list ho hall=>exact⟨_,_,ns,rfl,rfl,ho,zlk ns _ hall,hlen⟩
theorem zvy(l:OpenLaw)(args:List WData):l.row.toRowW.claim.post args (.bool true) args=true :=
 postW_of (r:=l.row.toRowW) (X:=(true == true))
  (show WShape.has [] (.bool true) .bool=true by first | rfl | decide | simp[WShape.has,WShape.arms,WShape.armsAll])
  (show(WTm.eq .res (.lit (.bool true))).value [] {args:=args,res:=some (.bool true),after:=args}=some (.bool (true == true))from w_eq_bool (w_res rfl) w_lit) rfl
theorem SR{l:OpenLaw}{n:Nat}{q:wJ}{loose:List Str}{XP:(Str->Option wg)->wH->Prop}{YP:wM->wH->Prop}{d:DefRec}
  (hn:l.most=some n) (hdf:d.params.defaults=[])
  (call:∀(w:wM)(s₀ s₁ : wl)(mg mb:Str->Option wg)(fa:wf)(o:Obj)(pm cd doc:wg)(a:wf)(vs:List wg)(ns:List Int),
   Ground q loose [] XP w s₀ mg mb s₁.heap->YP w s₁.heap ->
   s₁.heap.get? fa=some o->o.data=.func (docDef d.name d.params d.body d.scope pm cd doc)->s₁.heap.CodeRec cd d.name->mg d.name=some (.ref fa) ->
   s₁.heap.get? a=some {cls:=.type "list",data:=.seq vs.toArray}->IntsAre vs ns->ns.length<=n->s₁.gens = #[] ->
   codeAny (model l.prog w) callerA (.call (.ref fa) ⟨[.ref a],[]⟩) (λr s'=>r=.ok (.ret (.bool true))/\OldK s₁.heap s'.heap/\s'.os=s₁.os/\AllBare s'.gens) s₁) :
  WalkO q loose XP YP l.row.toRowW d [] (λf vs=>uT f vs):=by
 intro w s₀ s₁ mg mb G Y fa o pm cd doc dV kV ho hd hcd hD hmg hg args vals as hpre hlay hrd hwl hlo;obtain rfl:dV=.none:=Dflts.none hD hdf;obtain rfl:kV=.none:=Dflts.noKw hD;obtain⟨a,vs,ns,rfl,rfl,hobj,hints,hlen⟩:=Yh hn hpre hwl;refine enter_call (qJ (call w s₀ s₁ mg mb fa o pm cd doc a vs ns G Y ho (fd_plain hd) hcd hmg hobj hints hlen hg) λr s' hq=>?_);obtain⟨rfl,h2,h3,h4⟩:=hq;exact⟨.inl ⟨.bool true,.bool true,[],rfl,λ_=>rfl,.bool true,zvy l _,λ_=>⟨xh.nil,λ_ hm=>(nomatch hm)⟩⟩,h2,h3,h4⟩
section
variable{prog:wJ}{w:wM}{A:wW}{E:wg->wl->Prop}{s:wl}{K:Frag}
def zDj(h:wH)(L d:wf):List (wf × Obj):=(wx h.objs.size).filterMap λa=>if a=L\/a=d then none else(h.get? a).map λo=>(a,o)
end
end Att
namespace L2
open PySem PySem.Spec PyProof.Rows
theorem NW:∀{vs:List wg}{ns:List Int},IntsAre vs ns->aP (ns.map V.int) vs
 | _,_,.nil=>.nil
 | _,_,.cons n t h=>.cons ⟨t,rfl⟩ (NW h)
def Ab(H:Hp):Prop:=∀b,H b=none \/ ∃o xs,H b=some (.fo o (.lst xs))
theorem zxv{P:wJ}{w:wM}{K:wb}{mg mb:Str->Option wg}{CX:fv}{k:Nat}{fa a:wf}{fd:wG}{x:Str}{sp:Sp}{s₁ : wl}{vs:List wg}{ns:List Int}
   (KX:K.In s₁.heap) (hns:s₁.heap.Ns wN mg) (hb:s₁.heap.Ns builtinsNs mb) (hbb:∀x:Str,x≠"__name__" -> mb x=vU x) (hlim:s₁.heap.NoLimit) (hg:s₁.gens = #[])
   (ha:s₁.heap.get? a=some {cls:=.type "list",data:=.seq vs.toArray}) (hi:IntsAre vs ns) (hl:ns.length<=vd) (hr:dF k callerA)
   (F:∀base:wH,K.In base->base.Ns wN mg->aN P w K mg base CX k fa fd [x] sp) (hbind:∀(s:wl)(u:wg),BindsTo s fd ⟨[u],[]⟩ [(x,u)])
   (hsp:∀H:Hp,Ab H->aI K H a (ns.map V.int)->sp [.ref a] H (λv _=>v=.bl true) λ_ _ _=>False)
   (hCX:∀H e s',CX [] H s₁ (λ_ _ _=>False) e s'->False) :
   codeAny (model P w) callerA (.call (.ref fa) ⟨[.ref a],[]⟩) (λr s'=>r=.ok (.ret (.bool true))/\OldK s₁.heap s'.heap/\s'.os=s₁.os/\AllBare s'.gens) s₁:=by
 have rv:=NW hi;have lenV:=hi.length
 -- from an abstract heap in which nothing but the script may be tracked
 have core:∀H:Hp,Ab H->aI K H a (ns.map V.int)->cX P w H s₁.heap->(∀b,H b≠none->b=a)->(H a≠none->K.lookup a=none) ->
     codeAny (model P w) callerA (.call (.ref fa) ⟨[.ref a],[]⟩) (λr s'=>r=.ok (.ret (.bool true))/\OldK s₁.heap s'.heap/\s'.os=s₁.os/\AllBare s'.gens) s₁:=by
   intro H hO hS aF hA hK;have base_of:∀{b:wf}{o:Obj},s₁.heap.get? b=some o->H b=none->(jZ s₁.heap H).get? b=some o:=λe n=>zxF e n
   have noA:∀{b:wf}{o:Obj}{es:Array DictEntry}{ep:Nat},s₁.heap.get? b=some o->o.data=.dict es ep->H b=none:=λ{b o es ep} e d=>by
     cases q:H b with
     | none=>rfl
     | some u =>
       have e':b=a:=hA b (by rw[q];simp);subst e';rw[ha]at e;cases e;have d':Data.seq vs.toArray _=Data.dict es ep:=d;cases d'
   have nsK:∀{b:wf}{m:Str->Option wg},s₁.heap.Ns b m->(jZ s₁.heap H).Ns b m:=λ{b m} ⟨o,es,ep,e,d,r⟩=>⟨o,es,ep,base_of e (noA e d),d,r⟩
   have hKb:K.In (jZ s₁.heap H):=λb o e=>base_of (KX b o e) (by
     cases q:H b with
     | none=>rfl
     | some u =>
       have e':b=a:=hA b (by rw[q];simp);subst e';rw[hK (by rw[q];simp)]at e;cases e)
   have hM:Mod K mg (jZ s₁.heap H):=⟨hKb,nsK hns,⟨mb,nsK hb,hbb⟩,let ⟨mc,h1,h2⟩:=hlim;⟨mc,nsK h1,h2⟩⟩;have e0:p0 P w K mg (jZ s₁.heap H) callerA [] s₁ H:=⟨rfl,hM,λb o e=>YX e,Nat.le_of_eq (zvB _ _),trivial,λb hb=>absurd (show b∈([]:List wf)from hb) (by simp),aF,.of_eq hg⟩;refine qJ ((F _ hKb (nsK hns)).run callerA [] s₁ H ⟨[.ref a],[]⟩ [.ref a] [.ref a] _ _ hr e0 (hbind s₁ (.ref a)) (.cons rfl .nil) (hsp H hO hS)) λr s' h=>?_
   cases r with
   | error e=>exact(hCX H e s' h).elim
   | ok fl =>
     cases fl with
     | next=>exact Wx h
     | brk=>exact Wx h
     | cont=>exact Wx h
     | ret u =>
       obtain⟨v,H',os,bare,un,hok',r',q⟩:=h;have q':v=.bl true:=q;subst q';obtain rfl:u=Value.bool true:=r';refine⟨rfl,OldK.of_keep λb o e=>?_,os,bare⟩;cases q:H b with
       | none=>exact un.keep b o e q (by intro z;exact absurd (show b∈([]:List wf)from z) (by simp)) (by simp)
       | some u =>
         rcases hO b with z | ⟨ob,xs,z⟩
         . rw[q]at z;cases z
         . have z2:=un.gj b ob _ z
           obtain⟨e1,_⟩:=aF b _ z;obtain⟨e2,_⟩:=hok' b _ z2;rw[e]at e1;cases e1;exact e2
 cases hk:K.lookup a with
 | some o =>
   -- the script is one of the module's own objects
   have e:=KX a o hk;rw[ha]at e;cases e;refine core (λ_=>none) (λ_=>.inl rfl) (.inr ⟨_,vs.toArray,_,hk,rfl,rfl,rfl,by rw[wR,lenV];exact hl,by simpa using rv⟩) (λb u z=>by have z':(none:Option HO)=some u:=z;cases z') (λb z=>absurd rfl z) λz=>absurd rfl z
 | none =>
   refine core (λb=>if b=a then some (.fo {cls:=.type "list",data:=.seq vs.toArray} (.lst (ns.map V.int)))else none) (λb=>?_) (.inl (.inr ⟨{cls:=.type "list",data:=.seq vs.toArray},if_pos rfl⟩)) (λb u z=>?_) (λb z=>?_) λ_=>hk
   . by_cases hb:b=a
     . exact .inr ⟨_,_,if_pos hb⟩
     . exact .inl (if_neg hb)
   . by_cases hb:b=a
     . have z':=(if_pos hb).symm.trans z
       cases z';subst hb;exact⟨ha,by rw[wm];exact hl,vs,_,rv,ha⟩
     . have z':=(if_neg hb).symm.trans z
       cases z'
   . by_cases hb:b=a
     . exact hb
     . exact absurd (if_neg hb) z
abbrev KOf{K:wb}{h:wH}(_:K.In h):wb:=K
theorem Tu{l:xM}{n k:Nat}{q:wJ}{loose:List Str}{XP:(Str->Option wg)->wH->Prop}{YP:wM->wH->Prop}{d:DefRec}{K:Params->wb}{CX:wM->fv}{sp:wM->Sp}{x:Str}
  (hn:l.most=some n) (hn2:n<=vd) (hdf:d.params.defaults=[]) (hr:dF k callerA)
  (hY:∀(w:wM)(h:wH),YP w h->(K w.params).In h)
  (F:∀(w:wM)(mg:Str->Option wg)(fa:wf)(h:wH),(K w.params).In h->h.Ns wN mg->mg d.name=some (.ref fa) ->
   ∃fd:wG,(∀(s:wl)(u:wg),BindsTo s fd ⟨[u],[]⟩ [(x,u)]) /\
    ∀base:wH,(K w.params).In base->base.Ns wN mg->aN l.prog w (K w.params) mg base (CX w) k fa fd [x] (sp w))
  (hsp:∀(w:wM)(H:Hp)(a:wf)(ns:List Int),ns.length<=n->Ab H->aI (K w.params) H a (ns.map V.int)->sp w [.ref a] H (λv _=>v=.bl true) λ_ _ _=>False)
  (hCX:∀(w:wM)(H:Hp)(s:wl)(e:wg)(s':wl),CX w [] H s (λ_ _ _=>False) e s'->False) :
  Ur q loose XP YP l.row.toRowW d [] (λf vs=>uT f vs):=by
 refine Att.SR hn hdf λw s₀ s₁ mg mb fa o pm cd doc a vs ns G Y ho hd hcd hmg hobj hints hlen hg=>?_
 have KX:=hY w _ Y;obtain⟨fd,hb,hF⟩:=F w mg fa _ KX G.T.g hmg;exact zxv KX G.T.g G.T.b G.T.builtins G.T.nolimit hg hobj hints (Wk hlen hn2) hr hF hb (λH hO hS=>hsp w H a ns hlen hO hS) λH e s'=>hCX w H s₁ e s'
def my(s:vj):Arguments:=match s with
 | .FunctionDef _ a _ _ _ _ _ _ _ _=>a
 | _=>{posonlyargs:=[],args:=[],vararg:=none,kwonlyargs:=[],kw_defaults:=[],kwarg:=none,defaults:=[]}
def jJ(s:vj):List vj:=match s with
 | .FunctionDef _ _ b _ _ _ _ _ _ _=>b
 | _=>[]
def az(s:vj):Scope:=match s with
 | .FunctionDef _ _ _ _ _ _ sc _ _ _=>sc
 | _=>{kind:=.function,names:=[],isGenerator:=false,isCoroutine:=false}
abbrev aU:fv:=λ_ _ _ _ _ _=>False
abbrev E0:XK:=λ_ _ _=>False
theorem zB8{X:Cx} : nB aU X E0:=λ_ _ _ _ _ _ _ h=>h.elim
structure jr(K:wb)(x qual:Str)(st:vj)(f:wf)(fd:wG):Prop where
 ex:∃(oc:wg)(od:Option wf)(kV doc pm:wg)(an:Option wf)(cdv ct:wg)(osl:Array (Option wg)),
   fd=V7 x qual (my st) (jJ st) (az st) .none kV doc pm an cdv ct/\K.lookup f=some ⟨oc,od,.func fd,osl⟩/\QV K cdv qual=true
 kp:Vz K (.ref f)=true
section
variable{P:wJ}{w:wM}{K:wb}{mg:Str->Option wg}{base:wH}
theorem jr.ok{x qual:Str}{st:vj}{f:wf}{fd:wG}{N ps:List Str}{k:Nat}{sp:Sp}(F:jr K x qual st f fd)(S:aT N ps (az st))(len:∀vs H Q E,sp vs H Q E->vs.length=ps.length)
  (hbody:∀(cdv:wg)(A:wW)(outer:List Env)(s:wl)(H:Hp)(vs:List V)(Q:VK)(E:XK),dF k (A.deeper (envOfC qual (az st) s.heap.objs.size f cdv))->sp vs H Q E ->
   ∃t,ff (gF aU P w K mg base N qual (az st) f cdv A outer s H E).sU (jJ st) t/\t {nx:=λ_ H'=>Q .bG H',rt:=Q} (start N vs) H):aN P w K mg base aU (k+1) f fd ps sp:=by
 obtain⟨oc,od,kV,doc,pm,an,cdv,ct,osl,rfl,lk,hcd⟩:=F.ex;refine Pl lk hcd S len λA outer s H vs Q E hr hsp=>?_
 obtain⟨t,h,q⟩:=hbody cdv A outer s H vs Q E hr hsp;exact⟨t,h.sU,q⟩
theorem jr.binds{x qual:Str}{st:vj}{f:wf}{fd:wG}{ps:List Str}(F:jr K x qual st f fd)
  (h:∀(kV doc pm:wg)(an:Option wf)(cdv ct:wg)(us:List wg),us.length=ps.length->bindArgs (V7 x qual (my st) (jJ st) (az st) .none kV doc pm an cdv ct) ⟨us,[]⟩=pure (ps.zip us)):kG K fd ps []:=by
 obtain⟨oc,od,kV,doc,pm,an,cdv,ct,osl,rfl,lk,hcd⟩:=F.ex;exact .all (h kV doc pm an cdv ct)
theorem RF{x qual:Str}{st:vj}{f:wf}{oc:wg}{od an:Option wf}{osl:Array (Option wg)}{kV doc pm cdv ct:wg}(l:K.lookup f=some ⟨oc,od,.func (V7 x qual (my st) (jJ st) (az st) .none kV doc pm an cdv ct),osl⟩)
  (c:QV K cdv qual=true) (k:Vz K (.ref f)=true):jr K x qual st f (V7 x qual (my st) (jJ st) (az st) .none kV doc pm an cdv ct):=⟨⟨oc,od,kV,doc,pm,an,cdv,ct,osl,rfl,l,c⟩,k⟩
end
theorem kr{n:Nat}(h:n<=1000):n<vd:=Vi h (by decide)
section
variable{X:Cx}
theorem pv(i:Nat){x:Str}{pos:Pos}(hN:X.N[i]? = some x:=by rfl)(hv:zA X.env.scope x:=by first | exact Or.inl rfl | exact Or.inr (Or.inl rfl) | exact Or.inr (Or.inr rfl))(hd:(x == ("__debug__" : Str))=false:=by decide)
  (hcd:(x == ("__classdict__" : Str))=false:=by decide):PE X (.Name x pos) (lX i):=zAL hN hv hd hcd
end
theorem lY{A B:Prop}(h:B):if false=true then A else B:=by
 rw[if_neg vG];exact h
theorem lP{A B:Prop}(h:A):if true=true then A else B:=by
 rw[if_pos rfl];exact h
def ah(H H':Hp):Prop:=∀b o,H b=some o->H' b=some o
theorem ah.refl(H:Hp):ah H H:=λ_ _ h=>h
theorem ah.trans{H H1 H2:Hp}(a:ah H H1)(b:ah H1 H2):ah H H2:=λc o h=>b c o (a c o h)
theorem ah.seq{K:wb}{H H':Hp}{a:wf}{xs:List V}(e:ah H H')(h:aI K H a xs):aI K H' a xs:=by
 rcases h with(h | ⟨o,h⟩) | h
 ·exact .inl (.inl (e _ _ h))
 ·exact .inl (.inr ⟨o,e _ _ h⟩)
 ·exact .inr h
end L2
namespace GM
def dv(t b:Int):Int:=if b<0 then -((vv t b:Nat):Int)else((vv t b:Nat):Int)
theorem CY{t b:Int}(hb:b≠0):0<vv t b:=qD t hb
theorem E_{t b:Int}(hb:b≠0):dv t b≠0:=by
 have:=CY (t:=t) hb;unfold dv
 split<;>lia
theorem fi{a d:Int}(h:d ∣ a)(hd:d≠0):a.fdiv d=a / d:=by
 obtain⟨k,rfl⟩:=h;rw[Int.mul_fdiv_cancel_left _ hd,V9 _ hd]
theorem EO{t b:Int}(hb:b≠0):t.fdiv (dv t b)=(wB t b).num:=by
 have hg:=CY (t:=t) hb;have h1:((vv t b:Nat):Int) ∣ t:=qL ..;rw[Rat.num_divInt,XO b t];unfold dv
 by_cases h:b<0
 ·rw[if_pos h,xi h,fi (um.mpr h1) (by lia),Int.ediv_neg]
  obtain⟨k,hk⟩:=h1;have:(-1:Int)*t=((vv t b:Nat):Int)*(-k):=by rw[uU,uo,<- hk]
  rw[this,V9 _ (by lia)];have e:t / ((vv t b:Nat):Int)=k:=Q5 (by lia) hk;rw[e]
 ·rw[if_neg h,xT (by lia),Int.one_mul,fi h1 (by lia)]
theorem JU{t b:Int}(hb:b≠0):b.fdiv (dv t b)=((wB t b).den:Int):=by
 have hg:=CY (t:=t) hb;have h1:((vv t b:Nat):Int) ∣ b:=Qv ..;rw[Uh,if_neg hb,XO b t];unfold dv
 by_cases h:b<0
 ·rw[if_pos h,fi (um.mpr h1) (by lia),Int.ediv_neg,qa]
  obtain⟨k,hk⟩:=h1;have:(b.natAbs:Int)=((vv t b:Nat):Int)*(-k):=by rw[uo,<- hk];lia
  rw[this,V9 _ (by lia)];have e:b / ((vv t b:Nat):Int)=k:=Q5 (by lia) hk;rw[e]
 ·rw[if_neg h,fi h1 (by lia),qa]
  have:(b.natAbs:Int)=b:=by lia
  rw[this]
def gk(p q:Int):Bool:=decide (1<=q)&&decide (vv p q=1)
theorem Nt(r:Rat):gk r.num r.den=true:=by
 have h:=r.reduced;have hd:=r.den_pos;simp only[gk,w8,decide_eq_true_eq];refine⟨by lia,?_⟩;have:Nat.gcd r.num.natAbs r.den=1:=h
 simpa [vv] using this
theorem zpe{p q:Int}(h:gk p q=true):∃r:Rat,p=r.num/\q=(r.den:Int):=by
 simp only[gk,w8,decide_eq_true_eq]at h;obtain⟨h1,h2⟩:=h;refine⟨⟨p,q.toNat,by lia,?_⟩,rfl,by show q=((q.toNat:Nat):Int);lia⟩;have e:q.toNat=q.natAbs:=by lia
 rw[e];exact h2
theorem J0{a b:Int}(hb:0<b)(ha:0<=a):vv b (a % b)=vv a b:=by
 rw[XO a b];have e:a=a % b+b*(a / b):=(Int.emod_add_mul_ediv a b).symm
 conv=>rhs;rw[e]
 rw[Int.gcd_add_mul_left_right]
structure Bd(n:Nat)(x:Int):Prop where
 lt:x.natAbs<2^n
theorem Bd.mono{m n:Nat}{x:Int}(h:Bd m x)(e:m<=n):Bd n x:=⟨wU h.lt (Xn (by decide) e)⟩
theorem Bd.mul{m n:Nat}{x y:Int}(h:Bd m x)(k:Bd n y):Bd (m+n) (x*y):=by
 refine⟨?_⟩;rw[Xa,Q2];exact Nat.mul_lt_mul'' h.lt k.lt
theorem Bd.add{m n:Nat}{x y:Int}(h:Bd m x)(k:Bd n y):Bd (max m n+1) (x+y):=by
 have h1:=(h.mono (uV m n)).lt;have h2:=(k.mono (uD m n)).lt;refine⟨?_⟩;rw[W5]
 lia
theorem Bd.sub{m n:Nat}{x y:Int}(h:Bd m x)(k:Bd n y):Bd (max m n+1) (x-y):=by
 have h1:=(h.mono (uV m n)).lt;have h2:=(k.mono (uD m n)).lt;refine⟨?_⟩;rw[W5]
 lia
theorem Bd.neg{n:Nat}{x:Int}(h:Bd n x):Bd n (-x):=⟨by rw[Int.natAbs_neg];exact h.lt⟩
theorem Bd.le{n:Nat}{x y:Int}(h:Bd n x)(e:y.natAbs<=x.natAbs):Bd n y:=⟨Vi e h.lt⟩
theorem Bd.log{n:Nat}{x:Int}(h:Bd n x)(hn:0<n):x.natAbs.log2<n:=by
 by_cases e:x.natAbs=0
 ·rw[e];exact hn
 ·exact(Nat.log2_lt e).mpr h.lt
theorem zBN(t b:Int)(hb:b≠0):(wB t b).num.natAbs<=t.natAbs:=by
 rw[<- EO hb]
 have h1:dv t b ∣ t:=by
  have:((vv t b:Nat):Int) ∣ t:=qL ..;unfold dv;split
  ·exact um.mpr this
  ·exact this
 rw[fi h1 (E_ hb)];exact xu t _
theorem Eb(t b:Int)(hb:b≠0):(wB t b).den<=b.natAbs:=by
 rw[Uh,if_neg hb];exact Nat.div_le_self _ _
structure ag(n:Nat)(x:Rat):Prop where
 t:Bd n x.num
 b:Bd n (x.den:Int)
theorem ag.mono{m n:Nat}{x:Rat}(h:ag m x)(e:m<=n):ag n x:=⟨h.t.mono e,h.b.mono e⟩
theorem ag.divInt{n:Nat}{t b:Int}(hb:b≠0)(h1:Bd n t)(h2:Bd n b):ag n (wB t b) :=
 ⟨h1.le (zBN t b hb),h2.le (by have:=Eb t b hb;simpa using this)⟩
theorem Bd.mf{m:Int}(h1 : -100000000000000000000000000000000000000<=m)(h2:m<=100000000000000000000000000000000000000):Bd 128 m:=⟨by
 have e:(2:Nat)^128=340282366920938463463374607431768211456:=by decide
 rw[e]
 lia⟩
theorem fU(x:Rat):(x.den:Int)≠0:=by have:=x.den_pos;lia
theorem den_pos(x:Rat):(0:Int)<(x.den:Int):=by have:=x.den_pos;lia
theorem oW(x y:Rat):(x.den:Int)*(y.den:Int)≠0:=xN (fU x) (fU y)
theorem LJ(x y:Rat):wB (x.num*(y.den:Int)+y.num*(x.den:Int)) ((x.den:Int)*(y.den:Int))=x+y:=by
 rw[<- VN,xB,Rat.add_def']
theorem OU(x y:Rat):wB (x.num*(y.den:Int)-y.num*(x.den:Int)) ((x.den:Int)*(y.den:Int))=x-y:=by
 rw[<- VN,xB,Rat.sub_def']
theorem Mm(x y:Rat):wB (x.num*y.num) ((x.den:Int)*(y.den:Int))=x*y:=by
 rw[<- VN,xB,Rat.mul_def']
theorem M9(x y:Rat):decide (x.num*(y.den:Int)<y.num*(x.den:Int))=decide (x<y):=by
 rw[vI,decide_eq_true_eq,decide_eq_true_eq,Rat.lt_iff]
theorem BA{y:Rat}(h:y≠0):y.num≠0:=λe=>h (Rat.num_eq_zero.mp e)
theorem ag.add{m n:Nat}{x y:Rat}(h:ag m x)(k:ag n y):ag (m+n+1) (x+y):=by
 rw[<- LJ];refine ag.divInt (oW x y) ?_ ((h.b.mul k.b).mono (by lia));exact((h.t.mul k.b).add (k.t.mul h.b)).mono (by lia)
theorem ag.sub{m n:Nat}{x y:Rat}(h:ag m x)(k:ag n y):ag (m+n+1) (x-y):=by
 rw[<- OU];refine ag.divInt (oW x y) ?_ ((h.b.mul k.b).mono (by lia));exact((h.t.mul k.b).sub (k.t.mul h.b)).mono (by lia)
theorem ag.mul{m n:Nat}{x y:Rat}(h:ag m x)(k:ag n y):ag (m+n) (x*y):=by
 rw[<- Mm];exact ag.divInt (oW x y) (h.t.mul k.t) (h.b.mul k.b)
theorem ag.zero:ag 1 0:=⟨⟨by decide⟩,⟨by decide⟩⟩
theorem ag.one:ag 1 1:=⟨⟨by decide⟩,⟨by decide⟩⟩
def aB(a b:Rat):Nat->Rat
 | 0=>0
 | n+1=>a*aB a b n+b
def push(a b:Rat):Nat->Rat->Rat
 | 0,x=>x
 | n+1,x=>a*push a b n x+b
theorem iC(a b:Rat)(n:Nat)(x:Rat):push a b n x=a^n*x+aB a b n:=by
 induction n with
 | zero=>simp[push,aB,Rat.add_zero,VH]
 | succ n ih=>rw[push,ih,aB,WO];grind
theorem zx4(a b:Rat)(m n:Nat)(x:Rat):push a b (m+n) x=push a b n (push a b m x):=by
 induction n with
 | zero=>rfl
 | succ n ih=>rw[<- Vt,push,push,ih]
theorem ag.pow{k:Nat}{a:Rat}(h:ag k a)(n:Nat):ag (k*n+1) (a^n):=by
 induction n with
 | zero=>rw[VH];exact ag.one.mono (by lia)
 | succ n ih=>rw[WO];exact(ih.mul h).mono (by rw[Qi];lia)
theorem ag.aB{k:Nat}{a b:Rat}(h:ag k a)(hb:ag k b)(n:Nat):ag ((2*k+1)*n+1) (aB a b n):=by
 induction n with
 | zero=>exact ag.zero.mono (by lia)
 | succ n ih=>exact((h.mul ih).add hb).mono (by rw[Qi];lia)
theorem cy(t:Int){u:Int}(hu:u≠0):(wB t u)*(u:Rat)=(t:Rat):=by
 rw[Rat.divInt_eq_div];exact WL λz=>hu (Vv.mp z)
theorem kK(x:Rat):x*((x.den:Int):Rat)=(x.num:Rat):=by
 have:=cy x.num (fU x)
 rwa[Q6]at this
theorem fL{t u:Int}{x:Rat}(hu:u≠0)(h:x*(u:Rat)=(t:Rat)):wB t u=x:=by
 have h1:=cy t hu;have h2:(wB t u-x)*(u:Rat)=0:=by grind
 have h3:(u:Rat)≠0:=by
  intro z;exact hu (Vv.mp z)
 have:=Qb.mp h2
 grind
theorem J3(a b:Rat)(t u:Int)(hu:u≠0):wB (a.num*b.den*t+b.num*a.den*u) (u*a.den*b.den)=a*wB t u+b:=by
 refine fL (xN (xN hu (fU a)) (fU b)) ?_;have h1:=cy t hu;have h2:=kK a;have h3:=kK b;simp only[Wq,QI]
 grind
theorem Je(a b:Rat)(n:Nat)(x y:Rat):push a b n y-push a b n x=a^n*(y-x):=by
 rw[iC,iC];grind
theorem lO{a:Rat}(h:0<a)(n:Nat):0<a^n:=Rat.pow_pos h
theorem ztl{a:Rat}(h:1<a)(n:Nat):1<a^(n+1):=by
 induction n with
 | zero=>simpa using h
 | succ n ih =>
  rw[WO];have:=Vq (show 0<a^(n+1)-1 by grind) (show 0<a-1 by grind)
  grind
theorem Oi{a:Rat}(h0:0<a)(h:a<1)(n:Nat):a^(n+1)<1:=by
 induction n with
 | zero=>simpa using h
 | succ n ih =>
  rw[WO];have:=Vq (show 0<1-a^(n+1) by grind) h0
  grind
theorem one_pow'(n:Nat):(1:Rat)^n=1:=by
 induction n with
 | zero=>rfl
 | succ n ih=>rw[WO,ih,ur]
theorem tm{u:Int}(h:0<u):(0:Rat)<(u:Rat):=uW.mpr h
theorem zrQ{t u:Int}(hu:0<u)(ht:0<t):0<wB t u:=by
 have e:=cy t (show u≠0 by lia);have:=tm ht;rw[<- e]at this;exact(Rat.mul_pos_iff_of_pos_right (tm hu)).mp this
theorem RO{t u c:Int}(hu:0<u)(h:t<=c*u):wB t u<=(c:Rat):=by
 have e:=cy t (show u≠0 by lia);refine Rat.le_of_mul_le_mul_right (c:=(u:Rat)) ?_ (tm hu);rw[e,<- Wq];exact W6.mpr h
theorem zsL{t u c:Int}(hu:0<u)(h:t<c*u):wB t u<(c:Rat):=by
 have e:=cy t (show u≠0 by lia);refine Rat.lt_of_mul_lt_mul_right (c:=(u:Rat)) ?_ (vX (tm hu));rw[e,<- Wq];exact Rat.intCast_lt_intCast.mpr h
theorem L6{t u:Int}(hu:0<u):((wB t u).den:Int)<=u:=by
 have:=Eb t u (by lia)
 lia
theorem zuW{x:Rat}{c:Int}(h:x<=(c:Rat)):x.num<=c*x.den:=by
 have:=(xv x c).mp h
 simpa using this
theorem zBE{x:Rat}(h:0<=x):0<=x.num:=Qs.mpr h
theorem ag.small{x:Rat}{c d:Nat}(h0:0<=x)(hc:x<=((c:Int):Rat))(hd:x.den<=d)(z:c*d<1024)(hd2:d<1024):ag 10 x:=by
 have h1:=zuW hc;have h2:=zBE h0;have h3:(c:Int)*(x.den:Int)<=(c:Int)*(d:Int):=QR (by lia) (by lia);have h4:(c:Int)*(d:Int)<1024:=by rw[<- VN];lia
 refine⟨⟨?_⟩,⟨?_⟩⟩
 ·show _<1024
  lia
 ·show _<1024
  lia
theorem zCH{x:Rat}{z u:Int}(e:x=wB z u)(h1:1<=u)(h2:u<=8)(h3:1<=z)(h4:z<=4*u):0<x/\x<=4/\x.den<=8:=by
 subst e;refine⟨zrQ (by lia) (by lia),RO (c:=4) (by lia) h4,?_⟩;have:=L6 (t:=z) (show 0<u by lia)
 lia
theorem zCg{y:Rat}{r u:Int}(e:y=wB r u)(h1:1<=u)(h2:u<=12)(h3:0<=r)(h4:r<=u):0<=y/\y<=1/\y.den<=12:=by
 subst e;refine⟨XZ h3 (by lia),RO (c:=1) (by lia) (by lia),?_⟩;have:=L6 (t:=r) (show 0<u by lia)
 lia
theorem ag.four:ag 3 4:=⟨⟨by decide +kernel⟩,⟨by decide +kernel⟩⟩
theorem OW{f:Rat->Rat}{xs:List Rat}{i:Nat}(h:i<xs.length):(xs.map f).getD i 0=f (xs.getD i 0):=by
 rw[wa,wa,wu,wc h]
 rfl
theorem YM{a b:Rat}(ha:0<a)(n:Nat)(x y:Rat):push a b n x<push a b n y ↔ x<y:=by
 have e:=Je a b n x y;have p:=lO ha n
 constructor
 ·intro h
  have:0<a^n*(y-x):=by rw[<- e];grind
  have h2:=(Rat.mul_pos_iff_of_pos_left p).mp this
  grind
 ·intro h
  have:0<a^n*(y-x):=Vq p (by grind)
  grind
def dE(a b:Rat)(n:Nat)(xs:List Rat)(i:Nat):List Rat:=(xs.map λx=>push a b n (x+(1-xs.getD i 0))).set i 0
def aQ(a b:Rat)(ns:List Int)(xs:List Rat):Nat->List Rat
 | 0=>xs
 | k+1=>dE a b (ns.getD k 0).toNat (aQ a b ns xs k) k
theorem ic(a b:Rat)(n:Nat)(xs:List Rat)(i:Nat):(dE a b n xs i).length=xs.length:=by simp[dE]
theorem cH(a b:Rat)(ns:List Int)(xs:List Rat):∀k,(aQ a b ns xs k).length=xs.length
 | 0=>rfl
 | k+1=>by rw[aQ,ic,cH a b ns xs k]
theorem gv(a b:Rat)(n:Nat)(xs:List Rat)(i j:Nat)(hj:j<xs.length):(dE a b n xs i).getD j 0=if j=i then 0 else push a b n (xs.getD j 0+(1-xs.getD i 0)):=by
 unfold dE;rw[wa,VT]
 by_cases h:i=j
 ·subst h
  simp[hj]
 ·rw[if_neg h,if_neg (Wp h),wu,wc hj]
  simp[wa,hj]
def Cm(m:Nat)(xs:List Rat):Prop:=∃B:Int,0<B/\Bd m B /\ ∀x∈xs,∃t:Int,x=wB t B/\Bd m t
theorem Cm.mono{m n:Nat}{xs:List Rat}(h:Cm m xs)(e:m<=n):Cm n xs:=by
 obtain⟨B,h0,h1,h2⟩:=h;exact⟨B,h0,h1.mono e,λx hx=>let ⟨t,e1,e2⟩:=h2 x hx;⟨t,e1,e2.mono e⟩⟩
theorem Cm.fO{m:Nat}{xs:List Rat}{x:Rat}(h:Cm m xs)(hx:x∈xs):ag m x:=by
 obtain⟨B,h0,h1,h2⟩:=h;obtain⟨t,rfl,ht⟩:=h2 x hx;exact ag.divInt (by lia) ht h1
theorem Cm.pos{m:Nat}{xs:List Rat}(h:Cm m xs):1<=m:=by
 obtain⟨B,h0,h1,_⟩:=h;cases m with
 | zero=>have:=h1.lt;simp at this;lia
 | succ m=>lia
theorem Cm.get{m:Nat}{xs:List Rat}(h:Cm m xs)(i:Nat):ag m (xs.getD i 0):=by
 rcases wz i xs.length with z | z
 ·rw[wa,wc z]
  exact h.fO (vO z)
 ·rw[wa,wE z]
  exact ag.zero.mono h.pos
theorem pF{a b:Rat}(ba:ag 10 a)(bb:ag 10 b){m:Nat}{t u:Int}(hu:0<u)(bt:Bd m t)(bu:Bd m u):∀n:Nat,0<u*((a.den:Int)*(b.den:Int))^n/\Bd (m+21*n) (u*((a.den:Int)*(b.den:Int))^n) /\
  ∃T:Int,push a b n (wB t u)=wB T (u*((a.den:Int)*(b.den:Int))^n)/\Bd (m+21*n) T
 | 0=>⟨by simpa using hu,by simpa using bu,t,by simp[push],by simpa using bt⟩
 | n+1=>by
  obtain⟨h1,h2,T,e,hT⟩:=pF ba bb hu bt bu n;have eb:u*((a.den:Int)*(b.den:Int))^(n+1)=u*((a.den:Int)*(b.den:Int))^n*(a.den:Int)*(b.den:Int):=by rw[QJ,<- qi,qi (u*_)]
  rw[eb];refine⟨Wd (Wd h1 (den_pos a)) (den_pos b),((h2.mul ba.b).mul bb.b).mono (by lia),a.num*(b.den:Int)*T+b.num*(a.den:Int)*(u*((a.den:Int)*(b.den:Int))^n),?_,(((ba.t.mul bb.b).mul hT).add ((bb.t.mul ba.b).mul h2)).mono (by lia)⟩;rw[push,e];exact(J3 a b T _ (by lia)).symm
theorem Cm.mi{m:Nat}{xs:List Rat}{a b:Rat}(h:Cm m xs)(ba:ag 10 a)(bb:ag 10 b)(n i:Nat):Cm (m+2+21*n) (dE a b n xs i):=by
 obtain⟨B,h0,h1,h2⟩:=h
 have hz:∃z:Int,xs.getD i 0=wB z B/\Bd m z:=by
  rcases wz i xs.length with q | q
  ·rw[wa,wc q]
   exact h2 _ (vO q)
  ·rw[wa,wE q]
   exact⟨0,by simp,⟨by simp;exact Wr m⟩⟩
 obtain⟨z,ez,hz⟩:=hz;have key:=λ(t:Int)(ht:Bd m t)=>pF ba bb h0 (show Bd (m+2) (t+B-z)from((ht.add h1).sub hz).mono (by lia)) (h1.mono (by lia)) n
 obtain⟨p1,p2,_⟩:=key 0 ⟨by simp;exact Wr m⟩;refine⟨_,p1,p2,λx hx=>?_⟩
 have hx':x=0 \/ ∃y∈xs,x=push a b n (y+(1-xs.getD i 0)):=by
  unfold dE at hx;rcases xw hx with q | q
  ·obtain⟨y,hy,rfl⟩:=wS.mp q
   exact .inr ⟨y,hy,rfl⟩
  ·exact .inl q
 rcases hx' with rfl | ⟨y,hy,rfl⟩
 ·exact⟨0,by simp,⟨by simp;exact Wr _⟩⟩
 ·obtain⟨t,rfl,ht⟩:=h2 y hy
  obtain⟨_,_,T,e,hT⟩:=key t ht
  have e2:wB t B+(1-xs.getD i 0)=wB (t+B-z) B:=by
   rw[ez]
   symm
   refine fL (by lia) ?_;have q1:=cy t (show B≠0 by lia);have q2:=cy z (show B≠0 by lia);have q3:((t+B-z:Int):Rat)=(t:Rat)+(B:Rat)-(z:Rat):=by push_cast;rfl
   rw[q3,<- q1,<- q2]
   grind
  rw[e2];exact⟨T,e,hT⟩
theorem Cm.snoc{m:Nat}{xs:List Rat}(h:Cm m xs):Cm m (xs++[0]):=by
 obtain⟨B,h0,h1,h2⟩:=h;refine⟨B,h0,h1,λx hx=>?_⟩;rcases We.mp hx with q | q
 ·exact h2 x q
 ·rw[w5.mp q]
  exact⟨0,by simp,⟨by simp;exact Wr m⟩⟩
def upTo(ns:List Int)(k:Nat):Nat:=((ns.take k).map xO).sum
theorem mD{ns:List Int}{k:Nat}(h:k<ns.length):upTo ns (k+1)=upTo ns k+(ns.getD k 0).toNat:=by
 unfold upTo;rw[qx,wc h,wa,wc h,vx,List.sum_append]
 show _+([ns[k].toNat]:List Nat).sum=_
 rw[List.sum_singleton]
 rfl
theorem Cm.rows{m:Nat}{xs:List Rat}{a b:Rat}{ns:List Int}(h:Cm m xs)(ba:ag 10 a)(bb:ag 10 b):∀k,k<=ns.length->Cm (m+2*k+21*upTo ns k) (aQ a b ns xs k)
 | 0,_=>h.mono (by lia)
 | k+1,hk=>by
  have:=(Cm.rows h ba bb (ns:=ns) k (by lia)).mi ba bb (ns.getD k 0).toNat k;rw[aQ];refine this.mono ?_;rw[mD (by lia)]
  lia
theorem Ma(a:Rat)(m:Nat):∀n:Nat,a^(m+n)=a^m*a^n
 | 0=>by rw[XQ,VH,Rat.mul_one]
 | n+1=>by rw[<- Vt,WO,Ma a m n,WO,Us]
theorem zuN(a b:Rat)(n:Nat)(xs ys:List Rat)(i j:Nat)(hx:xs.length=ys.length)(hj:j<xs.length) :
  (dE a b n xs i).getD j 0-(dE a b n ys i).getD j 0=a^n*((xs.getD j 0-ys.getD j 0)-(xs.getD i 0-ys.getD i 0)):=by
 rw[gv a b n xs i j hj,gv a b n ys i j (by lia)]
 by_cases h:j=i
 ·subst h
  rw[if_pos rfl,if_pos rfl]
  grind
 ·rw[if_neg h,if_neg h,Je]
  grind
theorem A9(a b:Rat)(ns:List Int)(xs ys:List Rat)(hx:xs.length=ys.length)(hn:ns.length=xs.length)(l:Nat)(hl:l+1=xs.length)(h0:xs.getD l 0=ys.getD l 0) :
  ∀k,k<=ns.length->∀j,j<xs.length->(aQ a b ns xs k).getD j 0-(aQ a b ns ys k).getD j 0=a^upTo ns k*((xs.getD j 0-ys.getD j 0)-(if k=0 then 0 else xs.getD (k-1) 0-ys.getD (k-1) 0))
 | 0,_,j,hj=>by simp[aQ,upTo];grind
 | k+1,hk,j,hj=>by
  rw[aQ,aQ,zuN _ _ _ _ _ _ _ (by rw[cH,cH,hx]) (by rw[cH];exact hj),A9 a b ns xs ys hx hn l hl h0 k (by lia) j hj,A9 a b ns xs ys hx hn l hl h0 k (by lia) k (by lia),mD (by lia),Ma];simp only[Qj];rw[if_neg (show ¬ k+1=0 by lia)]
  grind
def lH(a b:Rat)(n:Nat)(xs:List Rat):List Rat:=(xs.tail.map λy=>push a b n (y+(1-xs.headD 0)))++[0]
def turned(a b:Rat)(ns:List Int)(xs:List Rat):Nat->List Rat
 | 0=>xs
 | k+1=>lH a b (ns.getD k 0).toNat (turned a b ns xs k)
theorem mJ(a b:Rat)(ns:List Int)(xs:List Rat):∀k,k<=xs.length->turned a b ns xs k=(aQ a b ns xs k).drop k++(aQ a b ns xs k).take k
 | 0,_=>by simp[turned,aQ]
 | k+1,hk=>by
  have hl:(aQ a b ns xs k).length=xs.length:=cH a b ns xs k;have hk':k<(aQ a b ns xs k).length:=by lia
  rw[turned,mJ a b ns xs k (by lia),aQ];generalize aQ a b ns xs k=r at *;generalize (ns.getD k 0).toNat=n;have e1:r.drop k=r[k]::r.drop (k+1):=Qc hk';have e2:r.getD k 0=r[k]:=by rw[wa,wc hk'];rfl
  unfold lH dE;rw[e1,e2,xC,Ui,List.headD_cons,List.drop_set_of_lt (by lia),vx,Xw,qy]
  congr 1
  have hm:k<(r.map λx=>push a b n (x+(1-r[k]))).length:=by rw[wm];exact hk'
  rw[Ut];generalize (r.map λx=>push a b n (x+(1-r[k])))=s at hm ⊢;rw[List.take_set,qx,wc hm]
  show _=(s.take k++[s[k]]).set k 0
  have hlk:(s.take k).length=k:=by rw[Ws];lia
  rw[List.set_append_right _ _ (by lia),hlk,Vr]
  rfl
theorem RT(a b:Rat)(ns:List Int)(xs:List Rat)(h:ns.length=xs.length):turned a b ns xs ns.length=aQ a b ns xs ns.length:=by
 rw[mJ a b ns xs _ (by lia)];have hl:(aQ a b ns xs ns.length).length=xs.length:=cH a b ns xs _;rw[xU (by lia),W7 (by lia),QK]
def jK(xs:List Rat):Nat->Int
 | 0=>1
 | k+1=>jK xs k*((xs.getD k 0).den:Int)
theorem Ei(xs:List Rat):∀k,0<jK xs k
 | 0=>by show(0:Int)<1;decide
 | k+1=>Wd (Ei xs k) (den_pos _)
theorem C4(xs:List Rat):∀k j,j<k->((xs.getD j 0).den:Int) ∣ jK xs k
 | 0,j,h=>by lia
 | k+1,j,h=>by
  rcases wz j k with z | z
  ·exact qR (C4 xs k j z) (VU ..)
  ·have:j=k:=by lia
   subst this;exact uE ..
theorem DV{xs:List Rat}{m:Nat}(h:∀i,ag m (xs.getD i 0)):∀k,Bd (m*k+1) (jK xs k)
 | 0=>⟨by show(1:Int).natAbs<_;simp⟩
 | k+1=>by
  rw[jK];refine((DV h k).mul (h k).b).mono ?_;rw[xV];lia
theorem M7{x:Rat}{B:Int}(hB:0<B)(h:(x.den:Int) ∣ B):wB (x.num*B.fdiv x.den) B=x:=by
 obtain⟨c,rfl⟩:=h;rw[fi (VU ..) (fU x),V9 _ (fU x)];refine fL (by lia) ?_;have:=kK x;rw[Wq,Wq,<- this]
 grind
theorem BK{B d:Int}{m:Nat}(hd:0<d)(hB:0<B)(h:Bd m B):Bd m (B.fdiv d):=by
 refine h.le ?_;rw[Int.fdiv_eq_ediv_of_nonneg _ (by lia)];have h1:0<=B / d:=Int.ediv_nonneg (by lia) (by lia);have h2:B / d<=B:=Int.ediv_le_self _ (by lia)
 lia
def dN(B:Int)(ts:List Int):List Rat:=ts.map λt=>wB t B
theorem zsM{B x:Int}{ts:List Int}(hB:0<B):dN B (ts.map λt=>t+(B-x))=(dN B ts).map λy=>y+(1-wB x B):=by
 unfold dN;rw[WH,WH];refine qf λt _=>?_
 show wB (t+(B-x)) B=wB t B+(1-wB x B)
 refine fL (by lia) ?_;have q1:=cy t (show B≠0 by lia);have q2:=cy x (show B≠0 by lia);have q3:((t+(B-x):Int):Rat)=(t:Rat)+((B:Rat)-(x:Rat)):=by push_cast;rfl
 rw[q3,<- q1,<- q2]
 grind
theorem zsk{a b:Rat}{B:Int}{ts:List Int}(hB:0<B):dN (B*a.den*b.den) (ts.map λt=>a.num*b.den*t+b.num*a.den*B)=(dN B ts).map λy=>a*y+b:=by
 unfold dN;rw[WH,WH];refine qf λt _=>?_
 exact J3 a b t B (by lia)
theorem PZ{B:Int}(ts:List Int):dN B (ts++[0])=dN B ts++[0]:=by
 unfold dN;rw[vx];simp
theorem yi(a b:Rat)(ns:List Int)(xs:List Rat){k:Nat}(hk:k<xs.length):(turned a b ns xs k).headD 0=(aQ a b ns xs k).getD k 0:=by
 have hl:=cH a b ns xs k;rw[mJ a b ns xs k (by lia),Qc (by lia),wa,wc (by lia)]
 rfl
theorem yx(a b:Rat)(ns:List Int)(xs:List Rat)(hx:0<xs.length):∀k,(turned a b ns xs k).length=xs.length
 | 0=>rfl
 | k+1=>by
  have:=yx a b ns xs hx k;rw[turned,lH,wZ,wm,uF,this];simp;lia
theorem O7(x y:Rat):((x*y).num=x.num / (x.num.natAbs.gcd y.den:Nat)*(y.num / (y.num.natAbs.gcd x.den:Nat)))/\((x*y).den=x.den / (y.num.natAbs.gcd x.den)*(y.den / (x.num.natAbs.gcd y.den))):=by
 show(Rat.mul x y).num=_/\(Rat.mul x y).den=_
 unfold Rat.mul;simp only[Int.divExact_eq_ediv,Nat.divExact_eq_div]
 constructor<;>trivial
theorem JJ(x y:Rat):((x+y).num=(x.num*((y.den / x.den.gcd y.den:Nat):Int)+y.num*((x.den / x.den.gcd y.den:Nat):Int)) / (((x.num*((y.den / x.den.gcd y.den:Nat):Int)+y.num*((x.den / x.den.gcd y.den:Nat):Int)).natAbs.gcd (x.den.gcd y.den):Nat):Int))/\((x+y).den=x.den / (x.den.gcd y.den)*(y.den / ((x.num*((y.den / x.den.gcd y.den:Nat):Int)+y.num*((x.den / x.den.gcd y.den:Nat):Int)).natAbs.gcd (x.den.gcd y.den)))):=by
 show(Rat.add x y).num=_/\(Rat.add x y).den=_
 unfold Rat.add
 by_cases hg:x.den.gcd y.den=1
 ·simp[hg]
 ·simp only[hg,dite_false,Rat.maybeNormalize_eq]
  refine⟨by simp,?_⟩;simp;have:(x.num*((y.den / x.den.gcd y.den:Nat):Int)+y.num*((x.den / x.den.gcd y.den:Nat):Int)).natAbs.gcd (x.den.gcd y.den) ∣ y.den:=Nat.dvd_trans (X1 _ _) (X1 _ _);simp at this;rw[Nat.mul_div_assoc _ this]
def eX(x y:Rat):Int:=((vv (x.den:Int) (y.den:Int):Nat):Int)
def kn(x y:Rat):Int:=x.num*(y.den:Int).fdiv (eX x y)+y.num*(x.den:Int).fdiv (eX x y)
def jx(x y:Rat):Int:=((vv (kn x y) (eX x y):Nat):Int)
theorem yk(x y:Rat):0<eX x y:=by
 have:0<vv (x.den:Int) (y.den:Int):=Int.gcd_pos_of_ne_zero_left _ (by have:=x.den_pos;lia);unfold eX;lia
theorem EA(x y:Rat):0<jx x y:=by
 have:0<vv (kn x y) (eX x y):=qD _ (by have:=yk x y;lia);unfold jx;lia
theorem Cj(x y:Rat):eX x y=((x.den.gcd y.den:Nat):Int):=by simp[eX,vv]
theorem pW(x y:Rat):eX x y ∣ (x.den:Int):=qL ..
theorem sy(x y:Rat):eX x y ∣ (y.den:Int):=Qv ..
theorem zAJ(x y:Rat):jx x y ∣ kn x y:=qL ..
theorem DH(x y:Rat):jx x y ∣ eX x y:=Qv ..
theorem IX(x y:Rat):kn x y=x.num*((y.den / x.den.gcd y.den:Nat):Int)+y.num*((x.den / x.den.gcd y.den:Nat):Int):=by
 have h:=yk x y;rw[kn,fi (sy x y) (by lia),fi (pW x y) (by lia),Cj,qa,qa]
theorem Lz(x y:Rat):jx x y=(((x.num*((y.den / x.den.gcd y.den:Nat):Int)+y.num*((x.den / x.den.gcd y.den:Nat):Int)).natAbs.gcd (x.den.gcd y.den):Nat):Int):=by
 rw[jx,IX,Cj];simp[vv]
theorem Zv(x y:Rat):(kn x y).fdiv (jx x y)=(x+y).num:=by
 have h:=EA x y;rw[fi (zAJ x y) (by lia),(JJ x y).1,Lz,IX]
theorem zyn(x y:Rat):(x.den:Int).fdiv (eX x y)*(y.den:Int).fdiv (jx x y)=((x+y).den:Int):=by
 have h:=EA x y;have h2:=yk x y;rw[fi (qR (DH x y) (sy x y)) (by lia),fi (pW x y) (by lia),(JJ x y).2,Lz,Cj];simp only[VN,qa]
def fV(x y:Rat):Int:=((vv x.num (y.den:Int):Nat):Int)
theorem nq(x y:Rat):0<fV x y:=by
 have:0<vv x.num (y.den:Int):=qD _ (by have:=y.den_pos;lia);unfold fV;lia
theorem yN(x y:Rat):fV x y ∣ x.num:=qL ..
theorem nP(x y:Rat):fV x y ∣ (y.den:Int):=Qv ..
theorem sr(x y:Rat):fV x y=((x.num.natAbs.gcd y.den:Nat):Int):=by simp[fV,vv]
theorem Z1(x y:Rat):x.num.fdiv (fV x y)*y.num.fdiv (fV y x)=(x*y).num:=by
 have h:=nq x y;have h2:=nq y x;rw[fi (yN x y) (by lia),fi (yN y x) (by lia),(O7 x y).1,sr,sr]
theorem Zr(x y:Rat):(x.den:Int).fdiv (fV y x)*(y.den:Int).fdiv (fV x y)=((x*y).den:Int):=by
 have h:=nq x y;have h2:=nq y x;rw[fi (nP x y) (by lia),fi (nP y x) (by lia),(O7 x y).2,sr,sr];simp only[VN,qa]
theorem k_{n:Nat}{a d:Int}(h:Bd n a)(hd:d ∣ a)(hp:0<d):Bd n (a.fdiv d):=by
 rw[fi hd (by lia)];exact h.le (xu a d)
theorem oJ{n:Nat}{a d:Int}(h:Bd n a)(hd:d ∣ a)(ha:0<a):Bd n d :=
 h.le (Uu (by lia) (Int.natAbs_dvd_natAbs.mpr hd))
theorem Cy(t b:Int):vv (if t<0 then -t else t) b=vv t b:=by split<;>simp
theorem YE{n:Nat}{y:Rat}(h:ag n y):ag n (-y):=⟨by simpa using h.t.neg,by simpa using h.b⟩
theorem ZY(x y:Rat):x + -y=x-y:=(Rat.sub_eq_add_neg x y).symm
theorem yX{y:Rat}(h:0<y.num):(y⁻¹).num=(y.den:Int)/\((y⁻¹).den:Int)=y.num:=by
 have:¬ y.num<0:=by lia
 constructor
 ·rw[Rat.num_inv,xT h,Int.one_mul]
 ·rw[Rat.den_inv];split<;>lia
theorem tf{y:Rat}(h:y.num<0):(y⁻¹).num = -(y.den:Int)/\((y⁻¹).den:Int) = -y.num:=by
 constructor
 ·rw[Rat.num_inv,xi h,uU]
 ·rw[Rat.den_inv];split<;>lia
theorem Jh{n:Nat}{y:Rat}(h:ag n y)(hy:y≠0):ag n y⁻¹:=by
 have:=BA hy
 by_cases p:0<y.num
 ·exact⟨by rw[(yX p).1];exact h.b,by rw[(yX p).2];exact h.t⟩
 ·have p:y.num<0:=by lia
  exact⟨by rw[(tf p).1];exact h.b.neg,by rw[(tf p).2];exact h.t.neg⟩
theorem cU{α : Type}{xs:List α}{d : α}{i:Nat}(h:i<xs.length):xs.getD i d∈xs:=by
 rw[wa,wc h];exact vO h
def j_(x:Rat):Bool:=(!decide (x<0))&&(decide (x<1)&&decide ((x.den:Int)<=60))
structure fk(x:Rat):Prop where
 nn:0<=x
 lt:x<1
 den:x.den<=60
theorem fk.is{x:Rat}(h:fk x):j_ x=true:=by
 have h1:=h.nn;have h2:=h.lt;have h3:=h.den;have h4:¬ x<0:=VD.mpr h1;have h5:(x.den:Int)<=60:=by lia
 simp[j_,h4,h2,h5]
theorem fk.fO{x:Rat}(h:fk x):ag 6 x:=by
 have h1:=h.nn;have h2:=h.lt;have h3:=h.den;have n0:0<=x.num:=Qs.mpr h1
 have n1:x.num<x.den:=by
   have:=Rat.lt_iff x 1 |>.mp h2
   simpa using this
 exact ⟨⟨by have : (2 : Nat) ^ 6 = 64 := by decide
            omega⟩, ⟨by have : (2 : Nat) ^ 6 = 64 := by decide
                        omega⟩⟩
def mx(m:Rat)(l:List Rat):Rat:=l.foldl (λm x=>if m<x then x else m) m
theorem Mu:∀(l:List Rat)(m:Rat),m<=mx m l /\ ∀y∈l,y<=mx m l
 | [],m=>⟨W1,λy h=>by cases h⟩
 | x::l,m=>by
  have h:=Mu l (if m<x then x else m);have e:mx m (x::l)=mx (if m<x then x else m) l:=rfl;rw[e]
  have h1:m<=(if m<x then x else m)/\x<=(if m<x then x else m):=by
   split
   ·rename_i z;exact⟨vX z,W1⟩
   ·rename_i z;exact⟨W1,VD.mp z⟩
  refine⟨xD h1.1 h.1,λy hy=>?_⟩;rcases wQ.mp hy with rfl | hy
  ·exact xD h1.2 h.1
  ·exact h.2 y hy
theorem BE:∀(l:List Rat)(m:Rat),mx m l=m\/mx m l∈l
 | [],m=>.inl rfl
 | x::l,m=>by
  have e:mx m (x::l)=mx (if m<x then x else m) l:=rfl;rw[e];rcases BE l (if m<x then x else m)with h | h
  ·rw[h]
   split
   ·exact .inr (wC ..)
   ·exact .inl rfl
  ·exact .inr (wy _ h)
theorem zH(m x:Rat)(l:List Rat):mx m (l++[x])=if mx m l<x then x else mx m l:=by
 unfold mx;rw[X2];rfl
def bX(xs:List Rat):Rat:=mx (xs.getD 0 0) xs
theorem O2{xs:List Rat} : ∀y∈xs,y<=bX xs:=(Mu xs _).2
theorem gO{xs:List Rat}(h:1<=xs.length):bX xs∈xs:=by
 rcases BE xs (xs.getD 0 0)with e | e
 ·unfold bX
  rw[e,wa,wc (by lia)];exact vO _
 ·exact e
theorem nW{xs:List Rat}{i:Nat}(h:i<xs.length):xs.take (i+1)=xs.take i++[xs.getD i 0]:=by
 rw[qx,wa,wc h];rfl
theorem PD{n:Nat}{xs:List Rat}(b:∀i,ag n (xs.getD i 0))(h1:1<=xs.length)(i:Nat):ag n (mx (xs.getD 0 0) (xs.take i)):=by
 rcases BE (xs.take i) (xs.getD 0 0)with e | e
 ·rw[e];exact b 0
 ·have e:=uG _ _ e
  obtain⟨j,hj,ej⟩:=wX e;rw[<- ej];have:=b j;rw[wa,wc hj]at this;exact this
theorem Eu{r u:Int}(h0:0<=r)(h1:r<u)(h2:u<=60):fk (wB r u):=by
 refine⟨XZ h0 (by lia),zsL (c:=1) (by lia) (by lia),?_⟩;have:=Eb r u (by lia)
 lia
def aC(ps:List Rat)(left:List Nat):List Nat:=left.filter λw=>!decide (ps.getD w 0<1)
def bQ(left wave:List Nat):List Nat:=left.filter λw=>!decide (w∈wave)
def cA(f g:Rat)(ps:List Rat)(l:List Nat):List Rat:=l.foldl (λps w=>ps.set w (f*ps.getD w 0+g)) ps
def cv(a b:Rat):Nat->List Rat->List Nat->List (List Nat) × (List Nat × List Rat)
 | 0,ps,left=>([],left,ps)
 | n+1,ps,left=>match aC ps left with
  | []=>([],left,ps)
  | w::ws=>((w::ws)::(cv a b n (cA (a^(w::ws).length) (aB a b (w::ws).length) ps (bQ left (w::ws))) (bQ left (w::ws))).1,(cv a b n (cA (a^(w::ws).length) (aB a b (w::ws).length) ps (bQ left (w::ws))) (bQ left (w::ws))).2)
def jC(left:List Nat)(ps:List Rat):List Rat:=(wx ps.length).map λi=>if i∈left then ps.getD i 0 else 0
def bE(xs:List Rat):List Rat:=xs.map (· + (1-bX xs))
def d_(a b:Rat)(xs:List Rat):List (List Nat) × (List Nat × List Rat):=cv a b xs.length (bE xs) (wx xs.length)
def cf(a b:Rat)(xs:List Rat):List (List Nat):=(d_ a b xs).1
def cV(a b:Rat)(xs:List Rat):List Rat:=jC (d_ a b xs).2.1 (d_ a b xs).2.2
theorem mX{a b:Rat}{n:Nat}{ps:List Rat}{left:List Nat}(h:aC ps left=[]):cv a b n ps left=([],left,ps):=by
 cases n with
 | zero=>rfl
 | succ n=>rw[cv,h]
theorem jg{a b:Rat}{n:Nat}{ps:List Rat}{left:List Nat}(h:aC ps left≠[]):cv a b (n+1) ps left=(aC ps left::(cv a b n (cA (a^(aC ps left).length) (aB a b (aC ps left).length) ps (bQ left (aC ps left))) (bQ left (aC ps left))).1,(cv a b n (cA (a^(aC ps left).length) (aB a b (aC ps left).length) ps (bQ left (aC ps left))) (bQ left (aC ps left))).2):=by
 rw[cv];cases e:aC ps left with
 | nil=>exact absurd e h
 | cons w ws=>rfl
theorem zrm(f g:Rat)(ps:List Rat)(l:List Nat)(w:Nat):cA f g ps (l++[w])=(cA f g ps l).set w (f*(cA f g ps l).getD w 0+g):=by
 unfold cA;rw[X2];rfl
theorem iA(f g:Rat):∀(l:List Nat)(ps:List Rat),(cA f g ps l).length=ps.length
 | [],ps=>rfl
 | w::l,ps=>by
  show(cA f g (ps.set w _) l).length=_
  rw[iA f g l,VM]
theorem Rq{ps:List Rat}{w j:Nat}{y:Rat}(h:w≠j):(ps.set w y).getD j 0=ps.getD j 0:=by
 rw[wa,VT,if_neg h,wa]
theorem Ru{ps:List Rat}{w:Nat}{y:Rat}(h:w<ps.length):(ps.set w y).getD w 0=y:=by
 rw[wa,VT,if_pos rfl,if_pos h];rfl
theorem jh(f g:Rat):∀(l:List Nat)(ps:List Rat),l.Nodup->(∀w∈l,w<ps.length)->∀j,(cA f g ps l).getD j 0=if j∈l then f*ps.getD j 0+g else ps.getD j 0
 | [],ps,_,_,j=>by simp[cA]
 | w::l,ps,nd,hl,j=>by
  have nd':=W3.mp nd
  show(cA f g (ps.set w _) l).getD j 0=_
  rw[jh f g l _ nd'.2 (λv hv=>by rw[VM];exact hl v (wy _ hv)) j]
  by_cases hj:j=w
  ·subst hj
   rw[if_neg nd'.1,if_pos (wC ..),Ru (hl j (wC ..))]
  ·rw[Rq (Wp hj)]
   by_cases hm:j∈l
   ·rw[if_pos hm,if_pos (wy _ hm)]
   ·rw[if_neg hm,if_neg (λz=>by rcases wQ.mp z with z | z;(exact hj z);exact hm z)]
theorem Y2(ps:List Rat)(left:List Nat):bQ left (aC ps left)=left.filter λw=>decide (ps.getD w 0<1):=by
 unfold bQ;refine vP λw hw=>?_
 have e:(w∈aC ps left)=(¬ ps.getD w 0<1):=by
  unfold aC;rw[ve];simp[hw]
 simp only[e];simp
theorem De(ps:List Rat)(left:List Nat):(aC ps left).length+(bQ left (aC ps left)).length=left.length:=by
 rw[Y2];unfold aC
 induction left with
 | nil=>rfl
 | cons w l ih=>by_cases h:ps.getD w 0<1<;>simp only[WX,h,decide_true,decide_false,WG,QW,if_true,if_false,w6,vo]<;>lia
theorem mn{left wave:List Nat}(h:left.Nodup):(bQ left wave).Nodup:=h.filter _
theorem nG{left wave:List Nat}{n:Nat}(h:∀w∈left,w<n):∀w∈bQ left wave,w<n:=λw hw=>h w (ve.mp hw).1
theorem PC(left:List Nat)(ps:List Rat):(jC left ps).length=ps.length:=by simp[jC]
theorem mP{left:List Nat}{ps:List Rat}{j:Nat}(h:j<ps.length):(jC left ps).getD j 0=if j∈left then ps.getD j 0 else 0:=by
 unfold jC;rw[wa,wu,vZ h]
 rfl
theorem fh(xs:List Rat):(bE xs).length=xs.length:=by simp[bE]
theorem pe{a b:Rat} : ∀(n:Nat)(ps:List Rat)(left:List Nat),(cv a b n ps left).2.2.length=ps.length
 | 0,ps,left=>rfl
 | n+1,ps,left=>by
  by_cases h:aC ps left=[]
  ·rw[mX h]
  ·rw[jg h]
   show(cv a b n _ _).2.2.length=_
   rw[pe n,iA]
theorem jc(a b:Rat)(xs:List Rat):(cV a b xs).length=xs.length:=by
 unfold cV d_;rw[PC,pe,fh]
theorem Cm.Im{m:Nat}{ps:List Rat}{B:Int}(h0:0<B)(h1:Bd m B)(h:∀j,j<ps.length->∃t:Int,ps.getD j 0=wB t B/\Bd m t):∀x∈ps,∃t:Int,x=wB t B/\Bd m t:=λx hx=>by
 obtain⟨j,hj,e⟩:=wX hx;have:=h j hj;rw[wa,wc hj]at this;rw[<- e];exact this
theorem zL{a b:Rat}(ba:ag 10 a)(bb:ag 10 b){m:Nat}{t:Int}(h:Bd m t):∀n:Nat,Bd (m+21*n) (t*((a.den:Int)*(b.den:Int))^n)
 | 0=>by simpa using h
 | n+1=>by
  rw[QJ,<- qi];exact((zL ba bb h n).mul (ba.b.mul bb.b)).mono (by lia)
theorem p7{t B d:Int}(h0:0<B)(hd:0<d):wB t B=wB (t*d) (B*d):=by
 symm
 refine fL (by have:=Wd h0 hd;lia) ?_;have q1:=cy t (show B≠0 by lia);rw[Wq,Wq,<- Us,q1]
theorem Cm.wave{m:Nat}{h:Rat}{ps:List Rat}{a b:Rat}(c:Cm m (h::ps))(ba:ag 10 a)(bb:ag 10 b)(n:Nat){l:List Nat}(nd:l.Nodup)(hl:∀w∈l,w<ps.length):Cm (m+21*n) (h::cA (a^n) (aB a b n) ps l):=by
 obtain⟨B,h0,h1,h2⟩:=c;have hz:Bd m (0:Int):=⟨by simp;exact Wr m⟩;obtain⟨p1,p2,_⟩:=pF ba bb h0 hz h1 n;have hd:0<((a.den:Int)*(b.den:Int))^n:=ut (Wd (den_pos a) (den_pos b));refine⟨_,p1,p2,λx hx=>?_⟩;rcases wQ.mp hx with rfl | hx
 ·obtain⟨t,rfl,ht⟩:=h2 x (wC ..)
  exact⟨_,p7 h0 hd,zL ba bb ht n⟩
 ·refine Cm.Im p1 p2 (λj hj=>?_) x hx
  rw[iA]at hj;obtain⟨t,e,ht⟩:=h2 (ps.getD j 0) (wy _ (cU hj));rw[jh _ _ _ _ nd hl]
  split
  ·obtain⟨_,_,T,e2,hT⟩:=pF ba bb h0 ht h1 n
   exact⟨T,by rw[<- iC,e,e2],hT⟩
  ·exact⟨_,by rw[e];exact p7 h0 hd,zL ba bb ht n⟩
theorem Cm.rise{m:Nat}{h M:Rat}{xs:List Rat}(c:Cm m (h::xs))(hM:M∈xs):Cm (m+2) ((h+(1-M))::xs.map (· + (1-M))):=by
 obtain⟨B,h0,h1,h2⟩:=c;obtain⟨z,ez,hz⟩:=h2 M (wy _ hM)
 have key:∀t:Int,Bd m t->wB t B+(1-M)=wB (t+B-z) B/\Bd (m+2) (t+B-z):=λt ht=>by
  refine⟨?_,((ht.add h1).sub hz).mono (by lia)⟩;rw[ez]
  symm
  refine fL (by lia) ?_;have q1:=cy t (show B≠0 by lia);have q2:=cy z (show B≠0 by lia);have q3:((t+B-z:Int):Rat)=(t:Rat)+(B:Rat)-(z:Rat):=by push_cast;rfl
  rw[q3,<- q1,<- q2]
  grind
 refine⟨B,h0,h1.mono (by lia),λx hx=>?_⟩;rcases wQ.mp hx with rfl | hx
 ·obtain⟨t,e,ht⟩:=h2 h (wC ..)
  rw[e];exact⟨_,(key t ht).1,(key t ht).2⟩
 ·obtain⟨y,hy,rfl⟩:=wS.mp hx
  obtain⟨t,e,ht⟩:=h2 y (wy _ hy)
  show ∃t:Int,y+(1-M)=_/\_
  rw[e];exact⟨_,(key t ht).1,(key t ht).2⟩
theorem Cm.kP{m:Nat}{xs:List Rat}{ys:List Rat}(c:Cm m xs)(h:∀y∈ys,y∈xs\/y=0):Cm m ys:=by
 obtain⟨B,h0,h1,h2⟩:=c;refine⟨B,h0,h1,λy hy=>?_⟩;rcases h y hy with z | rfl
 ·exact h2 y z
 ·exact⟨0,by simp,⟨by simp;exact Wr m⟩⟩
theorem zxP{left:List Nat}{ps:List Rat} : ∀y∈jC left ps,y∈ps\/y=0:=λy hy=>by
 unfold jC at hy;obtain⟨i,hi,e⟩:=wS.mp hy;rw[<- e]
 split
 ·exact .inl (cU (wI.mp hi))
 ·exact .inr rfl
theorem Cm.Tz{k:Nat}{xs:List Rat}(h:∀i,ag k (xs.getD i 0)):Cm (k*xs.length+1+k) xs:=by
 have h0:=Ei xs xs.length;have h1:=DV h xs.length;refine⟨jK xs xs.length,h0,h1.mono (by lia),Cm.Im h0 (h1.mono (by lia)) λj hj=>?_⟩;exact⟨_,(M7 h0 (C4 xs _ j hj)).symm,((h j).t.mul (BK (den_pos _) h0 h1)).mono (by lia)⟩
def aj(a b:Rat)(xs:List Rat):Nat->List Rat
 | 0=>xs
 | k+1=>cV a b (aj a b xs k)
def aS(a b:Rat)(xs:List Rat):Nat->Rat
 | 0=>0
 | k+1=>aS a b xs k+(1-bX (aj a b xs k))
theorem bP(a b:Rat)(xs:List Rat):∀k,(aj a b xs k).length=xs.length
 | 0=>rfl
 | k+1=>by rw[aj,jc,bP a b xs k]
theorem yC{f:Rat->Rat}{xs:List Rat}{w:Nat}(h:w<xs.length):(xs.map f).getD w 0=f (xs.getD w 0):=by
 rw[wa,wu,wc h,wa,wc h];rfl
def pb(d:Int)(m:Nat)(xs:List Rat):Prop:=∃B:Int,0<B/\d ∣ B/\Bd m B /\ ∀x∈xs,∃t:Int,x=wB t B/\Bd m t
theorem pb.of{d:Int}{m:Nat}{xs:List Rat}(h:Cm m xs)(hd:0<d)(b:Bd 4 d):pb d (m+4) xs:=by
 obtain⟨B,h0,h1,h2⟩:=h;refine⟨B*d,Wd h0 hd,uE ..,(h1.mul b),λx hx=>?_⟩;obtain⟨t,e,ht⟩:=h2 x hx;exact⟨t*d,by rw[e];exact p7 h0 hd,ht.mul b⟩
theorem Px{a b:Rat}(ta:Bd 6 a.num)(da:Bd 4 (a.den:Int))(tb:Bd 4 b.num){m:Nat}{t u:Int}(hu:0<u)(hd:(b.den:Int) ∣ u)(bt:Bd m t)(bu:Bd m u):∀n:Nat,0<u*(a.den:Int)^n/\(b.den:Int) ∣ u*(a.den:Int)^n/\Bd (m+9*n) (u*(a.den:Int)^n) /\
  ∃T:Int,push a b n (wB t u)=wB T (u*(a.den:Int)^n)/\Bd (m+9*n) T
 | 0=>⟨by simpa using hu,by simpa using hd,by simpa using bu,t,by simp[push],by simpa using bt⟩
 | n+1=>by
  obtain⟨h1,hdv,h2,T,e,hT⟩:=Px ta da tb hu hd bt bu n;have eb:u*(a.den:Int)^(n+1)=u*(a.den:Int)^n*(a.den:Int):=by rw[QJ,<- qi]
  rw[eb];generalize u*(a.den:Int)^n=U at *;obtain⟨c,rfl⟩:=hdv
  have hc:0<c:=by
   have hb:=den_pos b;rcases Int.lt_or_le 0 c with z | z
   ·exact z
   ·have:=Int.mul_nonpos_of_nonneg_of_nonpos (Int.le_of_lt hb) z
    lia
  have bc:Bd (m+9*n) c:=h2.le (by
   rw[Xa];exact Nat.le_mul_of_pos_left _ (by have:=den_pos b;lia))
  refine⟨Wd h1 (den_pos a),qR (VU ..) (VU ..),(h2.mul da).mono (by lia),a.num*T+b.num*(a.den:Int)*c,?_,((ta.mul hT).add ((tb.mul da).mul bc)).mono (by lia)⟩;rw[push,e]
  symm
  have hU:((b.den:Int)*c)*(a.den:Int)≠0:=by have:=Wd h1 (den_pos a);lia
  refine fL hU ?_;have q1:=cy T (show(b.den:Int)*c≠0 by lia);have q2:=kK a;have q3:=kK b;have q4:((a.num*T+b.num*(a.den:Int)*c:Int):Rat)=(a.num:Rat)*(T:Rat)+(b.num:Rat)*((a.den:Int):Rat)*(c:Rat):=by push_cast;rfl
  have q5:(((b.den:Int)*c*(a.den:Int):Int):Rat)=((b.den:Int):Rat)*(c:Rat)*((a.den:Int):Rat):=by push_cast;rfl
  have q6:(((b.den:Int)*c:Int):Rat)=((b.den:Int):Rat)*(c:Rat):=by push_cast;rfl
  rw[q6]at q1;rw[q4,q5,<- q1,<- q2,<- q3]
  grind
theorem eF(a b:Rat)(xs:List Rat)(m:Nat):∀k,aj a b (aj a b xs m) k=aj a b xs (m+k)
 | 0=>rfl
 | k+1=>by rw[aj,eF a b xs m k];rfl
theorem mB(a b:Rat)(xs:List Rat)(m:Nat):∀k,aS a b xs m+aS a b (aj a b xs m) k=aS a b xs (m+k)
 | 0=>by show aS a b xs m+0=aS a b xs m;grind
 | k+1=>by
  have:=mB a b xs m k
  show aS a b xs m+(aS a b (aj a b xs m) k+(1-bX (aj a b (aj a b xs m) k)))=aS a b xs (m+k)+(1-bX (aj a b xs (m+k)))
  rw[eF,<- this]
  grind
theorem Om{a b:Rat}(a0:0<a)(b0:0<=b){x:Rat}(h:0<x):∀n:Nat,0<push a b n x
 | 0=>h
 | n+1=>by
  have h1:=Om a0 b0 h n;have h2:=Vq a0 h1
  show 0<a*push a b n x+b
  grind
structure g9(l:List Rat):Prop where
 pw:l.Pairwise (· > ·)
 nn:∀y∈l,0<=y
theorem g9.step{a b:Rat}(a0:0<a)(b0:0<=b){n:Nat}{x:Rat}{l:List Rat}(h:g9 (x::l))(x1:x<1):g9 (lH a b n (x::l)):=by
 have hp:=Vj.mp h.pw;have pos:∀y∈l,0<push a b n (y+(1-x)):=λy hy=>Om a0 b0 (by have:=h.nn y (wy _ hy);grind) n
 unfold lH;refine⟨qM.mpr ⟨?_,xI _ _,?_⟩,λy hy=>?_⟩
 ·show(l.map λy=>push a b n (y+(1-x))).Pairwise (· > ·)
  rw[qz];refine hp.2.imp λ{y z} hyz=>?_
  show push a b n (z+(1-x))<push a b n (y+(1-x))
  have hyz:z<y:=hyz;exact(YM a0 n _ _).mpr (by grind)
 ·intro y hy z hz
  obtain⟨w,hw,rfl⟩:=wS.mp hy;rw[w5.mp hz];exact pos w hw
 ·rcases We.mp hy with hy | hy
  ·obtain⟨w,hw,rfl⟩:=wS.mp hy
   exact vX (pos w hw)
  ·rw[w5.mp hy];exact W1
structure fZ(xs row:List Rat)(fl:Nat->Nat):Prop where
 at':∀w,w<xs.length->xs.getD w 0=row.getD (fl w) 0
 lt:∀w,w<xs.length->fl w<row.length
def br(n:Nat)(fl:Nat->Nat)(c:Nat):List Nat:=(wx n).filter λw=>decide (fl w=c)
theorem rk{xs row:List Rat}{fl:Nat->Nat}{c:Nat}(h:fZ xs row fl)(some:∃w,w<xs.length/\fl w=c)(top:∀j,j<row.length->j≠c->row.getD j 0<row.getD c 0):bX xs=row.getD c 0:=by
 obtain⟨w,hw,rfl⟩:=some;have h1:1<=xs.length:=by lia
 refine Rat.le_antisymm ?_ ?_
 ·obtain⟨j,hj,e⟩:=wX (gO h1)
  have ea:=h.at' j hj;rw[wa,wc hj]at ea;have ea:xs[j]=row.getD (fl j) 0:=ea;rw[<- e,ea]
  by_cases z:fl j=fl w
  ·rw[z];exact W1
  ·exact vX (top _ (h.lt j hj) z)
 ·rw[<- h.at' w hw]
  exact O2 _ (cU hw)
theorem CW{xs row:List Rat}{fl:Nat->Nat}{c:Nat}(h:fZ xs row fl)(some:∃w,w<xs.length/\fl w=c)(top:∀j,j<row.length->j≠c->row.getD j 0<row.getD c 0):aC (bE xs) (wx xs.length)=br xs.length fl c:=by
 unfold aC br;refine vP λw hw=>?_
 have hw:=wI.mp hw;have hm:=rk h some top
 have e:(bE xs).getD w 0=row.getD (fl w) 0+(1-row.getD c 0):=by
  unfold bE;rw[wa,wu,wc hw,hm];have ea:=h.at' w hw;rw[wa,wc hw]at ea;have ea:xs[w]=row.getD (fl w) 0:=ea
  show xs[w]+(1-row.getD c 0)=_
  rw[ea]
 rw[e]
 by_cases z:fl w=c
 ·rw[z,decide_eq_true rfl,decide_eq_false (by grind)];rfl
 ·have:=top _ (h.lt w hw) z
  rw[decide_eq_false z,decide_eq_true (by grind)];rfl
theorem Rx{xs row:List Rat}{fl:Nat->Nat}{c:Nat}(h:fZ xs row fl)(hm:bX xs=row.getD c 0){w:Nat}(hw:w<xs.length):(bE xs).getD w 0=row.getD (fl w) 0+(1-row.getD c 0):=by
 unfold bE;rw[wa,wu,wc hw,hm];have ea:=h.at' w hw;rw[wa,wc hw]at ea;have ea:xs[w]=row.getD (fl w) 0:=ea
 show xs[w]+(1-row.getD c 0)=_
 rw[ea]
theorem YK{a b:Rat}{xs row:List Rat}{fl:Nat->Nat}{c:Nat}(h:fZ xs row fl)(some:∃w,w<xs.length/\fl w=c)(top:∀j,j<row.length->j≠c->row.getD j 0<row.getD c 0)
  (low:∀j,j<row.length->j≠c->(∃w,w<xs.length/\fl w=j)->push a b (br xs.length fl c).length (row.getD j 0+(1-row.getD c 0))<1) :
  cf a b xs=[br xs.length fl c]/\fZ (cV a b xs) (dE a b (br xs.length fl c).length row c) fl:=by
 have hm:=rk h some top;have he:=CW h some top;obtain⟨w0,hw0,hf0⟩:=some
 have hne:br xs.length fl c≠[]:=λe=>by
  have:w0∈br xs.length fl c:=ve.mpr ⟨wI.mpr hw0,decide_eq_true hf0⟩;rw[e]at this;cases this
 have hlen:xs.length=(xs.length-1)+1:=by lia
 have hcl:c<row.length:=by rw[<- hf0];exact h.lt w0 hw0
 have nd:=Vc (n:=xs.length)
 have hmemL:∀w,w∈bQ (wx xs.length) (br xs.length fl c) ↔ w<xs.length/\fl w≠c:=λw=>by
  unfold bQ br;rw[ve,wI]
  constructor
  ·rintro ⟨h1,h2⟩
   refine⟨h1,λz=>?_⟩;have:w∈(wx xs.length).filter λw=>decide (fl w=c):=ve.mpr ⟨wI.mpr h1,decide_eq_true z⟩
   simp[this]at h2
  ·rintro ⟨h1,h2⟩
   exact⟨h1,by simp[h2]⟩
 have hps:∀w,w<xs.length->fl w≠c->(cA (a^(br xs.length fl c).length) (aB a b (br xs.length fl c).length) (bE xs) (bQ (wx xs.length) (br xs.length fl c))).getD w 0=push a b (br xs.length fl c).length (row.getD (fl w) 0+(1-row.getD c 0)):=λw hw hf=>by
  rw[jh _ _ _ _ (mn nd) (λv hv=>by rw[fh];exact((hmemL v).mp hv).1),if_pos ((hmemL w).mpr ⟨hw,hf⟩),Rx h hm hw,iC]
 have hend:aC (cA (a^(br xs.length fl c).length) (aB a b (br xs.length fl c).length) (bE xs) (bQ (wx xs.length) (br xs.length fl c))) (bQ (wx xs.length) (br xs.length fl c))=[]:=by
  unfold aC;rw[xW];intro w hw;have hw':=(hmemL w).mp hw;rw[hps w hw'.1 hw'.2];have:=low (fl w) (h.lt w hw'.1) hw'.2 ⟨w,hw'.1,rfl⟩;rw[decide_eq_true this]
  decide
 have hR:d_ a b xs=([br xs.length fl c],bQ (wx xs.length) (br xs.length fl c),cA (a^(br xs.length fl c).length) (aB a b (br xs.length fl c).length) (bE xs) (bQ (wx xs.length) (br xs.length fl c))):=by
  unfold d_;generalize hN:cv a b xs.length (bE xs) (wx xs.length)=r;rw[show cv a b xs.length (bE xs) (wx xs.length)=cv a b ((xs.length-1)+1) (bE xs) (wx xs.length) by rw[<- hlen],jg (by rw[he];exact hne),he,mX hend]at hN;exact hN.symm
 refine⟨by unfold cf;rw[hR],λw hw=>?_,λw hw=>by rw[ic];exact h.lt w (by rw[jc]at hw;exact hw)⟩;rw[jc]at hw;have hfw:=h.lt w hw;unfold cV;rw[hR,mP (by rw[iA,fh];exact hw),gv _ _ _ _ _ _ hfw]
 by_cases z:fl w=c
 ·rw[if_neg (λy=>((hmemL w).mp y).2 z),if_pos z]
 ·rw[if_pos ((hmemL w).mpr ⟨hw,z⟩),if_neg z,hps w hw z]
theorem zqL{a b:Rat}{xs row:List Rat}{fl:Nat->Nat}{c:Nat}(h:fZ xs row fl)(some:∃w,w<xs.length/\fl w=c)(top:∀j,j<row.length->j≠c->row.getD j 0<row.getD c 0)
  {w1:Nat} (hw1:w1<xs.length) (hf1:fl w1≠c) (up:¬ push a b (br xs.length fl c).length (row.getD (fl w1) 0+(1-row.getD c 0))<1):1<(cf a b xs).length:=by
 have hm:=rk h some top;have he:=CW h some top;obtain⟨w0,hw0,hf0⟩:=some
 have hne:br xs.length fl c≠[]:=λe=>by
  have:w0∈br xs.length fl c:=ve.mpr ⟨wI.mpr hw0,decide_eq_true hf0⟩;rw[e]at this;cases this
 have hw01:w0≠w1:=λe=>hf1 (by rw[<- e];exact hf0)
 have hlen:xs.length=(xs.length-2)+1+1:=by lia
 have nd:=Vc (n:=xs.length)
 have hmem:w1∈bQ (wx xs.length) (br xs.length fl c):=by
  unfold bQ br;rw[ve,wI];exact⟨hw1,by simp[hf1]⟩
 have hend:aC (cA (a^(br xs.length fl c).length) (aB a b (br xs.length fl c).length) (bE xs) (bQ (wx xs.length) (br xs.length fl c))) (bQ (wx xs.length) (br xs.length fl c))≠[]:=λe=>by
  have:w1∈aC (cA (a^(br xs.length fl c).length) (aB a b (br xs.length fl c).length) (bE xs) (bQ (wx xs.length) (br xs.length fl c))) (bQ (wx xs.length) (br xs.length fl c)):=by
   unfold aC;refine ve.mpr ⟨hmem,?_⟩;rw[jh _ _ _ _ (mn nd) (λv hv=>by rw[fh];exact wI.mp (ve.mp hv).1),if_pos hmem,Rx h hm hw1,<- iC,decide_eq_false up]
   rfl
  rw[e]at this;cases this
 unfold cf d_;rw[show cv a b xs.length (bE xs) (wx xs.length)=cv a b ((xs.length-2)+1+1) (bE xs) (wx xs.length) by rw[<- hlen],jg (by rw[he];exact hne),he,jg hend]
 show 1<(_::_::_:List (List Nat)).length
 simp
theorem Kx{a b:Rat}{ns:List Int}{row:List Rat}{i j:Nat}(hi:i<=row.length)(hj:j<row.length):(aQ a b ns row i).getD j 0∈turned a b ns row i:=by
 have hl:=cH a b ns row i;rw[mJ a b ns row i hi];have hm:(aQ a b ns row i).getD j 0∈aQ a b ns row i:=cU (by lia);generalize (aQ a b ns row i).getD j 0=y at hm;have hm2:y∈(aQ a b ns row i).take i++(aQ a b ns row i).drop i:=by rw[Xb];exact hm
 rcases We.mp hm2 with z | z
 ·exact We.mpr (.inr z)
 ·exact We.mpr (.inl z)
theorem Ep{a b:Rat}{ns:List Int}{row:List Rat}{i j:Nat}(h:g9 (turned a b ns row i))(hi:i<row.length)(hj:j<row.length)(hne:j≠i):(aQ a b ns row i).getD j 0<(aQ a b ns row i).getD i 0:=by
 have hl:=cH a b ns row i;have hpw:=h.pw;rw[mJ a b ns row i (by lia),Qc (by lia),xC]at hpw;have hp:=(Vj.mp hpw).1;have e:(aQ a b ns row i).getD i 0=(aQ a b ns row i)[i]'(by lia):=by rw[wa,wc (by lia)];rfl
 rw[e];refine hp _ ?_;rw[We];have ej:(aQ a b ns row i).getD j 0=(aQ a b ns row i)[j]'(by lia):=by rw[wa,wc (by lia)];rfl
 rw[ej];rcases wz j i with z | z
 ·refine .inr (Xo.mpr ⟨j,by rw[Ws];lia,?_⟩)
  rw[X3]
 ·refine .inl (Xo.mpr ⟨j-(i+1),by rw[Wa];lia,?_⟩)
  rw[X6]
  congr 1
  lia
def dD(a b:Rat)(ns:List Int)(row:List Rat)(i:Nat):Rat:=(aQ a b ns row (i+1)).getD ((i+1) % row.length) 0
structure eO(xs row:List Rat)(fl:Nat->Nat)(ns:List Int):Prop where
 pl:fZ xs row fl
 mh:g9 row
 one:row.getD 0 0<1
 len:ns.length=row.length
 some:∀c,c<row.length->∃w,w<xs.length/\fl w=c
 size:∀c,c<row.length->(ns.getD c 0).toNat=(br xs.length fl c).length
theorem rl{a b:Rat}(a0:0<a)(b0:0<=b){xs row:List Rat}{fl:Nat->Nat}{ns:List Int}(h:eO xs row fl ns):∀i,i<=row.length->(∀t,t<i->dD a b ns row t<1)->fZ (aj a b xs i) (aQ a b ns row i) fl/\g9 (turned a b ns row i)/\(i<row.length->(aQ a b ns row i).getD i 0<1) /\ ∀t,t<i->cf a b (aj a b xs t)=[br xs.length fl t]
 | 0,_,_=>⟨h.pl,h.mh,λ_=>h.one,λt ht=>by lia⟩
 | i+1,hi,ht=>by
  obtain⟨P,F,o,W⟩:=rl a0 b0 h i (by lia) (λt ht'=>ht t (by lia));have hl:=cH a b ns row i;have hpl:=bP a b xs i;have hi':i<row.length:=by lia
  have oi:=o hi';have ti:=ht i (by lia)
  have hne:turned a b ns row i≠[]:=λe=>by
   have:=yx a b ns row (by lia) i;rw[e]at this;simp at this;lia
  obtain⟨x,l,ex⟩:∃x l,turned a b ns row i=x::l:=by
   cases e:turned a b ns row i with
   | nil=>exact absurd e hne
   | cons x l=>exact⟨x,l,rfl⟩
  have hx:x=(aQ a b ns row i).getD i 0:=by
   have:=yi a b ns row hi';rw[ex]at this;exact this
  have F1:g9 (turned a b ns row (i+1)):=by
   show g9 (lH a b (ns.getD i 0).toNat (turned a b ns row i))
   rw[ex]at F ⊢;exact F.step a0 b0 (by rw[hx];exact oi)
  have hsz:(ns.getD i 0).toNat=(br (aj a b xs i).length fl i).length:=by rw[hpl];exact h.size i hi'
  have hrow:aQ a b ns row (i+1)=dE a b (br (aj a b xs i).length fl i).length (aQ a b ns row i) i:=by rw[<- hsz];rfl
  -- the head of what is turned is the top: all others are below 1
  have headTop:(turned a b ns row (i+1)).headD 0=dD a b ns row i:=by
   unfold dD;rcases wz (i+1) row.length with z | z
   ·rw[yi a b ns row z,xE z]
   ·have e:i+1=row.length:=by lia
    rw[e,Nat.mod_self,mJ a b ns row _ (wp _)];have hl1:=cH a b ns row row.length;rw[xU (by lia),W7 (by lia),QK];cases e2:aQ a b ns row row.length with
    | nil=>rw[e2]at hl1;simp at hl1;lia
    | cons y m=>rfl
  have below:∀y∈turned a b ns row (i+1),y<1:=λy hy=>by
   have hpw:=F1.pw;cases e2:turned a b ns row (i+1)with
   | nil=>rw[e2]at hy;cases hy
   | cons z m =>
    rw[e2]at hy hpw headTop
    have hz:z<1:=by
     have:z=dD a b ns row i:=headTop;rw[this];exact ti
    rcases wQ.mp hy with rfl | hy
    ·exact hz
    ·have:=(Vj.mp hpw).1 y hy
     have:y<z:=this
     grind
  have G:=YK (a:=a) (b:=b) (c:=i) P (by obtain⟨w,h1,h2⟩:=h.some i hi';exact⟨w,by lia,h2⟩) (λj hj hji=>Ep F hi' (by lia) hji) (λj hj hji _=>by
   have hm:=Kx (a:=a) (b:=b) (ns:=ns) (row:=row) (i:=i+1) (j:=j) hi (by lia);have:=below _ hm;rw[hrow,gv _ _ _ _ _ _ hj,if_neg hji]at this;exact this)
  refine⟨by rw[hrow];exact G.2,F1,λhlt=>?_,λt ht'=>?_⟩
  ·have:=below _ (Kx (a:=a) (b:=b) (ns:=ns) (row:=row) (i:=i+1) (j:=i+1) hi hlt)
   exact this
  ·rcases wz t i with z | z
   ·exact W t z
   ·have:t=i:=by lia
    subst this;have:=G.1;rw[hpl]at this;exact this
def eQ(xs:List Rat)(v:Rat):List Nat:=(wx xs.length).filter λw=>decide (xs.getD w 0=v)
def iR:Nat->List Rat->List Rat
 | 0,_=>[]
 | _+1,[]=>[]
 | n+1,x::l=>bX (x::l)::iR n ((x::l).filter λy=>!decide (y=bX (x::l)))
def ai(xs:List Rat):List Rat:=iR xs.length xs
theorem EW(n:Nat):iR n []=[]:=by cases n<;>rfl
theorem m4{n:Nat}{l:List Rat}(h:l≠[]):iR (n+1) l=bX l::iR n (l.filter λy=>!decide (y=bX l)):=by
 cases l with
 | nil=>exact absurd rfl h
 | cons x l=>rfl
theorem LA{l:List Rat}(h:l≠[]):(l.filter λy=>!decide (y=bX l)).length<l.length:=by
 have hm:bX l∈l:=gO (qg.mpr h);rcases wz (l.filter λy=>!decide (y=bX l)).length l.length with z | z
 ·exact z
 ·have:=List.length_filter_eq_length_iff.mp (uX (WI _ _) z) (bX l) hm
  simp at this
theorem Bl:∀(n:Nat)(l:List Rat),∀y∈iR n l,y∈l
 | 0,l,y,h=>by cases h
 | n+1,[],y,h=>by cases h
 | n+1,x::l,y,h=>by
  rw[m4 (by simp)]at h;rcases wQ.mp h with rfl | h
  ·exact gO (by simp)
  ·exact(ve.mp (Bl n _ y h)).1
theorem iD:∀(n:Nat)(l:List Rat),(iR n l).Pairwise (· > ·)
 | 0,l=>xh.nil
 | n+1,[]=>xh.nil
 | n+1,x::l=>by
  rw[m4 (by simp)];refine Vj.mpr ⟨λy hy=>?_,iD n _⟩;have hf:=ve.mp (Bl n _ y hy);have h1:=O2 y hf.1;have h2:¬ y=bX (x::l):=by simpa using hf.2
  show y<bX (x::l)
  exact Vk h1 h2
theorem RP:∀(n:Nat)(l:List Rat),l.length<=n->∀y∈l,y∈iR n l
 | 0,l,h,y,hy=>by
  have:l=[]:=Qu.mp (by lia);rw[this]at hy;cases hy
 | n+1,[],h,y,hy=>by cases hy
 | n+1,x::l,h,y,hy=>by
  rw[m4 (by simp)]
  by_cases z:y=bX (x::l)
  ·rw[z];exact wC ..
  ·have hl:=LA (l:=x::l) (by simp)
   refine wy _ (RP n _ (by lia) y (ve.mpr ⟨hy,by simp[z]⟩))
def aO(xs:List Rat)(w:Nat):Nat:=(ai xs).idxOf (xs.getD w 0)
theorem p5{xs:List Rat}{y:Rat}(h:y∈xs):y∈ai xs:=RP _ _ (wp _) y h
theorem jw{xs:List Rat}{y:Rat}(h:y∈ai xs):y∈xs:=Bl _ _ y h
theorem ku(xs:List Rat):fZ xs (ai xs) (aO xs):=by
 have key:∀w,w<xs.length->aO xs w<(ai xs).length:=λw hw=>List.idxOf_lt_length_of_mem (p5 (cU hw))
 refine⟨λw hw=>?_,key⟩;rw[wa (l:=ai xs),wc (key w hw)];exact(List.getElem_idxOf (key w hw)).symm
theorem Ed{xs:List Rat}{w c:Nat}(hw:w<xs.length)(hc:c<(ai xs).length):aO xs w=c ↔ xs.getD w 0=(ai xs).getD c 0:=by
 have P:=ku xs;have e:=P.at' w hw;have hl:=P.lt w hw
 constructor
 ·rintro rfl;exact e
 ·intro h
  rw[e]at h;rcases WS (aO xs w) c with z | z | z
  ·have:=(vY.mp (iD xs.length xs)) (aO xs w) c hl hc z
   rw[wa,wc hl,wa,wc hc]at h;have h:(ai xs)[aO xs w]=(ai xs)[c]:=h;have this:(ai xs)[c]<(ai xs)[aO xs w]:=this;rw[h]at this;exact absurd this (by grind)
  ·exact z
  ·have:=(vY.mp (iD xs.length xs)) c (aO xs w) hc hl z
   rw[wa,wc hl,wa,wc hc]at h;have h:(ai xs)[aO xs w]=(ai xs)[c]:=h;have this:(ai xs)[aO xs w]<(ai xs)[c]:=this;rw[h]at this;exact absurd this (by grind)
theorem zvi{xs:List Rat}{c:Nat}(hc:c<(ai xs).length):br xs.length (aO xs) c=eQ xs ((ai xs).getD c 0):=by
 unfold br eQ;refine vP λw hw=>?_
 exact decide_eq_decide.mpr (Ed (wI.mp hw) hc)
def aE(xs:List Rat):List Int:=(ai xs).map λv=>((eQ xs v).length:Int)
theorem CL{xs:List Rat}(nn:∀x∈xs,0<=x)(lt:∀x∈xs,x<1):eO xs (ai xs) (aO xs) (aE xs) where
 pl:=ku xs
 mh:=⟨iD _ _,λy hy=>nn y (jw hy)⟩
 one:=by
  rcases wz 0 (ai xs).length with z | z
  ·exact lt _ (jw (cU z))
  ·rw[wa,wE z];decide
 len:=by unfold aE;rw[wm]
 some:=λc hc=>by
  obtain⟨w,hw,e⟩:=wX (jw (cU (d:=0) hc));refine⟨w,hw,(Ed hw hc).mpr ?_⟩;rw[wa,wc hw];exact e
 size:=λc hc=>by
  rw[zvi hc];unfold aE;rw[wa,wu,wc hc,wa,wc hc]
  rfl
theorem Mw:∀{l m:List Rat},l.Pairwise (· > ·)->m.Pairwise (· > ·)->(∀y,y∈l ↔ y∈m)->l=m
 | [],[],_,_,_=>rfl
 | [],y::m,_,_,h=>by have:=(h y).mpr (wC ..);cases this
 | x::l,[],_,_,h=>by have:=(h x).mp (wC ..);cases this
 | x::l,y::m,hl,hm,h=>by
  have pl:=Vj.mp hl;have pm:=Vj.mp hm
  have e:x=y:=by
   rcases wQ.mp ((h x).mp (wC ..))with z | z
   ·exact z
   ·rcases wQ.mp ((h y).mpr (wC ..))with z2 | z2
    ·exact z2.symm
    ·have a1:x<y:=pm.1 x z
     have a2:y<x:=pl.1 y z2
     grind
  subst e;rw[Mw pl.2 pm.2 λz=>⟨λhz=>?_,λhz=>?_⟩]
  ·rcases wQ.mp ((h z).mp (wy _ hz))with e | e
   ·have:z<x:=pl.1 z hz
    rw[e]at this;exact absurd this (by grind)
   ·exact e
  ·rcases wQ.mp ((h z).mpr (wy _ hz))with e | e
   ·have:z<x:=pm.1 z hz
    rw[e]at this;exact absurd this (by grind)
   ·exact e
theorem CO{ys row:List Rat}{fl:Nat->Nat}(P:fZ ys row fl)(F:row.Pairwise (· > ·))(some:∀c,c<row.length->∃w,w<ys.length/\fl w=c):ai ys=row:=by
 refine Mw (iD _ _) F λy=>⟨λh=>?_,λh=>?_⟩
 ·obtain⟨w,hw,e⟩:=wX (jw h)
  have ea:=P.at' w hw;rw[wa,wc hw]at ea;have ea:ys[w]=row.getD (fl w) 0:=ea;rw[<- e,ea];exact cU (P.lt w hw)
 ·obtain⟨c,hc,e⟩:=wX h
  obtain⟨w,hw,hf⟩:=some c hc;have ea:=P.at' w hw;rw[hf,wa (l:=row),wc hc]at ea;have ea:ys.getD w 0=row[c]:=ea;rw[<- e,<- ea];exact p5 (cU hw)
theorem zpm{ys row:List Rat}{fl:Nat->Nat}{ns:List Int}(P:fZ ys row fl)(F:row.Pairwise (· > ·))(some:∀c,c<row.length->∃w,w<ys.length/\fl w=c)(hn:ns.length=row.length)(pos:∀n∈ns,0<=n)(size:∀c,c<row.length->(ns.getD c 0).toNat=(br ys.length fl c).length):aE ys=ns:=by
 have hv:=CO P F some;unfold aE;rw[hv];refine WM (by rw[wm,hn]) λc h1 h2=>?_
 rw[wm]at h1;rw[WY]
 have e:eQ ys row[c]=br ys.length fl c:=by
  unfold eQ br;refine vP λw hw=>?_
  have hw:=wI.mp hw;refine decide_eq_decide.mpr ⟨λh=>?_,λh=>?_⟩
  ·have ea:=P.at' w hw
   rw[h]at ea;have hl:=P.lt w hw;rw[wa,wc hl]at ea;have ea:row[c]=row[fl w]:=ea;rcases WS (fl w) c with z | z | z
   ·have:=(vY.mp F) (fl w) c hl h1 z
    have this:row[c]<row[fl w]:=this;rw[ea]at this;exact absurd this (by grind)
   ·exact z
   ·have:=(vY.mp F) c (fl w) h1 hl z
    have this:row[fl w]<row[c]:=this;rw[ea]at this;exact absurd this (by grind)
  ·have ea:=P.at' w hw
   rw[h,wa (l:=row),wc h1]at ea;exact ea
 have hs:=size c h1;rw[wa,wc h2]at hs;have hs:ns[c].toNat=(br ys.length fl c).length:=hs;have:=pos ns[c] (vO h2);rw[e]
 lia
def e_(a b:Rat)(ns:List Int)(row:List Rat):Nat->Rat
 | 0=>0
 | k+1=>e_ a b ns row k+(1-(aQ a b ns row k).getD k 0)
theorem Sd{a b:Rat}(a0:0<a)(b0:0<=b){xs row:List Rat}{fl:Nat->Nat}{ns:List Int}(h:eO xs row fl ns):∀i,i<=row.length->(∀t,t<i->dD a b ns row t<1)->aS a b xs i=e_ a b ns row i
 | 0,_,_=>rfl
 | i+1,hi,ht=>by
  have ht':∀t,t<i->dD a b ns row t<1:=λt z=>ht t (by lia)
  obtain⟨P,F,_,_⟩:=rl a0 b0 h i (by lia) ht';have hpl:=bP a b xs i;have hl:=cH a b ns row i;have hm:=rk (c:=i) P (by obtain⟨w,h1,h2⟩:=h.some i (by lia);exact⟨w,by lia,h2⟩) (λj hj hji=>Ep F (by lia) (by lia) hji);rw[aS,e_,Sd a0 b0 h i (by lia) ht',hm]
theorem MF{a b:Rat}(a0:0<a)(b0:0<=b){xs row:List Rat}{fl:Nat->Nat}{ns:List Int}(h:eO xs row fl ns){t:Nat}(ht:t<row.length)(free:∀s,s<t->dD a b ns row s<1)(up:¬ dD a b ns row t<1):1<(cf a b (aj a b xs t)).length:=by
 obtain⟨P,F,o,_⟩:=rl a0 b0 h t (by lia) free;have hpl:=bP a b xs t;have hl:=cH a b ns row t;have hsz:(ns.getD t 0).toNat=(br (aj a b xs t).length fl t).length:=by rw[hpl];exact h.size t ht
 have hrow:aQ a b ns row (t+1)=dE a b (br (aj a b xs t).length fl t).length (aQ a b ns row t) t:=by rw[<- hsz];rfl
 have hj:(t+1) % row.length<row.length:=qN _ (by lia)
 have hne:(t+1) % row.length≠t:=λe=>by
  apply up
  unfold dD;rw[hrow,e,gv _ _ _ _ _ _ (by lia),if_pos rfl]
  decide
 obtain⟨w1,hw1,hf1⟩:=h.some _ hj;refine zqL (c:=t) P (by obtain⟨w,h1,h2⟩:=h.some t ht;exact⟨w,by lia,h2⟩) (λj hj hji=>Ep F ht (by lia) hji) (w1:=w1) (by lia) (by rw[hf1];exact hne) ?_;intro z
 apply up
 unfold dD;rw[hrow,gv _ _ _ _ _ _ (by lia),if_neg hne,<- hf1];exact z
theorem pC{a b:Rat}(a0:0<a)(b0:0<=b):∀n:Nat,0<=aB a b n
 | 0=>W1
 | n+1=>by
  have h1:=pC a0 b0 n;have h2:=qE (vX a0) h1
  show 0<=a*aB a b n+b
  grind
theorem BG{a b:Rat}(a0:0<a)(b0:0<=b):∀(n:Nat)(ps:List Rat)(left:List Nat),left.length<=n->left.Nodup->(∀w∈left,w<ps.length)->(∀w∈left,0<=ps.getD w 0) ->
  ∀w∈(cv a b n ps left).2.1,w∈left/\0<=(cv a b n ps left).2.2.getD w 0/\(cv a b n ps left).2.2.getD w 0<1
 | 0,ps,left,hn,_,_,_=>by
  have:left=[]:=Qu.mp (by lia);subst this;intro w hw;cases (show w∈([]:List Nat)from hw)
 | n+1,ps,left,hn,nd,hlt,nn=>by
  by_cases e:aC ps left=[]
  ·rw[mX e]
   intro w hw;have hw:w∈left:=hw;refine⟨hw,nn w hw,?_⟩;have:¬ w∈aC ps left:=by rw[e];simp
   unfold aC at this;rw[ve]at this
   show ps.getD w 0<1
   by_cases z:ps.getD w 0<1
   ·exact z
   ·exact absurd ⟨hw,by simp only[z,decide_false,QW]⟩ this
  ·rw[jg e]
   have hl:=De ps left;have hp:=qg.mpr e;have nd':(bQ left (aC ps left)).Nodup:=mn nd;have lt':∀w∈bQ left (aC ps left),w<(cA (a^(aC ps left).length) (aB a b (aC ps left).length) ps (bQ left (aC ps left))).length:=λw hw=>by rw[iA];exact nG hlt w hw
   have ih:=BG a0 b0 n (cA (a^(aC ps left).length) (aB a b (aC ps left).length) ps (bQ left (aC ps left))) (bQ left (aC ps left)) (by lia) nd' lt' (λw hw=>by
    rw[jh _ _ _ _ nd' (nG hlt),if_pos hw];have h1:=nn w (ve.mp hw).1;have h2:=qE (vX (lO a0 (aC ps left).length)) h1;have h3:=pC a0 b0 (aC ps left).length
    grind)
   intro w hw;have:=ih w hw;exact⟨(ve.mp this.1).1,this.2⟩
theorem Mx{xs:List Rat}(nn:∀x∈xs,0<=x)(lt:∀x∈xs,x<1){w:Nat}(hw:w<xs.length):0<=(bE xs).getD w 0:=by
 have h1:=gO (xs:=xs) (by lia);have h2:=lt _ h1;have h3:=nn _ (cU (d:=0) hw);unfold bE;rw[yC hw]
 grind
theorem Jy{a b:Rat}(a0:0<a)(b0:0<=b){xs:List Rat}(nn:∀x∈xs,0<=x)(lt:∀x∈xs,x<1):∀y∈cV a b xs,0<=y/\y<1:=λy hy=>by
 obtain⟨j,hj,e⟩:=wX hy;have hlen:=jc a b xs;have hjx:j<xs.length:=by lia
 have hpl:(d_ a b xs).2.2.length=xs.length:=by
  unfold d_;rw[pe,fh]
 have e2:(cV a b xs).getD j 0=y:=by rw[wa,wc hj];exact e
 unfold cV at e2;rw[mP (by lia)]at e2
 split at e2
 ·rename_i hm
  have:=BG a0 b0 xs.length (bE xs) (wx xs.length) (by simp) Vc (λw hw=>by rw[fh];exact wI.mp hw) (λw hw=>Mx nn lt (wI.mp hw)) j hm;rw[<- e2];exact this.2
 ·rw[<- e2];exact⟨W1,by decide⟩
theorem zrd{a b:Rat}(a0:0<a)(b0:0<=b){xs:List Rat}(h1:1<=xs.length)(nn:∀x∈xs,0<=x)(lt:∀x∈xs,x<1):0∈cV a b xs:=by
 obtain⟨j,hj,e⟩:=wX (gO h1)
 have hr:(bE xs).getD j 0=1:=by
  unfold bE;rw[yC hj,wa,wc hj]
  show xs[j]+(1-bX xs)=1
  rw[e];grind
 have hend:j∈aC (bE xs) (wx xs.length):=by
  unfold aC;rw[ve];refine⟨wI.mpr hj,?_⟩;rw[hr];decide
 have hne:aC (bE xs) (wx xs.length)≠[]:=λz=>by rw[z]at hend;cases hend
 have hpl:(d_ a b xs).2.2.length=xs.length:=by
  unfold d_;rw[pe,fh]
 have hnot:¬ j∈(d_ a b xs).2.1:=λz=>by
  unfold d_ at z;obtain⟨n,hn⟩:∃n,xs.length=n+1:=⟨xs.length-1,by lia⟩;have hl:=De (bE xs) (wx xs.length);rw[vy]at hl;have hp:=qg.mpr hne;have z':j∈(cv a b (n+1) (bE xs) (wx xs.length)).2.1:=by rw[<- hn];exact z
  rw[jg hne]at z';have nd':(bQ (wx xs.length) (aC (bE xs) (wx xs.length))).Nodup:=mn Vc;have ltr:∀w∈wx xs.length,w<(bE xs).length:=λw hw=>by rw[fh];exact wI.mp hw
  have:=BG a0 b0 n _ _ (by lia) nd' (λw hw=>by rw[iA];exact nG ltr w hw) (λw hw=>by
   rw[jh _ _ _ _ nd' (nG ltr),if_pos hw];have h1:=Mx nn lt (wI.mp (ve.mp hw).1);have h2:=qE (vX (lO a0 (aC (bE xs) (wx xs.length)).length)) h1;have h3:=pC a0 b0 (aC (bE xs) (wx xs.length)).length
   grind) j z'
  have:=(ve.mp this.1).2;simp only[hend,decide_true,WG]at this;cases this
 have hlen:=jc a b xs
 have hg:(cV a b xs).getD j 0=0:=by
  unfold cV;rw[mP (by lia),if_neg hnot]
 rw[<- hg];exact cU (by lia)
structure cz(xs:List Rat):Prop where
 nn:∀x∈xs,0<=x
 lt:∀x∈xs,x<1
theorem cz.mi{a b:Rat}(a0:0<a)(b0:0<=b){xs:List Rat}(h:cz xs):cz (cV a b xs):=⟨λy hy=>(Jy a0 b0 h.nn h.lt y hy).1,λy hy=>(Jy a0 b0 h.nn h.lt y hy).2⟩
theorem cz.at{a b:Rat}(a0:0<a)(b0:0<=b){xs:List Rat}(h:cz xs):∀k,cz (aj a b xs k)
 | 0=>h
 | k+1=>(cz.at a0 b0 h k).mi a0 b0
theorem cz.zero{a b:Rat}(a0:0<a)(b0:0<=b){xs:List Rat}(h:cz xs)(h1:1<=xs.length){k:Nat}(hk:1<=k):0∈aj a b xs k:=by
 obtain⟨j,rfl⟩:∃j,k=j+1:=⟨k-1,by lia⟩;have:=h.at a0 b0 j;exact zrd a0 b0 (by rw[bP];exact h1) this.nn this.lt
theorem DI{xs:List Rat}(h:cz xs)(h0:0∈xs):(ai xs).dropLast++[0]=ai xs:=by
 have hm:=p5 h0;have hne:ai xs≠[]:=λe=>by rw[e]at hm;cases hm
 have hpw:(ai xs).Pairwise (· > ·):=iD _ _
 have hl:(ai xs).getLast hne=0:=by
  have h1:=h.nn _ (jw (List.getLast_mem hne))
  have h2:(ai xs).getLast hne<=0:=by
   have e:=QX hne;rw[<- e]at hm hpw;rcases We.mp hm with z | z
   ·have:=(qM.mp hpw).2.2 0 z _ (w5.mpr rfl)
    exact vX this
   ·rw[<- w5.mp z];exact W1
  grind
 have:=QX hne;rw[hl]at this;exact this
theorem nO{xs:List Rat}(h1:1<=xs.length):1<=(ai xs).length:=by
 have:=p5 (cU (d:=0) (show 0<xs.length by lia));exact qt this
theorem oS(xs:List Rat):(aE xs).length=(ai xs).length:=by unfold aE;rw[wm]
theorem sk(xs:List Rat):∀n∈aE xs,0<=n:=λn hn=>by
 obtain⟨v,_,rfl⟩:=wS.mp hn
 lia
structure zDt(a b:Rat)(xs:List Rat):Prop where
 gJ:∀t,t<(ai xs).length->cf a b (aj a b xs t)=[eQ xs ((ai xs).getD t 0)]
 vals:ai (aj a b xs (ai xs).length)=aQ a b (aE xs) (ai xs) (ai xs).length
 Iz:aE (aj a b xs (ai xs).length)=aE xs
 hour:aS a b xs (ai xs).length=e_ a b (aE xs) (ai xs) (ai xs).length
theorem Pd{α : Type}(g h : α -> Nat):∀l:List α,(l.map λv=>g v+h v).sum=(l.map g).sum+(l.map h).sum
 | []=>rfl
 | x::l=>by
  simp only[vb,Vu,Pd g h l]
  lia
theorem Me(x:Rat):∀vs:List Rat,vs.Nodup->(vs.map λv=>if x=v then 1 else 0).sum<=1
 | [],_=>by simp
 | v::vs,nd=>by
  have⟨h1,h2⟩:=W3.mp nd;rw[vb,Vu]
  by_cases e:x=v
  ·have z:(vs.map λv=>if x=v then 1 else 0).sum=0:=by
    have:∀ws:List Rat,(∀y∈ws,x≠y)->(ws.map λv=>if x=v then 1 else 0).sum=0:=by
     intro ws
     induction ws with
     | nil=>intro _;rfl
     | cons y ws ih =>
      intro hy;rw[vb,Vu,if_neg (hy y (wC ..)),ih λz hz=>hy z (wy _ hz)]
    exact this vs λy hy z=>h1 (by rw[<- e,z];exact hy)
   rw[z,if_pos e]
   lia
  ·have:=Me x vs h2
   rw[if_neg e];lia
theorem NV(f:Nat->Rat)(vs:List Rat)(nd:vs.Nodup):∀l:List Nat,(vs.map λv=>(l.filter λw=>decide (f w=v)).length).sum<=l.length
 | []=>by
  have:∀ws:List Rat,(ws.map λv=>(([]:List Nat).filter λw=>decide (f w=v)).length).sum=0:=by
   intro ws
   induction ws with
   | nil=>rfl
   | cons y ws ih=>rw[vb,Vu,ih];rfl
  rw[this];exact wp _
 | w::l=>by
  have ih:=NV f vs nd l
  have e:(vs.map λv=>((w::l).filter λw=>decide (f w=v)).length)=vs.map λv=>(if f w=v then 1 else 0)+(l.filter λw=>decide (f w=v)).length:=by
   refine qf λv _=>?_
   rw[WX]
   by_cases z:f w=v
   ·rw[if_pos (by simp[z]),if_pos z,vo];lia
   ·rw[if_neg (by simp[z]),if_neg z];lia
  rw[e,Pd,vo];have:=Me (f w) vs nd
  lia
theorem ET(xs:List Rat):(ai xs).Nodup:=(iD xs.length xs).imp λ{x y} h=>by
 have h:y<x:=h;intro e;rw[e]at h;exact absurd h (by grind)
theorem Ej(xs:List Rat):((aE xs).map xO).sum<=xs.length:=by
 have:=NV (λw=>xs.getD w 0) (ai xs) (ET xs) (wx xs.length);rw[vy]at this
 have e:(aE xs).map xO=(ai xs).map λv=>((wx xs.length).filter λw=>decide (xs.getD w 0=v)).length:=by
  unfold aE;rw[WH];refine qf λv _=>?_
  show((eQ xs v).length:Int).toNat=_
  rw[wT];rfl
 rw[e];exact this
theorem Fh(xs:List Rat):upTo (aE xs) (aE xs).length<=xs.length:=by
 unfold upTo;rw[WC];exact Ej xs
theorem zs2(xs:List Rat):∀n∈aE xs,0<=n/\n<=xs.length:=λn hn=>by
 obtain⟨v,_,rfl⟩:=wS.mp hn
 have:(eQ xs v).length<=xs.length:=by
  have:=WI (λw=>decide (xs.getD w 0=v)) (wx xs.length);rw[vy]at this;exact this
 lia
theorem kC(xs:List Rat):(ai xs).length<=xs.length:=by
 have h:∀(n:Nat)(l:List Rat),(iR n l).length<=n:=by
  intro n
  induction n with
  | zero=>intro l;exact wp _
  | succ n ih =>
   intro l
   by_cases e:l=[]
   ·rw[e,EW];simp
   ·rw[m4 e,vo]
    have:=ih (l.filter λy=>!decide (y=bX l))
    lia
 exact h _ _
theorem l_{m:Nat}{xs ys:List Rat}(c:Cm m xs)(h:∀y∈ys,y∈xs):Cm m ys:=c.kP λy hy=>.inl (h y hy)
theorem pQ{m:Nat}{xs:List Rat}(c:Cm m xs):Cm m (ai xs).dropLast:=l_ c λy hy=>jw (by rw[Xc]at hy;exact List.mem_of_mem_take hy)
def RV:List Int->List Rat->List Rat
 | n::ns,x::xs=>Qr n.toNat x++RV ns xs
 | _,_=>[]
structure zDm(zs:List Rat)(ns:List Int)(row:List Rat):Prop where
 perm:zs.Perm (RV ns row)
 len:ns.length=row.length
 pos:∀n∈ns,1<=n
 mh:row.Pairwise (· > ·)
theorem zrn{a b:Rat}(a0:0<a)(b0:0<=b){xs:List Rat}(h:cz xs)(h1:1<=xs.length):1<(cf a b xs).length ↔ ¬ dD a b (aE xs) (ai xs) 0<1:=by
 have L:=CL h.nn h.lt;have hv:=nO h1
 constructor
 ·intro hw z
  obtain⟨_,_,_,W⟩:=rl a0 b0 L 1 hv (λs hs=>by have:s=0:=(by lia);rw[this];exact z);have:=W 0 (by lia);have this:cf a b xs=[br xs.length (aO xs) 0]:=this;rw[this]at hw;simp at hw
 ·intro z
  exact MF a0 b0 L (t:=0) (by lia) (λs hs=>by lia) z
def seg(n:Nat)(fl:Nat->Nat)(s t:Nat):List Nat:=(wx n).filter λw=>decide (s<=fl w)&&decide (fl w<t)
theorem hZ{n:Nat}{fl:Nat->Nat}{s t w:Nat} : w∈seg n fl s t ↔ w<n/\s<=fl w/\fl w<t:=by
 unfold seg;rw[ve,wI,w8,decide_eq_true_eq,decide_eq_true_eq]
theorem JM(n:Nat)(fl:Nat->Nat)(s t:Nat):(seg n fl s t).Nodup:=Vc.filter _
theorem zuZ{n:Nat}{fl:Nat->Nat}{s t u:Nat}(h1:s<=t)(h2:t<=u):(seg n fl s t++seg n fl t u).Perm (seg n fl s u):=by
 have e1:(seg n fl s u).filter (λw=>decide (fl w<t))=seg n fl s t:=by
  unfold seg;rw[Qk];refine vP λw _=>?_
  rw[vI];simp only[w8,decide_eq_true_eq]
  lia
 have e2:(seg n fl s u).filter (λw=>!decide (fl w<t))=seg n fl t u:=by
  unfold seg;rw[Qk];refine vP λw _=>?_
  rw[vI];simp only[w8,WT,decide_eq_true_eq,decide_eq_false_iff_not]
  lia
 have:=List.filter_append_perm (λw=>decide (fl w<t)) (seg n fl s u);rw[e1,e2]at this;exact this
theorem Nz(n:Nat)(fl:Nat->Nat)(s:Nat):seg n fl s s=[]:=by
 unfold seg;rw[xW];intro w _;simp only[w8,decide_eq_true_eq]
 lia
inductive jB(n:Nat)(fl:Nat->Nat):Nat->List (List Nat)->Nat->Prop
 | nil (t:Nat):jB n fl t [] t
 | cons {t u v:Nat} {ws:List (List Nat)} : t<u->jB n fl u ws v->jB n fl t (seg n fl t u::ws) v
theorem jB.le{n:Nat}{fl:Nat->Nat}{t v:Nat}{ws:List (List Nat)}(h:jB n fl t ws v):t<=v:=by
 induction h with
 | nil t=>exact wp t
 | cons h _ ih=>lia
theorem jB.perm{n:Nat}{fl:Nat->Nat}{t v:Nat}{ws:List (List Nat)}(h:jB n fl t ws v):ws.flatten.Perm (seg n fl t v):=by
 induction h with
 | nil t=>rw[Nz];exact List.Perm.refl _
 | cons h k ih =>
  rw[X8];exact(List.Perm.append_left _ ih).trans (zuZ (by lia) k.le)
theorem N9(p:Nat->Prop)[DecidablePred p](t:Nat):∀m:Nat,t<=m->(∀c d,t<=c->c<=d->d<m->p d->p c)->∃u,t<=u/\u<=m /\ ∀c,t<=c->c<m->(p c ↔ c<u)
 | 0,h,_=>⟨0,h,wp 0,λc _ hc=>absurd hc (by lia)⟩
 | m+1,h,mono=>by
  rcases wz m t with z | z
  ·exact⟨m+1,h,wp _,λc h1 h2=>absurd h2 (by lia)⟩
  ·by_cases q:p m
   ·exact⟨m+1,h,wp _,λc h1 h2=>⟨λ_=>h2,λ_=>mono c m h1 (by lia) (by lia) q⟩⟩
   ·obtain⟨u,u1,u2,hu⟩:=N9 p t m z (λc d h1 h2 h3=>mono c d h1 h2 (by lia))
    refine⟨u,u1,by lia,λc h1 h2=>?_⟩;rcases wz c m with y | y
    ·exact hu c h1 y
    ·have:c=m:=by lia
     subst this;exact⟨λk=>absurd k q,λk=>absurd k (by lia)⟩
theorem oD{row:List Rat}(F:row.Pairwise (· > ·)){c d:Nat}(h:c<d)(hd:d<row.length):row.getD d 0<row.getD c 0:=by
 have:=vY.mp F c d (by lia) hd h;rw[wa,wc hd,wa,wc (by lia)];exact this
theorem zzw{row:List Rat}(F:row.Pairwise (· > ·)){c d:Nat}(h:c<=d)(hd:d<row.length):row.getD d 0<=row.getD c 0:=by
 rcases wz c d with z | z
 ·exact vX (oD F z hd)
 ·rw[show c=d by lia];exact W1
theorem JY{a b:Rat}(a0:0<a)(b0:0<=b){row:List Rat}{fl:Nat->Nat}{N:Nat}(F:row.Pairwise (· > ·)):∀(n:Nat)(ps:List Rat)(t:Nat)(A B:Rat),t<=row.length->ps.length=N->0<A->(∀w∈seg N fl t row.length,ps.getD w 0=A*row.getD (fl w) 0+B/\0<ps.getD w 0) ->
  ∃(v:Nat)(A' B':Rat),v<=row.length/\0<A'/\jB N fl t (cv a b n ps (seg N fl t row.length)).1 v/\(cv a b n ps (seg N fl t row.length)).2.1=seg N fl v row.length /\
   ∀w∈seg N fl v row.length,(cv a b n ps (seg N fl t row.length)).2.2.getD w 0=A'*row.getD (fl w) 0+B'/\0<A'*row.getD (fl w) 0+B'
 | 0,ps,t,A,B,ht,hl,hA,hw=>⟨t,A,B,ht,hA,.nil t,rfl,λw h=>⟨(hw w h).1,by rw[<- (hw w h).1];exact(hw w h).2⟩⟩
 | n+1,ps,t,A,B,ht,hl,hA,hw=>by
  by_cases e:aC ps (seg N fl t row.length)=[]
  ·rw[mX e]
   exact⟨t,A,B,ht,hA,.nil t,rfl,λw h=>⟨(hw w h).1,by rw[<- (hw w h).1];exact(hw w h).2⟩⟩
  ·obtain⟨u,u1,u2,hu⟩:=N9 (λc=>¬ A*row.getD c 0+B<1) t row.length ht (λc d h1 h2 h3 hp=>by
    have:=QT (zzw F h2 h3) (vX hA);have hp:¬ A*row.getD d 0+B<1:=hp
    show ¬ A*row.getD c 0+B<1
    grind)
   have eE:aC ps (seg N fl t row.length)=seg N fl t u:=by
    unfold aC
    have:(seg N fl t row.length).filter (λw=>!decide (ps.getD w 0<1))=(seg N fl t row.length).filter (λw=>decide (fl w<u)):=by
     refine vP λw h=>?_
     have h1:=hw w h;have h2:=hZ.mp h;rw[vI,WT,decide_eq_false_iff_not,decide_eq_true_eq,h1.1];exact hu (fl w) h2.2.1 h2.2.2
    rw[this];unfold seg;rw[Qk];refine vP λw _=>?_
    rw[vI];simp only[w8,decide_eq_true_eq]
    lia
   have eL:bQ (seg N fl t row.length) (seg N fl t u)=seg N fl u row.length:=by
    unfold bQ
    have:(seg N fl t row.length).filter (λw=>!decide (w∈seg N fl t u))=(seg N fl t row.length).filter (λw=>!decide (fl w<u)):=by
     refine vP λw h=>?_
     have h2:=hZ.mp h;rw[vI,WT,WT,decide_eq_false_iff_not,decide_eq_false_iff_not,hZ]
     constructor
     ·intro k y;exact k ⟨h2.1,h2.2.1,y⟩
     ·intro k y;exact k y.2.2
    rw[this];unfold seg;rw[Qk];refine vP λw _=>?_
    rw[vI];simp only[w8,WT,decide_eq_true_eq,decide_eq_false_iff_not]
    lia
   have htu:t<u:=by
    rcases wz t u with z | z
    ·exact z
    ·have:u=t:=by lia
     rw[eE,this,Nz]at e;exact absurd rfl e
   rw[jg e,eE,eL];have hf:=lO a0 (seg N fl t u).length;have hg:=pC a0 b0 (seg N fl t u).length;generalize a^(seg N fl t u).length=f at *;generalize aB a b (seg N fl t u).length=g at *;have hA':0<f*A:=Vq hf hA
   obtain⟨v,A',B',hv,hA2,hs,hl2,hw2⟩:=JY (fl:=fl) (N:=N) a0 b0 F n (cA f g ps (seg N fl u row.length)) u (f*A) (f*B+g) u2 (by rw[iA];exact hl) hA' (λw h=>by
    have hm:=hZ.mp h;have h1:=hw w (hZ.mpr ⟨hm.1,by lia,hm.2.2⟩);have h3:=Vq hf h1.2;rw[jh _ _ _ _ (JM ..) (λw h=>by rw[hl];exact(hZ.mp h).1),if_pos h];refine⟨by rw[h1.1];grind,by grind⟩)
   exact⟨v,A',B',hv,hA2,.cons htu hs,hl2,hw2⟩
structure l8(xs ys:List Rat)(gJ:List (List Nat))(v:Nat):Prop where
 v1:1<=v
 vm:v<=(ai xs).length
 first:∃ws,gJ=seg xs.length (aO xs) 0 1::ws/\jB xs.length (aO xs) 1 ws v
 vals:∃(A B:Rat),0<A/\ai ys=((ai xs).drop v).map (λx=>A*x+B)++[0]/\(∀x∈(ai xs).drop v,0<A*x+B)
 at':fZ ys (ai ys) (λw=>if aO xs w<v then(ai xs).length-v else aO xs w-v)
 len:ys.length=xs.length
theorem KO{l:List Rat}{v c:Nat} : (l.drop v).getD c 0=l.getD (v+c) 0:=by
 rw[wa,Q7,wa]
theorem nS{xs:List Rat}{c:Nat}(hc:c<(ai xs).length):∃w,w<xs.length/\aO xs w=c:=by
 have hm:(ai xs).getD c 0∈xs:=jw (cU hc);obtain⟨w,hw,e⟩:=wX hm;refine⟨w,hw,(Ed hw hc).mpr ?_⟩;rw[wa,wc hw];exact e
theorem tE{a b:Rat}(a0:0<a)(b0:0<=b){xs:List Rat}(h1:1<=xs.length)(nn:∀x∈xs,0<=x)(lt:∀x∈xs,x<1):∃v,l8 xs (cV a b xs) (cf a b xs) v:=by
 have P:=ku xs;have F:(ai xs).Pairwise (· > ·):=iD xs.length xs;have m1:=nO h1;have top:∀j,j<(ai xs).length->j≠0->(ai xs).getD j 0<(ai xs).getD 0 0:=λj hj h0=>oD F (by lia) hj
 have he:=CW P (nS m1) top;have hmax:=rk P (nS m1) top;have hmx1:bX xs<1:=lt _ (gO h1)
 have e01:br xs.length (aO xs) 0=seg xs.length (aO xs) 0 1:=by
  unfold br seg;refine vP λw _=>?_
  rw[vI];simp only[w8,decide_eq_true_eq]
  lia
 rw[e01]at he
 have hr:wx xs.length=seg xs.length (aO xs) 0 (ai xs).length:=by
  unfold seg
  symm
  rw[List.filter_eq_self];intro w hw;have:=P.lt w (wI.mp hw);simp only[w8,decide_eq_true_eq]
  lia
 have hne:aC (bE xs) (wx xs.length)≠[]:=λe=>by
  obtain⟨w,hw,hf⟩:=nS m1;rw[he]at e;have:w∈seg xs.length (aO xs) 0 1:=hZ.mpr ⟨hw,by lia,by lia⟩;rw[e]at this;cases this
 obtain⟨n,hn⟩:∃n,xs.length=n+1:=⟨xs.length-1,by lia⟩
 have eL:bQ (wx xs.length) (seg xs.length (aO xs) 0 1)=seg xs.length (aO xs) 1 (ai xs).length:=by
  unfold bQ seg;refine vP λw hw=>?_
  have h2:=P.lt w (wI.mp hw);rw[vI,WT,decide_eq_false_iff_not]
  have:w∈(wx xs.length).filter (λw=>decide (0<=aO xs w)&&decide (aO xs w<1)) ↔ aO xs w<1:=by
   rw[ve,w8,decide_eq_true_eq,decide_eq_true_eq];exact⟨λh=>h.2.2,λh=>⟨hw,by lia,h⟩⟩
  rw[this];simp only[w8,decide_eq_true_eq]
  lia
 have hf:=lO a0 (seg xs.length (aO xs) 0 1).length;have hg:=pC a0 b0 (seg xs.length (aO xs) 0 1).length
 have eR:d_ a b xs=(seg xs.length (aO xs) 0 1::(cv a b n (cA (a^(seg xs.length (aO xs) 0 1).length) (aB a b (seg xs.length (aO xs) 0 1).length) (bE xs) (seg xs.length (aO xs) 1 (ai xs).length)) (seg xs.length (aO xs) 1 (ai xs).length)).1,(cv a b n (cA (a^(seg xs.length (aO xs) 0 1).length) (aB a b (seg xs.length (aO xs) 0 1).length) (bE xs) (seg xs.length (aO xs) 1 (ai xs).length)) (seg xs.length (aO xs) 1 (ai xs).length)).2):=by
  unfold d_;have e:cv a b xs.length (bE xs) (wx xs.length)=cv a b (n+1) (bE xs) (wx xs.length):=by rw[<- hn]
  rw[e,jg hne,he,eL]
 generalize a^(seg xs.length (aO xs) 0 1).length=f at *;generalize aB a b (seg xs.length (aO xs) 0 1).length=g at *
 obtain⟨v,A,B,hv,hA,hs,hl2,hw2⟩:=JY (fl:=aO xs) (N:=xs.length) a0 b0 F n (cA f g (bE xs) (seg xs.length (aO xs) 1 (ai xs).length)) 1 f (f*(1-bX xs)+g) m1 (by rw[iA,fh]) hf (λw h=>by
  have hm:=hZ.mp h;rw[jh _ _ _ _ (JM ..) (λw h=>by rw[fh];exact(hZ.mp h).1),if_pos h]
  have e:(bE xs).getD w 0=(ai xs).getD (aO xs w) 0+(1-bX xs):=by
   unfold bE;rw[yC hm.1,P.at' w hm.1]
  have hx:=nn _ (cU (d:=0) hm.1);rw[P.at' w hm.1]at hx;have h3:=Vq hf (show 0<(ai xs).getD (aO xs w) 0+(1-bX xs) by grind);rw[e];exact⟨by grind,by grind⟩)
 have v1:=hs.le
 have ePh:∀w,w<xs.length->(cV a b xs).getD w 0=if aO xs w<v then 0 else A*(ai xs).getD (aO xs w) 0+B:=λw hw=>by
  have hpl:(d_ a b xs).2.2.length=xs.length:=by unfold d_;rw[pe,fh]
  unfold cV;rw[mP (by lia),eR]
  show(if w∈(cv a b n _ _).2.1 then _ else _)=_
  rw[hl2]
  by_cases z:aO xs w<v
  ·rw[if_neg (λh=>by have:=(hZ.mp h).2.1;lia),if_pos z]
  ·have hmem:w∈seg xs.length (aO xs) v (ai xs).length:=hZ.mpr ⟨hw,by lia,P.lt w hw⟩
   rw[if_pos hmem,if_neg z];exact(hw2 w hmem).1
 have posd:∀x∈(ai xs).drop v,0<A*x+B:=λx hx=>by
  obtain⟨c,hc,e⟩:=wX hx;rw[Wa]at hc;obtain⟨w,hw,hfw⟩:=nS (xs:=xs) (c:=v+c) (by lia);have:=(hw2 w (hZ.mpr ⟨hw,by lia,P.lt w hw⟩)).2;rw[hfw,<- KO,wa,wc (by rw[Wa];lia)]at this;rw[<- e];exact this
 have rlen:(((ai xs).drop v).map (λx=>A*x+B)++[0]).length=(ai xs).length-v+1:=by simp
 have rget:∀c,c<(ai xs).length-v->(((ai xs).drop v).map (λx=>A*x+B)++[0]).getD c 0=A*(ai xs).getD (v+c) 0+B:=λc hc=>by
  rw[wa,Wf (by simp;lia),<- wa,yC (by rw[Wa];lia),KO]
 have rlast:(((ai xs).drop v).map (λx=>A*x+B)++[0]).getD ((ai xs).length-v) 0=0:=by
  rw[wa,vH (by simp)];simp
 have P2:fZ (cV a b xs) (((ai xs).drop v).map (λx=>A*x+B)++[0]) (λw=>if aO xs w<v then(ai xs).length-v else aO xs w-v):=by
  refine⟨λw hw=>?_,λw hw=>?_⟩
  ·rw[jc]at hw
   rw[ePh w hw];have:=P.lt w hw
   by_cases z:aO xs w<v
   ·simp only[z,if_true]
    exact rlast.symm
   ·simp only[z,if_false]
    rw[rget _ (by lia),show v+(aO xs w-v)=aO xs w by lia]
  ·rw[jc]at hw
   have:=P.lt w hw;rw[rlen]
   show(if aO xs w<v then _ else _)<_
   split<;>lia
 have F2:(((ai xs).drop v).map (λx=>A*x+B)++[0]).Pairwise (· > ·):=by
  rw[qM];refine⟨?_,xI _ _,λx hx y hy=>?_⟩
  ·rw[qz]
   refine(UM F).imp λ{x y} h=>?_
   have:=qS (show y<x from h) hA
   show A*y+B<A*x+B
   grind
  ·obtain⟨z,hz,rfl⟩:=wS.mp hx
   rw[w5.mp hy];exact posd z hz
 have eV:ai (cV a b xs)=((ai xs).drop v).map (λx=>A*x+B)++[0]:=CO P2 F2 λc hc=>by
  rw[rlen]at hc;rcases wz c ((ai xs).length-v)with z | z
  ·obtain⟨w,hw,hfw⟩:=nS (xs:=xs) (c:=v+c) (by lia)
   refine⟨w,by rw[jc];exact hw,?_⟩
   show(if aO xs w<v then _ else _)=_
   rw[hfw,if_neg (by lia)]
   lia
  ·obtain⟨w,hw,hfw⟩:=nS m1
   refine⟨w,by rw[jc];exact hw,?_⟩
   show(if aO xs w<v then _ else _)=_
   rw[hfw,if_pos (by lia)]
   lia
 refine⟨v,v1,hv,⟨_,by unfold cf;rw[eR],hs⟩,⟨A,B,hA,eV,posd⟩,by rw[eV];exact P2,jc ..⟩
def kE(xs:List Rat):List (List Nat):=(ai xs).map (eQ xs)
theorem gX(xs:List Rat):(kE xs).length=(ai xs).length:=wm ..
theorem KL{ys row:List Rat}{fl:Nat->Nat}(P:fZ ys row fl)(F:row.Pairwise (· > ·)){c:Nat}(hc:c<row.length):eQ ys (row.getD c 0)=br ys.length fl c:=by
 unfold eQ br;refine vP λw hw=>?_
 have hw:=wI.mp hw;rw[vI,decide_eq_true_eq,decide_eq_true_eq,P.at' w hw]
 constructor
 ·intro h
  rcases WS (fl w) c with z | z | z
  ·have:=oD F z hc;rw[h]at this;exact absurd this (by grind)
  ·exact z
  ·have:=oD F z (P.lt w hw);rw[h]at this;exact absurd this (by grind)
 ·rintro rfl;rfl
theorem zrf{xs:List Rat}{c:Nat}(hc:c<(ai xs).length):(kE xs).getD c []=seg xs.length (aO xs) c (c+1):=by
 have h:=KL (ku xs) (iD xs.length xs) hc;unfold kE;rw[wa,wu,wc hc]
 show eQ xs (ai xs)[c]=_
 rw[wa,wc hc]at h;have h:eQ xs (ai xs)[c]=_:=h;rw[h];unfold br seg;refine vP λw _=>?_
 rw[vI];simp only[w8,decide_eq_true_eq]
 lia
theorem l8.new{xs ys:List Rat}{gJ:List (List Nat)}{v:Nat}(J:l8 xs ys gJ v):kE ys=(kE xs).drop v++[seg xs.length (aO xs) 0 v]:=by
 obtain⟨A,B,hA,eV,pos⟩:=J.vals;have F2:(ai ys).Pairwise (· > ·):=iD ys.length ys;have hlen:(ai ys).length=(ai xs).length-v+1:=by rw[eV];simp
 have v1:=J.v1;have vm:=J.vm;refine WM (by rw[gX,hlen,wZ,Wa,gX];rfl) λc h1 h2=>?_
 rw[gX,hlen]at h1
 have e1:(kE ys)[c]'(by rw[gX];lia)=br xs.length (λw=>if aO xs w<v then(ai xs).length-v else aO xs w-v) c:=by
  have:=KL J.at' F2 (c:=c) (by lia);rw[J.len]at this;rw[<- this];unfold kE;rw[WY,wa,wc (by lia)]
  rfl
 rw[e1];rcases wz c ((ai xs).length-v)with z | z
 ·rw[List.getElem_append_left (by rw[Wa,gX];lia),X6]
  have hg:=zrf (xs:=xs) (c:=v+c) (by lia);rw[wa,wc (by rw[gX];lia)]at hg;have hg:(kE xs)[v+c]'(by rw[gX];lia)=_:=hg;rw[hg];unfold br seg;refine vP λw hw=>?_
  have:=(ku xs).lt w (wI.mp hw);rw[vI];simp only[w8,decide_eq_true_eq]
  split<;>lia
 ·rw[List.getElem_append_right (by rw[Wa,gX];lia)]
  have hc:c=(ai xs).length-v:=by lia
  simp only[List.getElem_singleton];unfold br seg;refine vP λw hw=>?_
  have:=(ku xs).lt w (wI.mp hw);rw[vI];simp only[w8,decide_eq_true_eq]
  split<;>lia
theorem l8.perm{xs ys:List Rat}{gJ:List (List Nat)}{v:Nat}(J:l8 xs ys gJ v):gJ.flatten.Perm (seg xs.length (aO xs) 0 v):=by
 obtain⟨ws,e,s⟩:=J.first;rw[e];exact(jB.cons (by decide) s).perm
theorem l8.more{xs ys:List Rat}{gJ:List (List Nat)}{v:Nat}(J:l8 xs ys gJ v):1<gJ.length ↔ 1<v:=by
 obtain⟨ws,e,s⟩:=J.first;rw[e];cases s with
 | nil=>simp
 | cons h k=>have:=k.le;simp;lia
theorem DB(F s:Rat):∀n:Nat,aB F s n=aB F 1 n*s
 | 0=>by show(0:Rat)=0*s;rw[Rat.zero_mul]
 | n+1=>by
  show F*aB F s n+s=(F*aB F 1 n+1)*s
  rw[DB F s n]
  grind
theorem Af{k:Nat}{F:Rat}(h:ag k F):∀i:Nat,∃T:Int,aB F 1 i=wB T ((F.den:Int)^i)/\Bd ((k+1)*i+1) T/\Bd (k*i+1) ((F.den:Int)^i)
 | 0=>⟨0,by simp[aB],⟨by simp⟩,⟨by simp⟩⟩
 | i+1=>by
  obtain⟨T,e,bT,bd⟩:=Af h i;have hd:(F.den:Int)^i≠0:=qk (fU F);have hd1:(F.den:Int)^(i+1)≠0:=qk (fU F);have ed:(F.den:Int)^(i+1)=(F.den:Int)^i*(F.den:Int):=QJ ..
  have bd1:Bd (k*(i+1)+1) ((F.den:Int)^(i+1)):=by
   rw[ed];exact(bd.mul h.b).mono (by rw[Qi];lia)
  refine⟨F.num*T+(F.den:Int)^(i+1),?_,?_,bd1⟩
  ·symm
   refine fL hd1 ?_
   show(F*aB F 1 i+1)*_=_
   rw[e];have k1:=cy T hd;have k2:=kK F
   have e1:((F.num*T+(F.den:Int)^(i+1):Int):Rat)=(F.num:Rat)*(T:Rat)+(((F.den:Int)^(i+1):Int):Rat):=by
    rw[QI,Wq]
   rw[e1,<- k1,<- k2,ed,Wq];generalize (((F.den:Int)^i:Int):Rat)=D;generalize ((F.den:Int):Rat)=d;generalize wB T ((F.den:Int)^i)=y
   grind
  ·have h1:(k+1)*(i+1)=(k+1)*i+(k+1):=Qi ..
   have h2:k*(i+1)<=(k+1)*i+k:=by rw[Qi];have:=Wj i (show k<=k+1 by lia);lia
   exact((h.t.mul bT).add bd1).mono (by lia)
theorem Rk{k:Nat}{F:Rat}(h:ag k F)(i:Nat):ag ((k+1)*i+1) (aB F 1 i):=by
 obtain⟨T,e,bT,bd⟩:=Af h i;rw[e];exact ag.divInt (qk (fU F)) bT (bd.mono (by have:=Wj i (show k<=k+1 by lia);lia))
def fb(F s:Rat)(n:Nat)(x:Rat):Rat:=F^n*x+aB F 1 n*s
theorem pN(F s:Rat)(n:Nat)(x:Rat):fb F s n x=push F s n x:=by
 unfold fb;rw[iC,<- DB]
theorem U5(F s:Rat)(m n:Nat)(x:Rat):fb F s (m+n) x=fb F s n (fb F s m x):=by
 rw[pN,pN,pN,zx4]
theorem zvf(F s x:Rat):fb F s 0 x=x:=by rw[pN];rfl
theorem UU(F s x:Rat):fb F s 1 x=F*x+s:=by rw[pN];rfl
theorem MA{F s r:Rat}(h:r*(1-F)=s):∀k:Nat,aB F s k=r-F^k*r
 | 0=>by rw[VH,ur];show(0:Rat)=r-r;grind
 | k+1=>by
  show F*aB F s k+s=_
  rw[MA h k,WO]
  grind
theorem zws{F s r:Rat}(h:r*(1-F)=s)(n:Nat)(x:Rat):fb F s n x=r+F^n*(x-r):=by
 unfold fb;rw[<- DB,MA h]
 grind
theorem Cm.TL{m:Nat}{h:Rat}{xs:List Rat}{a b:Rat}(c:Cm m (h::xs))(ba:ag 10 a)(bb:ag 10 b)(n i:Nat):Cm (m+2+21*n) ((h+(1-xs.getD i 0))::dE a b n xs i):=by
 obtain⟨B,h0,h1,h2⟩:=c
 have hz:∃z:Int,xs.getD i 0=wB z B/\Bd m z:=by
  rcases wz i xs.length with q | q
  ·rw[wa,wc q]
   exact h2 _ (wy _ (vO q))
  ·rw[wa,wE q]
   exact⟨0,by simp,⟨by simp;exact Wr m⟩⟩
 obtain⟨z,ez,hz⟩:=hz;have key:=λ(t:Int)(ht:Bd m t)=>pF ba bb h0 (show Bd (m+2) (t+B-z)from((ht.add h1).sub hz).mono (by lia)) (h1.mono (by lia)) n
 have e2:∀t:Int,wB t B+(1-xs.getD i 0)=wB (t+B-z) B:=λt=>by
  rw[ez]
  symm
  refine fL (by lia) ?_;have q1:=cy t (show B≠0 by lia);have q2:=cy z (show B≠0 by lia);have q3:((t+B-z:Int):Rat)=(t:Rat)+(B:Rat)-(z:Rat):=by push_cast;rfl
  rw[q3,<- q1,<- q2]
  grind
 obtain⟨p1,p2,_⟩:=key 0 ⟨by simp;exact Wr m⟩;refine⟨_,p1,p2,λx hx=>?_⟩;rcases wQ.mp hx with rfl | hx
 ·obtain⟨t,et,ht⟩:=h2 h (wC ..)
  have hd:(0:Int)<((a.den:Int)*(b.den:Int))^n:=ut (Wd (den_pos a) (den_pos b));refine⟨(t+B-z)*((a.den:Int)*(b.den:Int))^n,?_,zL ba bb (((ht.add h1).sub hz).mono (by lia)) n⟩;rw[et,e2 t];exact p7 h0 hd
 ·have hx':x=0 \/ ∃y∈xs,x=push a b n (y+(1-xs.getD i 0)):=by
   unfold dE at hx;rcases xw hx with q | q
   ·obtain⟨y,hy,rfl⟩:=wS.mp q
    exact .inr ⟨y,hy,rfl⟩
   ·exact .inl q
  rcases hx' with rfl | ⟨y,hy,rfl⟩
  ·exact⟨0,by simp,⟨by simp;exact Wr _⟩⟩
  ·obtain⟨t,rfl,ht⟩:=h2 y (wy _ hy)
   obtain⟨_,_,T,e,hT⟩:=key t ht;rw[e2 t];exact⟨T,e,hT⟩
theorem Cm.Iu{m:Nat}{xs:List Rat}{a b:Rat}{ns:List Int}(c:Cm m xs)(ba:ag 10 a)(bb:ag 10 b):∀k,k<=ns.length->Cm (m+2*k+21*upTo ns k) (e_ a b ns xs k::aQ a b ns xs k)
 | 0,_=>(c.mono (by lia)).kP λy hy=>by
  rcases wQ.mp hy with rfl | hy
  ·exact .inr rfl
  ·exact .inl hy
 | k+1,hk=>by
  have:=(Cm.Iu c ba bb (ns:=ns) k (by lia)).TL ba bb (ns.getD k 0).toNat k;rw[aQ,e_];refine this.mono ?_;rw[mD (by lia)]
  lia
def eY(c:Rat)(xs ys:List Rat):List Rat:=List.zipWith (λx y=>x+c*(y-x)) xs ys
theorem mz{c:Rat}{xs ys:List Rat}(h:xs.length=ys.length):(eY c xs ys).length=xs.length:=by unfold eY;rw[Xz];lia
theorem gR{c:Rat}{xs ys:List Rat}(h:xs.length=ys.length){i:Nat}(hi:i<xs.length):(eY c xs ys).getD i 0=xs.getD i 0+c*(ys.getD i 0-xs.getD i 0):=by
 unfold eY;rw[wa,wc (by rw[Xz];lia),List.getElem_zipWith,wa,wc hi,wa,wc (by lia)]
 rfl
theorem je{xs ys:List Rat}(hl:xs.length=ys.length)(h:∀i,i<xs.length->xs.getD i 0=ys.getD i 0):xs=ys:=WM hl λi h1 h2=>by
 have:=h i h1;rw[wa,wa,wc h1,wc h2]at this;exact this
theorem zw1(a b:Rat)(n:Nat)(c:Rat){xs ys:List Rat}(h:xs.length=ys.length){i:Nat}(hi:i<xs.length):dE a b n (eY c xs ys) i=eY c (dE a b n xs i) (dE a b n ys i):=by
 have hl:=mz (c:=c) h;refine je (by rw[ic,hl,mz (by rw[ic,ic];exact h),ic]) λj hj=>?_
 rw[ic,hl]at hj;have hg:=gR (c:=c) (xs:=dE a b n xs i) (ys:=dE a b n ys i) (by rw[ic,ic];exact h) (i:=j) (by rw[ic];exact hj);rw[hg,gv _ _ _ _ _ _ (by lia),gv _ _ _ _ _ _ hj,gv _ _ _ _ _ _ (show j<ys.length by lia)]
 by_cases z:j=i
 ·rw[if_pos z,if_pos z,if_pos z];grind
 ·rw[if_neg z,if_neg z,if_neg z,gR h hj,gR h hi,iC,iC,iC]
  grind
theorem D_(a b:Rat)(ns:List Int)(c:Rat){xs ys:List Rat}(h:xs.length=ys.length):∀k,k<=xs.length->aQ a b ns (eY c xs ys) k=eY c (aQ a b ns xs k) (aQ a b ns ys k)
 | 0,_=>rfl
 | k+1,hk=>by
  have ih:=D_ a b ns c h k (by lia);rw[aQ,ih,aQ,aQ];exact zw1 a b _ c (by rw[cH,cH];exact h) (by rw[cH];lia)
theorem Jq(a b:Rat)(ns:List Int)(c:Rat){xs ys:List Rat}(h:xs.length=ys.length):∀k,k<=xs.length->e_ a b ns (eY c xs ys) k=e_ a b ns xs k+c*(e_ a b ns ys k-e_ a b ns xs k)
 | 0,_=>by show(0:Rat)=0+c*(0-0);grind
 | k+1,hk=>by
  rw[e_,e_,e_,Jq a b ns c h k (by lia),D_ a b ns c h k (by lia),gR (by rw[cH,cH];exact h) (by rw[cH];lia)]
  grind
theorem Ll(c:Rat){xs ys:List Rat}(h:xs.length=ys.length):eY c (xs++[0]) (ys++[0])=eY c xs ys++[0]:=by
 unfold eY;rw[List.zipWith_append h]
 show _++[0+c*(0-0)]=_
 congr 2
 grind
def eZ(a b:Rat)(ns:List Int)(xs:List Rat):Rat:=e_ a b ns (xs++[0]) ns.length
theorem zxU{a b:Rat}{ns:List Int}(c:Rat){xs ys:List Rat}(hn:ns.length=xs.length+1)(h:xs.length=ys.length):eZ a b ns (eY c xs ys)=eZ a b ns xs+c*(eZ a b ns ys-eZ a b ns xs):=by
 unfold eZ;rw[<- Ll c h];exact Jq a b ns c (by simp[h]) _ (by simp;lia)
def sumTo(f:Nat->Rat):Nat->Rat
 | 0=>0
 | n+1=>sumTo f n+f n
theorem tD{f g:Nat->Rat} : ∀n,(∀k,k<n->f k=g k)->sumTo f n=sumTo g n
 | 0,_=>rfl
 | n+1,h=>by rw[sumTo,sumTo,tD n λk hk=>h k (by lia),h n (by lia)]
theorem Dh(c:Rat)(f:Nat->Rat):∀n,sumTo (λk=>c*f k) n=c*sumTo f n
 | 0=>by show(0:Rat)=c*0;grind
 | n+1=>by rw[sumTo,sumTo,Dh c f n];grind
theorem OO(f g:Nat->Rat):∀n,sumTo (λk=>f k+g k) n=sumTo f n+sumTo g n
 | 0=>by show(0:Rat)=0+0;grind
 | n+1=>by rw[sumTo,sumTo,sumTo,OO f g n];grind
theorem OB(F:Rat):∀n,sumTo (λk=>F^k) n=aB F 1 n
 | 0=>rfl
 | n+1=>by
  rw[sumTo,OB F n]
  have:∀m,aB F 1 m*F+1=aB F 1 m+F^m:=λm=>by
   induction m with
   | zero=>rw[VH];show(0:Rat)*F+1=0+1;grind
   | succ m ih =>
    show(F*aB F 1 m+1)*F+1=(F*aB F 1 m+1)+F^(m+1)
    rw[WO]
    grind
  have:=this n
  show aB F 1 n+F^n=F*aB F 1 n+1
  grind
theorem MN{a b:Rat}{ns:List Int}{L:Nat}(hn:ns.length=L+1)(X:Nat->List Rat)(hX:∀k,(X k).length=L):∀(n:Nat)(M:List Rat),1<=n->M.length=L->(∀i,i<L->M.getD i 0*((n:Int):Rat)=sumTo (λk=>(X k).getD i 0) n)->((n:Int):Rat)*eZ a b ns M=sumTo (λk=>eZ a b ns (X k)) n
 | 0,M,h,_,_=>by lia
 | n+1,M,_,hM,hs=>by
  have en:(((n+1:Nat):Int):Rat)=((n:Int):Rat)+1:=by push_cast;rfl
  by_cases z:n=0
  ·subst z
   have e1:(((0+1:Nat):Int):Rat)=1:=by decide
   have:M=X 0:=je (by rw[hM,hX]) λi hi=>by
    have:=hs i (by lia);rw[e1]at this;have e2:sumTo (λk=>(X k).getD i 0) (0+1)=(X 0).getD i 0:=by rw[sumTo,sumTo];grind
    rw[e2]at this
    grind
   rw[this,e1]
   show 1*eZ a b ns (X 0)=0+eZ a b ns (X 0)
   grind
  ·have hn0:((n:Int):Rat)≠0:=λe=>z (by have:=Vv.mp e;lia)
   have hn1:((n:Int):Rat)+1≠0:=λe=>by
    rw[<- en]at e;have:=Vv.mp e
    lia
   -- the means of the first ones
   let M':List Rat:=(wx L).map λi=>sumTo (λk=>(X k).getD i 0) n / ((n:Int):Rat)
   have hl':M'.length=L:=by simp[M']
   have g':∀i,i<L->M'.getD i 0=sumTo (λk=>(X k).getD i 0) n / ((n:Int):Rat):=λi hi=>by
    show((wx L).map λi=>sumTo (λk=>(X k).getD i 0) n / ((n:Int):Rat)).getD i 0=_
    rw[wa,wu,vZ hi];rfl
   have ih:=MN (a:=a) (b:=b) hn X hX n M' (by lia) hl' λi hi=>by rw[g' i hi];exact WL hn0
   have eM:M=eY (1 / (((n:Int):Rat)+1)) M' (X n):=je (by rw[hM,mz (by rw[hl',hX]),hl']) λi hi=>by
    rw[gR (by rw[hl',hX]) (by lia),g' i (by lia)];have h1:=hs i (by lia);rw[en,sumTo]at h1;generalize sumTo (λk=>(X k).getD i 0) n=S at *;generalize (X n).getD i 0=y at *;generalize M.getD i 0=m at *;generalize ((n:Int):Rat)=N at *;have k1:S / N*N=S:=WL hn0;have k2:1 / (N+1)*(N+1)=1:=WL hn1;generalize S / N=q at *;generalize 1 / (N+1)=r at *;have:(m-(q+r*(y-q)))*(N+1)=0:=by grind
    rcases Qb.mp this with h | h
    ·grind
    ·exact absurd h hn1
   rw[eM,zxU _ (by lia) (by rw[hl',hX]),sumTo,<- ih,en];generalize eZ a b ns M'=A;generalize eZ a b ns (X n)=B;generalize ((n:Int):Rat)=N at *;have k2:1 / (N+1)*(N+1)=1:=WL hn1;generalize 1 / (N+1)=r at *
   grind
end GM
namespace L2
open PySem PySem.Spec PyProof.Rows GM
section
variable{K:wb}{H H' H2:Hp}{a p:wf}{xs ys:List V}{o:HO}
theorem ah.upd(h:H p=none):ah H (upd H p o):=λb u e=>by
 rw[d7 (jN e h)];exact e
theorem ah.iV(s:ah H H')(h:aR K H a xs):aR K H' a xs:=by
 rcases h with(h | ⟨o,h⟩) | h
 ·exact .inl (.inl (s _ _ h))
 ·exact .inl (.inr ⟨o,s _ _ h⟩)
 ·exact .inr h
structure bo(H H':Hp):Prop where
 t:∀b xs,H b=some (.tup xs)->H' b=some (.tup xs)
 f:∀b o u,H b=some (.fo o u)->H' b=some (.fo o u)
theorem ah.keep(s:ah H H'):bo H H':=⟨λb xs h=>s _ _ h,λb o u h=>s _ _ h⟩
theorem bo.refl(H:Hp):bo H H:=(ah.refl H).keep
theorem bo.trans(a:bo H H')(b:bo H' H2):bo H H2:=⟨λc xs h=>b.t _ _ (a.t _ _ h),λc o u h=>b.f _ _ _ (a.f _ _ _ h)⟩
theorem bo.iV(k:bo H H')(h:aR K H a xs):aR K H' a xs:=by
 rcases h with(h | ⟨o,h⟩) | h
 ·exact .inl (.inl (k.t _ _ h))
 ·exact .inl (.inr ⟨o,k.f _ _ _ h⟩)
 ·exact .inr h
def jT(K:wb)(H:Hp)(a:wf)(xs:List V):Prop :=
 (∃o,H a=some (.fo o (.lst xs))) \/
  ∃(o:Obj)(its:Array wg)(n:Nat),K.lookup a=some o/\o.cls=.type "list"/\o.dict=none/\o.data=.seq its n/\its.size<=vd/\aP xs its.toList
theorem jT.sq(h:jT K H a xs):aI K H a xs:=by
 rcases h with⟨o,h⟩ | h
 ·exact .inl (.inr ⟨o,h⟩)
 ·exact .inr h
theorem bo.Mq(k:bo H H')(h:jT K H a xs):jT K H' a xs:=by
 rcases h with⟨o,h⟩ | h
 ·exact .inl ⟨o,k.f _ _ _ h⟩
 ·exact .inr h
def Exc(p:wf)(H H':Hp):Prop:=∀b o,b≠p->H b=some o->H' b=some o
theorem Exc.keep(e:Exc p H H')(h:H p=some (.lst xs)):bo H H' :=
 ⟨λb ys hb=>e b _ (Ld hb h (by intro z;cases z)) hb,λb o u hb=>e b _ (Ld hb h (by intro z;cases z)) hb⟩
theorem ah.exc(s:ah H H'):Exc p H H':=λb o _ h=>s b o h
theorem Exc.refl(p:wf)(H:Hp):Exc p H H:=λ_ _ _ h=>h
theorem Exc.trans(a:Exc p H H')(b:Exc p H' H2):Exc p H H2:=λc o n h=>b c o n (a c o n h)
theorem Exc.upd(p:wf)(H:Hp)(o:HO):Exc p H (upd H p o):=λb u n h=>by
 rw[d7 n];exact h
theorem Exc.at(e:Exc p H H'){q:wf}{u:HO}(n:q≠p)(h:H q=some u):H' q=some u:=e q u n h
end
mutual
def Is(K:wb)(H:Hp):V->wF->Prop
 | v,.none=>v=.bG
 | v,.bool b=>v=.bl b
 | v,.int i=>v=.int i
 | v,.str x=>v=.str x
 | v,.tuple ds=>∃a xs,v=.ref a/\aR K H a xs/\ao K H xs ds
 | v,.list ds=>∃a xs,v=.ref a/\aI K H a xs/\ao K H xs ds
 | v,.dict _=>∃a kvs,v=.ref a/\H a=some (.dK kvs)
def ao(K:wb)(H:Hp):List V->List wF->Prop
 | xs,[]=>xs=[]
 | xs,d::ds=>∃x r,xs=x::r/\Is K H x d/\ao K H r ds
end
section
variable{K:wb}{H H':Hp}{v:V}{xs:List V}{ds:List wF}{d:wF}
theorem cb{i:Int} : Is K H v (.int i) ↔ v=.int i:=by rw[Is]
theorem lq{b:Bool} : Is K H v (.bool b) ↔ v=.bl b:=by rw[Is]
theorem eK{x:Str} : Is K H v (.str x) ↔ v=.str x:=by rw[Is]
theorem mO:Is K H v .none ↔ v=.bG:=by rw[Is]
theorem bW:Is K H v (.tuple ds) ↔ ∃a xs,v=.ref a/\aR K H a xs/\ao K H xs ds:=by rw[Is]
theorem cu:Is K H v (.list ds) ↔ ∃a xs,v=.ref a/\aI K H a xs/\ao K H xs ds:=by rw[Is]
theorem yP{kv:List (wF × wF)} : Is K H v (.dict kv) ↔ ∃a kvs,v=.ref a/\H a=some (.dK kvs):=by rw[Is]
theorem fq:ao K H xs [] ↔ xs=[]:=by rw[ao]
theorem dg:ao K H xs (d::ds) ↔ ∃x r,xs=x::r/\Is K H x d/\ao K H r ds:=by rw[ao]
theorem ao.cons(h:Is K H v d)(t:ao K H xs ds):ao K H (v::xs) (d::ds):=dg.mpr ⟨v,xs,rfl,h,t⟩
theorem ao.nil:ao K H [] []:=fq.mpr rfl
theorem ao.length:∀{ds:List wF}{xs:List V},ao K H xs ds->xs.length=ds.length
 | [],_,h=>by rw[fq.mp h];rfl
 | d::ds,_,h=>by
  obtain⟨x,r,rfl,_,t⟩:=dg.mp h;rw[vo,vo,ao.length t]
theorem ao.get:∀{ds:List wF}{xs:List V}{i:Nat}{d:wF},ao K H xs ds->ds[i]? = some d->∃x,xs[i]? = some x/\Is K H x d
 | [],_,_,_,_,e=>by simp at e
 | d::ds,_,0,_,h,e=>by
  obtain⟨x,r,rfl,q,_⟩:=dg.mp h;simp at e;subst e;exact⟨x,rfl,q⟩
 | d::ds,_,i+1,d',h,e=>by
  obtain⟨x,r,rfl,_,t⟩:=dg.mp h;obtain⟨y,h1,h2⟩:=ao.get (i:=i) t (by simpa using e);exact⟨y,by simpa using h1,h2⟩
theorem ao.append:∀{ds es:List wF}{xs ys:List V},ao K H xs ds->ao K H ys es->ao K H (xs++ys) (ds++es)
 | [],_,_,_,h,t=>by rw[fq.mp h];exact t
 | d::ds,_,_,_,h,t=>by
  obtain⟨x,r,rfl,q,u⟩:=dg.mp h;exact .cons q (ao.append u t)
mutual
theorem Is.same(s:ah H H'):∀(d:wF)(v:V),Is K H v d->Is K H' v d
 | .none,v,h=>by rw[mO]at h ⊢;exact h
 | .bool _,v,h=>by rw[lq]at h ⊢;exact h
 | .int _,v,h=>by rw[cb]at h ⊢;exact h
 | .str _,v,h=>by rw[eK]at h ⊢;exact h
 | .tuple ds,v,h=>by
  obtain⟨a,xs,e,q,t⟩:=bW.mp h;exact bW.mpr ⟨a,xs,e,s.iV q,ao.same s ds xs t⟩
 | .list ds,v,h=>by
  obtain⟨a,xs,e,q,t⟩:=cu.mp h;exact cu.mpr ⟨a,xs,e,s.seq q,ao.same s ds xs t⟩
 | .dict _,v,h=>by
  obtain⟨a,kvs,e,q⟩:=yP.mp h;exact yP.mpr ⟨a,kvs,e,s _ _ q⟩
theorem ao.same(s:ah H H'):∀(ds:List wF)(xs:List V),ao K H xs ds->ao K H' xs ds
 | [],xs,h=>by rw[fq]at h ⊢;exact h
 | d::ds,xs,h=>by
  obtain⟨x,r,e,q,t⟩:=dg.mp h;exact dg.mpr ⟨x,r,e,Is.same s d x q,ao.same s ds r t⟩
end
end
/- no list and no dict within -/
mutual
def cO:wF->Bool
 | .none=>true
 | .bool _=>true
 | .int _=>true
 | .str _=>true
 | .tuple ds=>b7 ds
 | .list _=>false
 | .dict _=>false
def b7:List wF->Bool
 | []=>true
 | d::ds=>cO d&&b7 ds
end
section
variable{K:wb}{H H':Hp}
mutual
theorem Is.keep(k:bo H H'):∀(d:wF)(v:V),cO d=true->Is K H v d->Is K H' v d
 | .none,v,_,h=>by rw[mO]at h ⊢;exact h
 | .bool _,v,_,h=>by rw[lq]at h ⊢;exact h
 | .int _,v,_,h=>by rw[cb]at h ⊢;exact h
 | .str _,v,_,h=>by rw[eK]at h ⊢;exact h
 | .tuple ds,v,i,h=>by
  obtain⟨a,xs,e,q,t⟩:=bW.mp h;exact bW.mpr ⟨a,xs,e,k.iV q,ao.keep k ds xs (by rw[cO]at i;exact i) t⟩
 | .list ds,v,i,h=>by rw[cO]at i;cases i
 | .dict _,v,i,h=>by rw[cO]at i;cases i
theorem ao.keep(k:bo H H'):∀(ds:List wF)(xs:List V),b7 ds=true->ao K H xs ds->ao K H' xs ds
 | [],xs,_,h=>by rw[fq]at h ⊢;exact h
 | d::ds,xs,i,h=>by
  obtain⟨x,r,e,q,t⟩:=dg.mp h;rw[b7,w8]at i;exact dg.mpr ⟨x,r,e,Is.keep k d x i.1 q,ao.keep k ds r i.2 t⟩
end
end
def N(r:Rat):wF:=.tuple [.int r.num,.int (r.den:Int)]
theorem lz(r:Rat):cO (N r)=true:=by simp[N,cO,b7]
section
variable{K:wb}{H H':Hp}{v:V}{r:Rat}
theorem kW:Is K H v (N r) ↔ ∃a,v=.ref a/\aR K H a [.int r.num,.int (r.den:Int)]:=by
 unfold N;rw[bW]
 constructor
 ·rintro ⟨a,xs,e,q,t⟩
  obtain⟨x,r1,rfl,q1,t⟩:=dg.mp t;obtain⟨y,r2,rfl,q2,t⟩:=dg.mp t;rw[fq.mp t,cb.mp q1,cb.mp q2]at q;exact⟨a,e,q⟩
 ·rintro ⟨a,e,q⟩
  exact⟨a,_,e,q,.cons (cb.mpr rfl) (.cons (cb.mpr rfl) .nil)⟩
end
section
variable{X:Cx}{pins:List (wf × Obj)}{σ : St}{H:Hp}{s:wl}
mutual
theorem Inv.reads(I:Inv X pins σ H s):∀(d:wF)(v:V)(u:wg),d.canLay0=true->Is X.K H v d->aY v u->∃as,Reads s.heap u d as
 | .none,v,u,_,h,r=>by
  cases mO.mp h;cases (show u=Value.none from r);exact⟨_,.none⟩
 | .bool b,v,u,_,h,r=>by
  cases lq.mp h;cases (show u=Value.bool b from r);exact⟨_,.bool b⟩
 | .int i,v,u,_,h,r=>by
  cases cb.mp h;obtain⟨t,e⟩:=(show ∃t,u=Value.int i t from r);cases e;exact⟨_,.int i t⟩
 | .str x,v,u,_,h,r=>by
  cases eK.mp h;obtain⟨t,e⟩:=(show ∃t,u=Value.str x t from r);cases e;exact⟨_,.str x t⟩
 | .tuple ds,v,u,c,h,r=>by
  obtain⟨a,xs,e,q,t⟩:=bW.mp h;subst e;cases (show u=Value.ref a from r);obtain⟨its,rv,⟨o,e1,e2,n,e3⟩,_⟩:=I.tuple q;obtain⟨as,ra⟩:=Inv.readsAll I ds xs its (by rw[vR]at c;exact c) t rv;exact⟨_,.tuple e1 e2 e3 (by simpa using ra)⟩
 | .list ds,v,u,c,h,r=>by
  obtain⟨a,xs,e,q,t⟩:=cu.mp h;subst e;cases (show u=Value.ref a from r);obtain⟨its,rv,⟨o,n,e1,e2,_,e3⟩,_⟩:=I.list q;obtain⟨as,ra⟩:=Inv.readsAll I ds xs its (by rw[vR]at c;exact c) t rv;exact⟨_,.list e1 e2 e3 (by simpa using ra)⟩
 | .dict _,v,u,c,h,r=>by rw[vR]at c;cases c
theorem Inv.readsAll(I:Inv X pins σ H s):∀(ds:List wF)(xs:List V)(us:List wg),Wn ds=true->ao X.K H xs ds->aP xs us->∃as,ReadsAll s.heap us ds as
 | [],xs,us,_,h,r=>by
  rw[fq.mp h]at r;cases r;exact⟨_,.nil⟩
 | d::ds,xs,us,c,h,r=>by
  obtain⟨x,l,e,q,t⟩:=dg.mp h;subst e;rw[Wn,w8]at c;cases r with
  | cons r1 r2 =>
   obtain⟨as,h1⟩:=Inv.reads I d x _ c.1 q r1;obtain⟨bs,h2⟩:=Inv.readsAll I ds l _ c.2 t r2;exact⟨_,.cons h1 h2⟩
end
end
section
variable{X:Cx}
open PySem.SeqAt (shaped)
def df(K:wb):R2:=λx y H Q=>∃d e,Is K H x d/\Is K H y e/\shaped d=true/\shaped e=true/\Q (.bl (wV d e)) H
def eD(K:wb):R2:=λx y H Q=>∃d e,Is K H x d/\Is K H y e/\shaped d=true/\shaped e=true/\Q (.bl (!PyData.eqv d e)) H
theorem d8(hu:X.A.units+64<WF):aM X (wY .Eq) (df X.K):=by
 intro pins s σ H x y v u Q I rx ry h;obtain⟨d,e,hd,he,sd,se,q⟩:=h;obtain⟨as,h1⟩:=I.reads d x v (VA sd) hd rx;obtain⟨bs,h2⟩:=I.reads e y u (VA se) he ry;exact eq_dataH h1 h2 sd se hu ⟨.bl _,H,I,rfl,q⟩
theorem jy(hu:X.A.units+64<WF):aM X (wY .NotEq) (eD X.K):=by
 intro pins s σ H x y v u Q I rx ry h;obtain⟨d,e,hd,he,sd,se,q⟩:=h;obtain⟨as,h1⟩:=I.reads d x v (VA sd) hd rx;obtain⟨bs,h2⟩:=I.reads e y u (VA se) he ry;exact ne_dataH h1 h2 sd se hu ⟨.bl _,H,I,rfl,q⟩
theorem aY.Tp{x:V}{v:wg}(r:aY x v)(c:Bool):(v == Value.bool c)=decide (x=.bl c):=by
 cases x with
 | bG=>cases (show v=Value.none from r);rfl
 | bl b=>cases (show v=Value.bool b from r);cases b<;>cases c<;>rfl
 | int _=>obtain⟨t,rfl⟩:=r;rfl
 | str _=>obtain⟨t,rfl⟩:=r;rfl
 | byt _=>obtain⟨t,rfl⟩:=r;rfl
 | lG _=>obtain⟨t,rfl⟩:=r;rfl
 | ref _=>cases r;rfl
 | ty _=>cases r;rfl
theorem aY.SY{x:V}{v:wg}(r:aY x v)(c:Bool):plainIs v (Value.bool c)=true:=by
 cases x with
 | bG=>cases (show v=Value.none from r);rfl
 | bl b=>cases (show v=Value.bool b from r);rfl
 | int _=>obtain⟨t,rfl⟩:=r;rfl
 | str _=>obtain⟨t,rfl⟩:=r;rfl
 | byt _=>obtain⟨t,rfl⟩:=r;rfl
 | lG _=>obtain⟨t,rfl⟩:=r;rfl
 | ref _=>cases r;rfl
 | ty _=>cases r;rfl
def OL:R2:=λx y H Q=>(∃c,y=.bl c/\Q (.bl (decide (x=.bl c))) H)\/(y=.bG/\Q (.bl (decide (x=.bG))) H)
theorem Lm:aM X (wY .Is) OL:=by
 intro pins s σ H x y v u Q I rx ry h;rcases h with⟨c,e,q⟩ | h
 ·subst e
  cases (show u=Value.bool c from ry);exact wpAny_is_plain (rx.SY c) (Pt I q (rx.Tp c).symm)
 ·exact zAU pins s σ H x y v u Q I rx ry h
def kindOf:wF->String
 | .none=>"NoneType"
 | .bool _=>"bool"
 | .int _=>"int"
 | .str _=>"str"
 | .tuple _=>"tuple"
 | .list _=>"list"
 | .dict _=>"dict"
def jb(K:wb):List V->Hp->VK->Prop:=λxs H Q=>∃x T d b,xs=[x,.ty T]/\Is K H x d/\wD K (.type (kindOf d)) (.type T)=some b/\Q (.bl b) H
theorem zq:aK X (.builtin "isinstance") (jb X.K):=by
 intro pins s σ H xs us Q I r h;obtain⟨x,T,d,b,rfl,hd,e,q⟩:=h;obtain⟨u,w',rfl,rx,rt⟩:=j9 r;cases (show w'=Value.type T from rt);have fin:∀tk,EP X pins σ Q (.bool b) {s with toks:=tk}:=λtk=>⟨.bl b,H,I.tok _,rfl,q⟩
 cases d with
 | none =>
  cases mO.mp hd;cases (show u=Value.none from rx);exact W4 X9 I.cW True.intro e (λz=>nomatch z) fin
 | bool y =>
  cases lq.mp hd;cases (show u=Value.bool y from rx);exact W4 ua I.cW True.intro e (λz=>nomatch z) fin
 | int i =>
  cases cb.mp hd;obtain⟨t,q⟩:=(show ∃t,u=Value.int i t from rx);cases q;exact W4 uH I.cW True.intro e (λz=>nomatch z) fin
 | str y =>
  cases eK.mp hd;obtain⟨t,q⟩:=(show ∃t,u=Value.str y t from rx);cases q;exact W4 uI I.cW True.intro e (λz=>nomatch z) fin
 | tuple ds =>
  obtain⟨a,xs,e1,hq,_⟩:=bW.mp hd;subst e1;cases (show u=Value.ref a from rx);obtain⟨its,_,⟨o,h1,h2,_⟩,_⟩:=I.tuple hq;exact W4 XR I.cW ⟨o,h1,h2⟩ e (λz=>nomatch z) fin
 | list ds =>
  obtain⟨a,xs,e1,hq,_⟩:=cu.mp hd;subst e1;cases (show u=Value.ref a from rx);obtain⟨its,_,⟨o,n,h1,h2,_⟩,_⟩:=I.list hq;exact W4 ub I.cW ⟨o,h1,h2⟩ e (λz=>nomatch z) fin
 | dict kv =>
  obtain⟨a,kvs,e1,hq⟩:=yP.mp hd;subst e1;cases (show u=Value.ref a from rx);obtain⟨_,_,vs,_,o,es,ep,h1,h2,_⟩:=(show dA X.prog X.w H s.heap a (.dK kvs)from I.aF a _ hq);exact W4 uc I.cW ⟨o,h1,h2.1⟩ e (λz=>nomatch z) fin
def isA(T:String)(d:wF):Bool:=(kindOf d == T) || (kindOf d == "bool"&&T == "int")
theorem zyZ{K:wb}(d:wF):wD K (.type (kindOf d)) (.type "int")=some (isA "int" d):=by cases d<;>rfl
theorem zxW{K:wb}(d:wF):wD K (.type (kindOf d)) (.type "bool")=some (isA "bool" d):=by cases d<;>rfl
theorem zvI{K:wb}(d:wF):wD K (.type (kindOf d)) (.type "tuple")=some (isA "tuple" d):=by cases d<;>rfl
theorem TJ{m n:Nat}{i j:Int}(h:Bd m i)(k:Bd n j)(hm:m<=1000000)(hn:n<=1000000):IntMulOk i j:=by
 have f:∀{m:Nat}{i:Int},Bd m i->m<=1000000->XA i<=2^20:=by
  intro m i h hm;have e:(2:Nat)^20=1048576:=by decide
  have l:=(h.mono (Nat.le_succ m)).log (QL m);unfold XA
  split<;>lia
 exact .of_bits (f h hm) (f k hn)
theorem cj:aM X (Vd .Mult) (rI IntMulOk λi j=>.int (i*j)):=Az λ_ _ _ _ _ _ _ hc q=>mul_int q hc
def kh(_ j:Int):Prop:=j≠0/\Bd 8999 j
theorem fP:aM X (Vd .FloorDiv) (rI kh λi j=>.int (i.fdiv j)):=Az λ_ _ _ _ _ _ _ hc q =>
 floordiv_int hc.1 q (.inl (PyProof.noPylong_of_log2 (W2 (hc.2.log (by decide)))))
theorem zy2:aM X (Vd .Add) (λx y H Q=>(iI λi j=>.int (i+j)) x y H Q\/(EK x y H Q \/ ∃i j,x=.str i/\y=.str j/\i.length+j.length<=vd/\Q (.str (i++j)) H)):=zAE.or (zBA.or ztc)
end
theorem dQ:vU "len"=some (.builtin "len"):=by decide +kernel
theorem nC:vU "abs"=some (.builtin "abs"):=by decide +kernel
theorem fE:vU "isinstance"=some (.builtin "isinstance"):=by decide +kernel
theorem R3:vU "int"=some (.type "int"):=by decide +kernel
theorem zzK:vU "bool"=some (.type "bool"):=by decide +kernel
theorem eG:vU "tuple"=some (.type "tuple"):=by decide +kernel
theorem rB:vU "list"=some (.type "list"):=by decide +kernel
def lW(K:wb)(xs:List V)(H:Hp)(Q:VK):Prop:=xs.length<=vd /\ ∀p,H p=none->Q (.ref p) (upd H p (.tup xs))
def zb(K:wb)(xs:List V)(H:Hp)(Q:VK):Prop:=xs.length<=vd /\ ∀p,H p=none->Q (.ref p) (upd H p (.lst xs))
def RA(K:wb)(t:TA):TE:=λσ H Q=>t σ H λxs H1=>lW K xs H1 Q
def B1(K:wb)(t:TA):TE:=λσ H Q=>t σ H λxs H1=>zb K xs H1 Q
def EZ:R2:=λx y H Q=>(iI λi j=>.int (i+j)) x y H Q\/(EK x y H Q \/ ∃i j,x=.str i/\y=.str j/\i.length+j.length<=vd/\Q (.str (i++j)) H)
def LG:List V->Hp->VK->Prop:=λxs H Q=>∃i:Int,xs=[.int i]/\Q (.int (if i<0 then -i else i)) H
def cP(K:wb):List V->Hp->VK->Prop:=λxs H Q=>∃p ys,xs=[.ref p]/\(aI K H p ys\/aR K H p ys)/\Q (.int ys.length) H
def N_:List V->Hp->VK->Prop:=λxs H Q=>(∃i,xs=[.int i]/\Q (.int i) H) \/ ∃k,xs=[.bl k]/\Q (.int (if k then 1 else 0)) H
section
variable{X:Cx}{e:Expr}{es:List Expr}{te:TE}{t:TA}{pos:Pos}
theorem bC{x1}(h:PA X es t):PE X (.Tuple es x1 pos) (RA X.K t):=zAI h
theorem dC(h:PA X es t):PE X (.List es pos) (B1 X.K t):=Yi h
theorem cN:aM X (Vd .Add) EZ:=zy2
theorem oj:aK X (.builtin "abs") LG:=zwb
theorem eC:aK X (.builtin "len") (cP X.K):=zp5
theorem U1:aK X (.type "int") N_:=Zi
theorem pX{x:Str}{i:Int}{pos:Pos}(hg:Gl X x)(hm:∃t,X.mg x=some (.int i t))(hd:(x == ("__debug__" : Str))=false:=by decide):PE X (.Name x pos) (tC (.int i)):=by
 obtain⟨t,hm⟩:=hm;exact bM hg hm ⟨t,rfl⟩ hd
end
section
variable{K:wb}{σ : St}{H H':Hp}{Q:VK}{QA:List V->Hp->Prop}{QB:Bool->Hp->Prop}{QS:St->Hp->Prop}{QH:Hp->Prop}{D:cq}{ta tb te:TE}{tt tu:TT}{t tr:TA}{s1 s2:TS}{g:TG}{gs:iB}{r:R2}{v w:V}{xs ys:List V}{i:Nat}{m n:Int}
theorem DX(h : σ[i]? = some (some v))(q:Q v H):lX i σ H Q:=⟨v,h,q⟩
theorem zDa(q:Q v H):tC v σ H Q:=q
theorem zCV(h:ta σ H λx H1=>tb σ H1 λy H2=>r x y H2 Q):lU r ta tb σ H Q:=h
theorem Yj{u:V->Hp->VK->Prop}(h:ta σ H λx H1=>u x H1 Q):Ob u ta σ H Q:=h
theorem zBt(h:t σ H λxs H1=>lW K xs H1 Q):RA K t σ H Q:=h
theorem zA7(h:t σ H λxs H1=>zb K xs H1 Q):B1 K t σ H Q:=h
theorem zBy(q:QA [] H):nT σ H QA:=q
theorem Zx(h:te σ H λx H1=>tr σ H1 λxs H2=>QA (x::xs) H2):rh te tr σ H QA:=h
theorem zyr{sp:Sp}{E:XK}(h:t σ H λvs H1=>sp vs H1 Q E):kY sp [] E t σ H Q:=by
 simpa only[kY,Wl] using h
theorem zCf{u:List V->Hp->VK->Prop}(h:t σ H λvs H1=>u vs H1 Q):CZ u t σ H Q:=h
theorem Z2(h:te σ H λx H'=>∃k,x=.bl k/\QB k H'):Dw te σ H QB:=h
theorem RG(h:te σ H λx H'=>∃k,x=.bl k/\QB k H'):tB te σ H QB:=h
theorem Rv{R:Bool->Prop}{k:Bool}(q:R k):∃k',V.bl k=V.bl k'/\R k':=⟨k,rfl,q⟩
theorem zAT(h:tt σ H λc H1=>if c=true then tu σ H1 QB else QB false H1):MR tt tu σ H QB:=h
theorem Z_(h:tt σ H λc H1=>if c=true then QB true H1 else tu σ H1 QB):RC tt tu σ H QB:=h
theorem Yb(h:tt σ H λc H1=>QB (!c) H1):LZ tt σ H QB:=h
theorem zzE(h:ta σ H λx H1=>∃c,x=.bl c/\if c=true then tb σ H1 Q else Q (.bl false) H1):LO ta tb σ H Q:=h
theorem Zz(h:ta σ H λx H1=>∃c,x=.bl c/\Q (.bl (!c)) H1):NB ta σ H Q:=h
theorem Zm(h:tt σ H λc H1=>if c=true then ta σ H1 Q else tb σ H1 Q):JL tt ta tb σ H Q:=h
-- statements
theorem zBH(h:s1 {D with nx:=s2 D} σ H):EC s1 s2 D σ H:=h
theorem zzt(h:D.nx σ H):Nj D σ H:=h
theorem Y9(h:te σ H D.rt):M_ te D σ H:=h
theorem zBf(h:tt σ H λb H1=>if b=true then s1 D σ H1 else s2 D σ H1):Ke tt s1 s2 D σ H:=h
theorem zBD(h:te σ H λx H1=>g x σ H1 D.nx):kN te g D σ H:=h
theorem zyW(h:te σ H λ_ H1=>D.nx σ H1):OP te D σ H:=h
theorem zAN{i j:Nat}(h:t σ H λvs H1=>∃v w,vs=[v,w]/\D.nx ((σ.set i (some v)).set j (some w)) H1):KJ i j t D σ H:=h
theorem zyN{i j:Nat}(q:QS ((σ.set i (some v)).set j (some w)) H):∃v' w',[v,w]=[v',w']/\QS ((σ.set i (some v')).set j (some w')) H:=⟨v,w,rfl,q⟩
-- targets
theorem BS(q:QS (σ.set i (some v)) H):gg i v σ H QS:=q
theorem MH(q:QS σ H):Fe [] σ H QS:=⟨rfl,q⟩
theorem CJ(q:g v σ H λσ' H'=>gs xs σ' H' QS):Aa g gs (v::xs) σ H QS:=⟨v,xs,rfl,q⟩
theorem lg{a:wf}{n:Nat}(h:aR K H a xs)(e:xs.length=n)(q:gs xs σ H QS):hJ K n gs (.ref a) σ H QS:=⟨a,xs,rfl,h,e,q⟩
theorem Yr{tset:y8}(h:ta σ H λo H1=>tb σ H1 λi H2=>tset o i v H2 λH3=>QS σ H3):Mv ta tb tset v σ H QS:=h
theorem Ef{p:wf}{k:Int}{j:Nat}(h:H p=some (.lst xs))(e:ib xs.length k=some j)(q:∀H',Exc p H H'->H' p=some (.lst (xs.set j v))->QH H'):O3 (.ref p) (.int k) v H QH :=
 ⟨p,xs,k,j,rfl,rfl,h,e,q _ (Exc.upd p H _) cT⟩
-- ints
theorem ZR{f:Int->Int->V}(q:Q (f m n) H):iI f (.int m) (.int n) H Q:=⟨m,n,rfl,rfl,q⟩
theorem CU{C:Int->Int->Prop}{f:Int->Int->V}(c:C m n)(q:Q (f m n) H):rI C f (.int m) (.int n) H Q:=⟨m,n,rfl,rfl,c,q⟩
theorem zCa{f:Int->V}(q:Q (f m) H):rU f (.int m) H Q:=⟨m,rfl,q⟩
theorem YB(q:Q (.int (m+n)) H):EZ (.int m) (.int n) H Q:=.inl ⟨m,n,rfl,rfl,q⟩
theorem oO{p b:wf}(h:H p=some (.lst xs))(k:H b=some (.lst ys))(z:xs.length+ys.length<=vd)
  (q:∀c H',H c=none->ah H H'->H' c=some (.lst (xs++ys))->Q (.ref c) H'):EZ (.ref p) (.ref b) H Q :=
 .inr (.inl ⟨p,b,xs,ys,rfl,rfl,h,k,z,λc hc=>q c _ hc (ah.upd hc) cT⟩)
theorem ZC(q:Q (.int (if m<0 then -m else m)) H):LG [.int m] H Q:=⟨m,rfl,q⟩
theorem J1{p:wf}(h:aR K H p xs)(q:Q (.int xs.length) H):cP K [.ref p] H Q:=⟨p,xs,rfl,.inr h,q⟩
theorem jM{p:wf}(h:aI K H p xs)(q:Q (.int xs.length) H):cP K [.ref p] H Q:=⟨p,xs,rfl,.inl h,q⟩
theorem Ze{b:Bool}(q:Q (.int (if b then 1 else 0)) H):N_ [.bl b] H Q:=.inr ⟨b,rfl,q⟩
-- comparisons
theorem zBp(q:Q (.bl (decide (v=.bG))) H):OL v .bG H Q:=.inr ⟨rfl,q⟩
theorem Yg(q:Q (.bl (decide (m=n))) H):df K (.int m) (.int n) H Q :=
 ⟨.int m,.int n,cb.mpr rfl,cb.mpr rfl,rfl,rfl,by
  have e:wV (.int m) (.int n)=decide (m=n):=by
   rw[wV,qF]
  rw[e];exact q⟩
theorem zAM(q:Q (.bl (!decide (m=n))) H):eD K (.int m) (.int n) H Q :=
 ⟨.int m,.int n,cb.mpr rfl,cb.mpr rfl,rfl,rfl,by
  have e:wV (.int m) (.int n)=decide (m=n):=by
   rw[wV,qF]
  rw[e];exact q⟩
theorem ES{d e:wF}(h:Is K H v d)(k:Is K H w e)(sd:vQ d=true)(se:vQ e=true)(q:Q (.bl (wV d e)) H):df K v w H Q:=⟨d,e,h,k,sd,se,q⟩
theorem nY{d e:wF}(h:Is K H v d)(k:Is K H w e)(sd:vQ d=true)(se:vQ e=true)(q:Q (.bl (!PyData.eqv d e)) H):eD K v w H Q:=⟨d,e,h,k,sd,se,q⟩
theorem A6{T:String}{d:wF}(h:Is K H v d)(e:wD K (.type (kindOf d)) (.type T)=some (isA T d))(q:Q (.bl (isA T d)) H):jb K [v,.ty T] H Q:=⟨v,T,d,_,rfl,h,e,q⟩
def iQ:wF->Bool
 | .tuple _=>true
 | _=>false
def El:wF->Bool
 | .int _=>true
 | .bool _=>true
 | _=>false
def DF:wF->Bool
 | .bool _=>true
 | _=>false
def pD:wF->Bool
 | .list _=>true
 | _=>false
theorem IS{d:wF} : iQ d=true ↔ ∃ds,d=.tuple ds:=by cases d<;>simp[iQ]
theorem PR{d:wF}(h:Is K H v d)(q:Q (.bl (iQ d)) H):jb K [v,.ty "tuple"] H Q:=A6 h (zvI d) (by have e:isA "tuple" d=iQ d:=(by cases d<;>rfl);rw[e];exact q)
theorem zwA{d:wF}(h:Is K H v d)(q:Q (.bl (El d)) H):jb K [v,.ty "int"] H Q:=A6 h (zyZ d) (by have e:isA "int" d=El d:=(by cases d<;>rfl);rw[e];exact q)
theorem UW{d:wF}(h:Is K H v d)(q:Q (.bl (DF d)) H):jb K [v,.ty "bool"] H Q:=A6 h (zxW d) (by have e:isA "bool" d=DF d:=(by cases d<;>rfl);rw[e];exact q)
theorem sN{p:wf}{m:Int}(h:aR K H p xs)(e:gy xs m=some v)(q:Q v H):dB K (.ref p) (.int m) H Q:=.inr (.inl ⟨p,xs,m,v,rfl,rfl,h,e,q⟩)
theorem jo{p:wf}{m:Int}(h:aI K H p xs)(e:gy xs m=some v)(q:Q v H):dB K (.ref p) (.int m) H Q:=.inl ⟨p,xs,m,v,rfl,rfl,h,e,q⟩
theorem zAR{α : Type}{xs:List α}{m:Int}(h0:0<=m)(h1:m<xs.length):∃v,gy xs m=some v/\v∈xs:=by
 obtain⟨k,rfl⟩:∃k:Nat,m=(k:Int):=⟨m.toNat,by lia⟩;have l:k<xs.length:=by lia
 exact⟨xs[k],kU (by simp[l]),vO l⟩
theorem Pm{p:wf}{m:Int}(P:V->Prop)(h:aI K H p xs)(h0:0<=m)(h1:m<xs.length)(hP:∀x∈xs,P x)(q:∀x,P x->Q x H):dB K (.ref p) (.int m) H Q:=by
 obtain⟨x,e,hx⟩:=zAR h0 h1;exact jo h e (q x (hP x hx))
theorem zyM{r:Rat}(h:Is K H v (N r))(q:Q (.int r.num) H):dB K v (.int 0) H Q:=by
 obtain⟨a,rfl,h'⟩:=kW.mp h;exact sN h' rfl q
theorem zzz{r:Rat}(h:Is K H v (N r))(q:Q (.int (r.den:Int)) H):dB K v (.int 1) H Q:=by
 obtain⟨a,rfl,h'⟩:=kW.mp h;exact sN h' rfl q
theorem aH{ds:List wF}{d:wF}{j:Nat}(h:Is K H v (.tuple ds))(e:ds[j]? = some d)(q:∀x,Is K H x d->Q x H):dB K v (.int (j:Int)) H Q:=by
 obtain⟨a,xs,rfl,h,t⟩:=bW.mp h;obtain⟨x,e1,hx⟩:=t.get e;exact sN h (kU e1) (q x hx)
theorem lZ{ds:List wF}(h:Is K H v (.tuple ds))(q:Q (.int ds.length) H):cP K [v] H Q:=by
 obtain⟨a,xs,rfl,h,t⟩:=bW.mp h;exact J1 h (by rw[t.length];exact q)
theorem yq{ds:List wF}{n:Nat}(h:Is K H v (.tuple ds))(e:ds.length=n)(q:∀xs,ao K H xs ds->gs xs σ H QS):hJ K n gs v σ H QS:=by
 obtain⟨a,xs,rfl,h,t⟩:=bW.mp h;exact lg h (by rw[t.length];exact e) (q xs t)
theorem zwO{r:Rat}(h:Is K H v (N r))(q:gs [.int r.num,.int (r.den:Int)] σ H QS):hJ K 2 gs v σ H QS:=by
 obtain⟨a,rfl,h'⟩:=kW.mp h;exact lg h' rfl q
-- new tuples and lists
theorem mV{α : Type}{l:List α}(h:l.length<=1000):l.length<=vd:=VG (kr h)
theorem pf(z:xs.length<=1000)(q:∀p H',H p=none->ah H H'->H' p=some (.tup xs)->Q (.ref p) H'):lW K xs H Q:=⟨mV z,λp hp=>q p _ hp (ah.upd hp) cT⟩
theorem fj(z:xs.length<=1000)(q:∀p H',H p=none->ah H H'->H' p=some (.lst xs)->Q (.ref p) H'):zb K xs H Q:=⟨mV z,λp hp=>q p _ hp (ah.upd hp) cT⟩
theorem cc{ds:List wF}(z:xs.length<=1000)(h:ao K H xs ds)(q:∀v H',ah H H'->Is K H' v (.tuple ds)->Q v H'):lW K xs H Q :=
 pf z λp H' _ s e=>q _ H' s (bW.mpr ⟨p,xs,rfl,.of e,ao.same s ds xs h⟩)
theorem ko{r:Rat}(e1:m=r.num)(e2:n=(r.den:Int))(q:∀v H',ah H H'->Is K H' v (N r)->Q v H'):lW K [.int m,.int n] H Q:=by
 subst e1 e2;exact pf (by show 2<=1000;decide) λp H' _ s e=>q _ H' s (kW.mpr ⟨p,rfl,.of e⟩)
-- tests
theorem zzi{p:Prop}[Decidable p]{A B:Prop}(h1:p->A)(h2:¬ p->B):if decide p=true then A else B:=by
 by_cases h:p
 ·rw[decide_eq_true h,if_pos rfl];exact h1 h
 ·rw[decide_eq_false h,if_neg vG];exact h2 h
theorem Zh{p:Prop}[Decidable p]{A B:Prop}(h1:¬ p->A)(h2:p->B):if(!decide p)=true then A else B:=by
 by_cases h:p
 ·rw[decide_eq_true h];exact lY (h2 h)
 ·rw[decide_eq_false h];exact lP (h1 h)
theorem UR{b:Bool}{A B:Prop}(h1:b=true->A)(h2:b=false->B):if b=true then A else B:=by
 cases b
 ·exact lY (h2 rfl)
 ·exact lP (h1 rfl)
theorem zwD{b:Bool}{A B:Prop}(h1:b=false->A)(h2:b=true->B):if(!b)=true then A else B:=by
 cases b
 ·exact lP (h1 rfl)
 ·exact lY (h2 rfl)
end
section
variable{c:TT}{tb:TS}{D:cq}{σ : St}{H:Hp}
def OE(σ : St)(i:Nat):Int:=match σ[i]? with
 | some (some (.int y))=>y
 | _=>0
def RN(Pv:St->Hp->Prop)(μ : St->Nat)(tb:TS)(D:cq)(σ':St)(H1:Hp):Prop :=
 ∃M:St->Hp->Prop,(∀σ2 H2,M σ2 H2->∃m',m' < μ σ'/\(m' = μ σ2/\Pv σ2 H2))/\tb {D with nx:=M,ct:=M,bk:=D.nx} σ' H1
theorem Rh(Pv:St->Hp->Prop)(μ : St->Nat)(h0:Pv σ H)
  (hs:∀σ' H',Pv σ' H'->c σ' H' λb H1=>if b=true then RN Pv μ tb D σ' H1 else D.nx σ' H1):Cc c tb D σ H:=by
 refine⟨λm σ H=>m = μ σ /\ Pv σ H,⟨_,rfl,h0⟩,?_⟩;rintro m σ H ⟨rfl,p⟩;exact hs σ H p
theorem NL{Pv:St->Hp->Prop}{μ : St->Nat}{σ':St}{H1:Hp}(h:tb {D with nx:=λσ2 H2=>μ σ2 < μ σ'/\Pv σ2 H2,ct:=λσ2 H2=>μ σ2 < μ σ'/\Pv σ2 H2,bk:=D.nx} σ' H1):RN Pv μ tb D σ' H1 :=
 ⟨_,λσ2 H2 q=>⟨_,q.1,rfl,q.2⟩,h⟩
def Od(g:TG)(tb:TS)(D:cq)(σ : St)(vs:List V)(H1:Hp):Prop:=∃j:Int,vs=[.int j] /\ -(2^62)<=j/\j<2^62 /\
 ∃W:Nat->Nat->St->Hp->Prop,(∃m,W 0 m σ H1) /\ ∀i m σ H,W i m σ H ->
  ((fW 0 j.toNat).stop i H/\D.nx σ H)\/((fW 0 j.toNat).go i H /\ ∃M:St->Hp->Prop,(∀σ' H',M σ' H'->∃m',m'<m/\W (i+1) m' σ' H') /\ ∀x H',(fW 0 j.toNat).fB i H x H'->g x σ H' λσ2 H2=>tb {D with nx:=M,ct:=M,bk:=D.nx} σ2 H2)
theorem zzr{ta:TA}{g:TG}(h:ta σ H λvs H1=>Od g tb D σ vs H1):kR (BX ta) g tb D σ H:=h
theorem jR{g:TG}{n:Int}(h0 : -1000000000<=n)(h1:n<1000000000)(Pv:Nat->St->Hp->Prop)(p:Pv 0 σ H)
  (hs:∀(i:Nat) σ H,i<n.toNat->Pv i σ H->g (.int (i:Int)) σ H λσ2 H2=>tb {D with nx:=Pv (i+1),ct:=Pv (i+1),bk:=D.nx} σ2 H2)
  (hd:∀σ H,Pv n.toNat σ H->D.nx σ H):Od g tb D σ [.int n] H:=by
 refine⟨n,rfl,by lia,by lia,MZ (lo:=0) Pv p (λi σ H hi q=>?_) hd⟩;have e:(0:Int)+(i:Int)=(i:Int):=by lia
 rw[e];exact hs i σ H hi q
end
def Fw(K:wb)(g:TG)(tb:TS)(D:cq)(σ : St)(x:V)(H1:Hp):Prop:=∃a,x=.ref a/\(∃xs,aI K H1 a xs) /\
 ∃W:Nat->Nat->St->Hp->Prop,(∃m,W 0 m σ H1) /\ ∀i m σ H,W i m σ H ->
  ((iK K a).stop i H/\D.nx σ H)\/((iK K a).go i H /\ ∃M:St->Hp->Prop,(∀σ' H',M σ' H'->∃m',m'<m/\W (i+1) m' σ' H') /\ ∀x H',(iK K a).fB i H x H'->g x σ H' λσ2 H2=>tb {D with nx:=M,ct:=M,bk:=D.nx} σ2 H2)
def Ff(K:wb)(g:TG)(tb:TS)(D:cq)(σ : St)(x:V)(H1:Hp):Prop:=∃a,x=.ref a/\(∃xs,aR K H1 a xs) /\
 ∃W:Nat->Nat->St->Hp->Prop,(∃m,W 0 m σ H1) /\ ∀i m σ H,W i m σ H ->
  ((jn K a).stop i H/\D.nx σ H)\/((jn K a).go i H /\ ∃M:St->Hp->Prop,(∀σ' H',M σ' H'->∃m',m'<m/\W (i+1) m' σ' H') /\ ∀x H',(jn K a).fB i H x H'->g x σ H' λσ2 H2=>tb {D with nx:=M,ct:=M,bk:=D.nx} σ2 H2)
section
variable{K:wb}{te:TE}{g:TG}{tb:TS}{D:cq}{σ : St}{H:Hp}{a:wf}{xs:List V}
theorem zyh(h:te σ H λx H1=>Fw K g tb D σ x H1):kR (zF K te) g tb D σ H:=h
theorem zy4(h:te σ H λx H1=>Ff K g tb D σ x H1):kR (BP K te) g tb D σ H:=h
theorem Jt(hx:aI K H a xs)(Pv:Nat->St->Hp->Prop)(h0:Pv 0 σ H)(hl:∀i σ H,i<=xs.length->Pv i σ H->aI K H a xs)
  (hs:∀i x σ H,xs[i]? = some x->Pv i σ H->g x σ H λσ2 H2=>tb {D with nx:=Pv (i+1),ct:=Pv (i+1),bk:=D.nx} σ2 H2) (hd:∀σ H,Pv xs.length σ H->D.nx σ H):Fw K g tb D σ (.ref a) H :=
 ⟨a,rfl,⟨xs,hx⟩,zwq Pv h0 hl hs hd⟩
theorem Dy(hx:aR K H a xs)(Pv:Nat->St->Hp->Prop)(h0:Pv 0 σ H)(hl:∀i σ H,i<=xs.length->Pv i σ H->aR K H a xs)
  (hs:∀i x σ H,xs[i]? = some x->Pv i σ H->g x σ H λσ2 H2=>tb {D with nx:=Pv (i+1),ct:=Pv (i+1),bk:=D.nx} σ2 H2) (hd:∀σ H,Pv xs.length σ H->D.nx σ H):Ff K g tb D σ (.ref a) H :=
 ⟨a,rfl,⟨xs,hx⟩,zyQ Pv h0 hl hs hd⟩
end
theorem zA5{K:wb}{H:Hp}{a:wf}{xs:List V}(hO:Ab H)(h:aI K H a xs):jT K H a xs:=by
 rcases h with(h | ⟨o,h⟩) | h
 ·rcases hO a with z | ⟨ob,ys,z⟩
  ·rw[h]at z;cases z
  ·rw[h]at z;cases z
 ·exact .inl ⟨o,h⟩
 ·exact .inr h
theorem Sa{K:wb}{H:Hp}{Q:VK}{a:wf}{ns:List Int}{m:Int}(h:jT K H a (ns.map V.int))(h0:0<=m)(h1:m<((ns.map V.int).length:Int))(q:∀z,Q (.int z) H):dB K (.ref a) (.int m) H Q:=by
 refine Pm (λv=>∃z,v=.int z) h.sq h0 h1 (λx hx=>?_) (λx hx=>?_)
 ·obtain⟨z,_,rfl⟩:=wS.mp hx
  exact⟨z,rfl⟩
 ·obtain⟨z,rfl⟩:=hx
  exact q z
section
variable{K:wb}{H H':Hp}{v:V}{d:wF}{a:wf}{xs:List V}{o:HO}
theorem ah.at(s:ah H H')(h:H a=some o):H' a=some o:=s _ _ h
theorem ah.back{H2:Hp}(b:ah H' H2)(s:ah H H'):ah H H2:=s.trans b
theorem bo.back{H2:Hp}(b:bo H' H2)(s:bo H H'):bo H H2:=s.trans b
theorem Is.by(s:ah H H')(h:Is K H v d):Is K H' v d:=Is.same s d v h
theorem Is.T1(h:Is K H v d)(s:ah H H'):Is K H' v d:=Is.same s d v h
theorem Is.gT{r:Rat}(s:bo H H')(h:Is K H v (N r)):Is K H' v (N r):=Is.keep s _ v (lz r) h
theorem Is.ly(s:bo H H')(i:cO d=true)(h:Is K H v d):Is K H' v d:=Is.keep s _ v i h
end
def dq(X:Cx)(N':List Str)(scope:Scope)(cl:List (Str × wf))(C:wf)(s₀ : wl)(H₀ : Hp)(fp:List wf)(pins:List (wf × Obj)):Cx where
 prog:=X.prog
 w:=X.w
 K:=X.K
 mg:=X.mg
 base:=X.base
 A:=X.A
 N:=N'
 s₀:=s₀
 H₀:=H₀
 env:=compEnvC scope cl C X.env
 outer:=X.stack
 stack:=X.stack
 ex:=fp
 fn:=λ_=>false
 calm:=X.calm
 pn:=X.pn++pins
 xe:=λ_ _=>False
structure R8(X:Cx)(scope:Scope)(cl:List (Str × wf)):Prop where
 jF:closureFor scope X.env=pure cl
 sub:∀x c,cl.lookup x=some c->X.env.cells.lookup x=some c
 has:∀x,((relabel scope X.env).names.lookup x=some .cell\/(relabel scope X.env).names.lookup x=some .free)->∃c,cl.lookup x=some c
def dJ(src:List (Option Nat))(σ : St):St:=src.map λo=>match o with
 | none=>none
 | some j=>(σ[j]?).join
def JQ(X:Cx)(N':List Str)(src:List (Option Nat)):Prop :=
 N'.length=src.length /\ ∀(i j:Nat)(x:Str),N'[i]? = some x->src[i]? = some (some j)->X.N[j]? = some x/\X.env.scope.names.lookup x=some .cell
section
variable{X:Cx}{pins:List (wf × Obj)}{σ : St}{H:Hp}{s:wl}{N':List Str}{scope:Scope}{cl:List (Str × wf)}{src:List (Option Nat)}{fp:List wf}
theorem Inv.block{h₁ : wH}{tk:Nat}(I:Inv X pins σ H s)(hk:scope.kind=.function)(cok:R8 X scope cl)(sok:JQ X N' src)(hf:∀b∈fp,d9 X pins H b)(hlt:∀b∈fp,b<s.heap.objs.size)
  (hns:h₁.Ns s.heap.objs.size λ_=>none) (old:∀b o,s.heap.get? b=some o->h₁.get? b=some o)
  (hvis:∀(i:Nat) x,N'[i]? = some x->src[i]? ≠ some none->(relabel scope X.env).names.lookup x=some .cell\/(relabel scope X.env).names.lookup x=some .free) :
  Inv (dq X N' scope cl s.heap.objs.size s H fp pins) [] (dJ src σ) H {s with heap:=h₁,toks:=tk}:=by
 have hfr:H s.heap.objs.size=none:=I.aF.fresh (wp _)
 have ja:∀x c,cl.lookup x=some c->c<s.heap.objs.size:=λx c e=>by
  obtain⟨v,q⟩:=I.cell x c (cok.sub x c e);exact q.lt
 have fplt:∀b∈fp,b ∉ dr X.stack:=λb hb z=>by
  obtain⟨_,f1,f2,_⟩:=hf b hb;exact(wQ.mp (I.kQ b z)).elim f1 f2
 refine⟨⟨I.ok.mod,?_,I.ok.glob,I.ok.blt,wp _,λx y c h1 h2=>?_,λx hx=>?_,λx c hx=>?_,I.ok.hd,I.ok.frames,.inl rfl,λb hb=>⟨?_,λx c e=>?_⟩,I.bs,Wk I.ok.gm I.sz,λb o e=>?_,fplt,I.stack,I.rS⟩,
  rfl,I.bare,Un.kept old,⟨_,hns,λi x v h1 h2 h3=>?_⟩,λx c e=>?_,hfr,λx c e=>?_,λp hp=>?_,I.aF.kept old,?_⟩
 ·show(relabel scope X.env).kind=.function
  exact hk
 ·exact I.ok.inj x y c (cok.sub x c h1) (cok.sub y c h2)
 ·exact cok.has x hx
 ·exact absurd (show false=true from hx) vG
 ·exact wL (hlt b hb)
 ·exact(hf b hb).2.2.2.2.1 x c (cok.sub x c e)
 ·intro hb
  obtain⟨_,_,_,f3,_⟩:=hf b hb;rcases f3 with z | z
  ·exact I.ok.jE b o e z
  ·exact absurd (wU (wA e) (Wk I.ok.gm z)) (VR _)
 ·-- a name of the frame around
  have hsrc:∃j,src[i]? = some (some j) /\ σ[j]? = some (some v):=by
   unfold dJ at h2;rw[wu]at h2;cases q:src[i]? with
   | none=>rw[q]at h2;cases h2
   | some o =>
    rw[q]at h2;cases o with
    | none=>cases h2
    | some j =>
     refine⟨j,rfl,?_⟩;have h2':(σ[j]?).join=some v:=wK h2;cases q2 : σ[j]? with
     | none=>rw[q2]at h2';cases h2'
     | some z=>rw[q2]at h2';exact congrArg some h2'
  obtain⟨j,hj,hv⟩:=hsrc;obtain⟨hN,hc⟩:=sok.2 i j x h1 hj;obtain⟨m,_,hl⟩:=I.loc;obtain⟨u,ru,lk⟩:=hl j x v hN hv (.inr (.inl hc));refine⟨u,ru,.inr ⟨hvis i x h1 (by rw[hj];intro z;cases z),?_⟩⟩;rcases lk with⟨k,_⟩ | ⟨_,c,ec,hcell⟩
  ·have k':X.env.scope.names.lookup x=some .local:=k
   rw[hc]at k';cases k'
  ·obtain⟨c',ec'⟩:=cok.has x (hvis i x h1 (by rw[hj];intro z;cases z))
   have:=cok.sub x c' ec';rw[ec]at this;cases this;obtain⟨o,ho,hd⟩:=hcell;exact⟨c,ec',o,old c o ho,hd⟩
 ·obtain⟨v,o,ho,hd⟩:=I.cell x c (cok.sub x c e)
  exact⟨v,o,old c o ho,hd⟩
 ·exact I.fg x c (cok.sub x c e)
 ·have hp':p∈(X.pn++pins)++[]:=hp
  rw[Wl]at hp';obtain⟨e,n,ne,nf,d⟩:=I.pin p hp';refine⟨old _ _ e,n,wL (wA e),λz=>?_,d⟩;exact(wQ.mp (I.kQ p.1 z)).elim ne nf
 ·show(dJ src σ).length=N'.length
  unfold dJ;rw[wm,sok.1]
end
def MV:TT:=λ_ H Q=>Q true H
def nh(X:Cx)(ifs:List Expr)(t:TT):Prop :=
 ∀(pins:List (wf × Obj))(s:wl)(σ : St)(H:Hp)(Q:Bool->Hp->Prop),Inv X pins σ H s->t σ H Q ->
  wq (model X.prog X.w) X.A (forIn ifs true λc r=>if r=true then do let ok <- isTrue c X.env (eval c X.env);pure (ForInStep.yield ok)else pure (ForInStep.yield r)) (TP X pins σ Q) X.xe s
theorem eA{X:Cx} : nh X [] MV:=λ_ _ _ H _ I h=>wpAny_tests_nil ⟨H,I,h⟩
theorem nD{X:Cx}{c:Expr}{t:TT}(hc:PT X c t):nh X [c] t:=λpins s σ H Q I h=>wpAny_tests_one (hc pins s σ H Q I h)
section
variable{prog:wJ}{w:wM}{A:wW}{R:Result->wl->Prop}{s:wl}
theorem YY{elt target iter:Expr}{ifs:List Expr}{scope:Scope}{pos:Pos}{it acc:wg}{env:Env}(I:Nat->wl->Prop)
   (turn:∀n s,I n s->wq (model prog w) A (Vo it) (λr s₁=>match r with
     | none=>R (.ok .next) s₁
     | some v=>wq (model prog w) A (Qf target it v) (λ_ s₁'=>wq (model prog w) A (assign target env v) (λ_ s₂ =>
         wq (model prog w) A (forIn ifs true λc r=>if r=true then do let ok <- isTrue c env (eval c env);pure (ForInStep.yield ok)else pure (ForInStep.yield r)) (λok s₃ =>
           if ok=true then wq (model prog w) A (eval elt env) (λx s₄ =>
             wq (model prog w) A (call (.builtin "list.append") [acc,x]) (λ_ s₅=>∃m,m<n/\I m s₅) (λ_ _=>False) s₄) (λ_ _=>False) s₃
           else ∃m,m<n/\I m s₃) (λ_ _=>False) s₂) (λ_ _=>False) s₁') (λ_ _=>False) s₁) (λ_ _=>False) s)
   (n:Nat) (h:I n s):codeAny (model prog w) A (.compLoop (.ListComp elt [⟨target,iter,ifs,0⟩] scope pos) 0 it acc env) R s:=by
 refine codeAny_loop rfl I (λn s hI=>?_) n h
 show wq _ A ((compTurn (.ListComp elt [⟨target,iter,ifs,0⟩] scope pos) 0 it acc env).onRaise (λx=>do noteFrame x env;theTreesLotGoes x)) _ _ s
 refine wpAny_noted ?_;rw[compTurn_list];refine we (qU (we (WA (turn n s hI) (λr s₁ h₁=>?_) λ_ _ h'=>h'.elim)));cases r with
 | none=>exact wo h₁
 | some v =>
   refine we (WA h₁ (λ_ s₁' h₁'=>?_) λ_ _ h'=>h'.elim);refine we (WA h₁' (λ_ s₂ h₂=>we (WA h₂ (λok s₃ h₃=>?_) λ_ _ h'=>h'.elim)) λ_ _ h'=>h'.elim);cases ok with
   | false=>exact wo ⟨rfl,h₃⟩
   | true=>exact we (we (WA h₃ (λx s₄ h₄=>we (WA h₄ (λ_ s₅ h₅=>wo (wo ⟨rfl,h₅⟩)) λ_ _ h'=>h'.elim)) λ_ _ h'=>h'.elim))
end
def jL(g:TG)(tt:TT)(te:TE)(J:It)(D:wf)(σ0:St)(H0:Hp)(Q:Hp->Prop):Prop :=
 ∃W:Nat->Nat->St->Hp->Prop,(∃m,W 0 m σ0 H0) /\ ∀i m σ' H',W i m σ' H' ->
  (J.stop i H'/\Q H')\/(J.go i H' /\ ∃M:St->Hp->Prop,(∀σ2 H2,M σ2 H2->∃m',m'<m/\W (i+1) m' σ2 H2) /\
   ∀x H2,J.fB i H' x H2->g x σ' H2 λσ3 H3=>tt σ3 H3 λok H4=>if ok=true then te σ3 H4 λy H5=>∃ys,H5 D=some (.lst ys)/\ys.length<vd/\M σ3 (upd H5 D (.lst (ys++[y])))else M σ3 H4)
def ju(src:List (Option Nat))(wi:TI)(g:TG)(tt:TT)(te:TE):TE:=λσ H Q=>wi σ H λJ H1=>∀D,H1 D=none->jL g tt te J D (dJ src σ) (upd H1 D (.lst [])) (λH'=>Q (.ref D) H')
structure sZ(Y:Cx)(tg:Expr)(J:It)(fp:List wf)(it:wf)(tn:Nat->wH->Prop):Prop where
 item:∀(i:Nat)(pins:List (wf × Obj))(s:wl)(σ : St)(H:Hp)(E:wg->wl->Prop),Inv Y pins σ H s->(∀b∈fp,d9 Y pins H b)->tn i s.heap->J.go i H ->
   wq (model Y.prog Y.w) Y.A (Vo (.ref it)) (λr s1=>∃u,r=some u/\wq (model Y.prog Y.w) Y.A (Qf tg (.ref it) u) (λ_ s2=>∃x H',Inv Y pins σ H' s2/\aY x u/\J.fB i H x H'/\tn (i+1) s2.heap /\ ∀b∈fp,H' b=none) E s1) E s
 done:∀(i:Nat)(pins:List (wf × Obj))(s:wl)(σ : St)(H:Hp)(E:wg->wl->Prop),Inv Y pins σ H s->(∀b∈fp,d9 Y pins H b)->tn i s.heap->J.stop i H ->
   wq (model Y.prog Y.w) Y.A (Vo (.ref it)) (λr s1=>r=none/\Inv Y pins σ H s1) E s
theorem iH.JE{P:wJ}{w:wM}{K:wb}{tg:Expr}{J:It}{fp:List wf}{it:wf}{tn:Nat->wH->Prop}(T:iH P w K tg J fp it tn){Y:Cx}(h1:Y.prog=P)(h2:Y.w=w)(h3:Y.K=K)(hc:Y.calm=true):sZ Y tg J fp it tn:=by
 subst h1 h2 h3;exact⟨T.item Y rfl rfl rfl hc,T.done Y rfl rfl rfl hc⟩
section
variable{X:Cx}{pins:List (wf × Obj)}{σ : St}{H:Hp}{s:wl}{N':List Str}{scope:Scope}{cl:List (Str × wf)}{src:List (Option Nat)}{elt tgt iter:Expr}{ifs:List Expr}{pos:Pos}{wi:TI}{g:TG}{tt:TT}{te:TE}
structure cn(X:Cx)(N':List Str)(scope:Scope)(cl:List (Str × wf))(src:List (Option Nat)):Prop where
 kind:scope.kind=.function
 cell:∀y∈scope.names,y.2≠.cell
 names:∀y∈scope.names,y.2=.local->scope.names.lookup y.1=some .local
 jF:R8 X scope cl
 T_:JQ X N' src
 Dc:∀(i:Nat) x,N'[i]? = some x->src[i]? ≠ some none->(relabel scope X.env).names.lookup x=some .cell\/(relabel scope X.env).names.lookup x=some .free
theorem Dp{it:wf}{fp:List wf}{tn:Nat->wH->Prop}{J:It}{RQ:wf->Hp->Prop}{E:wg->wl->Prop}{RR:wg->wf->Result->wl->Prop}
   (TC:∀C s₀ H₀,sZ (dq X N' scope cl C s₀ H₀ fp pins) tgt J fp it tn) (ok:cn X N' scope cl src)
   (hg:∀C s₀ H₀ fp pins,PG (dq X N' scope cl C s₀ H₀ fp pins) tgt g) (ht:∀C s₀ H₀ fp pins,nh (dq X N' scope cl C s₀ H₀ fp pins) ifs tt) (he:∀C s₀ H₀ fp pins,PE (dq X N' scope cl C s₀ H₀ fp pins) elt te)
   (I:Inv X pins σ H s) (T:iH X.prog X.w X.K tgt J fp it tn) (st:tn 0 s.heap) (hf:∀b∈fp,d9 X pins H b)
   (rd:∀D,H D=none->jL g tt te J D (dJ src σ) (upd H D (.lst [])) (λH'=>RQ D H'))
   (hRR:∀D C H' s' m,Inv X pins σ H' s'->s'.heap.Ns C m->d9 X pins H' C->RQ D H'->RR (.ref D) C (.ok .next) s') :
   wq (model X.prog X.w) X.A (newList []) (λacc s₃=>wq (model X.prog X.w) X.A (newFunctionEnv scope X.env.globals cl [] X.env.qual none .none (some X.env)) (λcenv s₄ =>
     codeAny (model X.prog X.w) X.A (.compStart (.ListComp elt [⟨tgt,iter,ifs,0⟩] scope pos) 0 (.ref it) acc {cenv with scope:=relabel scope X.env}) (RR acc cenv.locals) s₄) E s₃) E s:=by
 -- the list
 refine Ww ?_ (by show 0<=vd;exact Wu _);have hD:H s.heap.objs.size=none:=I.aF.fresh (wp _)
 have I3:Inv X pins σ (upd H s.heap.objs.size (.lst [])) {s with heap:=s.heap.push {cls:=.type "list",data:=.seq ([]:List wg).toArray}} :=
   I.IH (ys:=[]) (its:=[]) (t':=s.toks) .nil (Wu _)
 have old3:∀b o,s.heap.get? b=some o->(s.heap.push {cls:=.type "list",data:=.seq ([]:List wg).toArray}).get? b=some o:=λb o e=>wn _ e
 have lt0:∀b∈fp,b<s.heap.objs.size:=λb hb=>by
   obtain⟨o,e,_⟩:=T.obj 0 _ st b hb;exact wA e
 have hf3:∀b∈fp,d9 X pins (upd H s.heap.objs.size (.lst [])) b:=λb hb=>⟨by rw[d7 (wL (lt0 b hb))];exact(hf b hb).1,(hf b hb).2⟩
 have lt3:∀b∈fp,b<(s.heap.push {cls:=.type "list",data:=.seq ([]:List wg).toArray}).objs.size:=λb hb=>by
   rw[Vl];exact W2 (lt0 b hb)
 have st3:tn 0 (s.heap.push {cls:=.type "list",data:=.seq ([]:List wg).toArray}):=T.keep _ _ _ st λb _ o e=>old3 b o e
 obtain⟨W,⟨m0,w0⟩,turn⟩:=rd _ hD;generalize hs3:({s with heap:=s.heap.push {cls:=.type "list",data:=.seq ([]:List wg).toArray}} : wl)=s3 at I3 ⊢;have hh3:s3.heap=s.heap.push {cls:=.type "list",data:=.seq ([]:List wg).toArray}:=by rw[<- hs3]
 rw[<- hh3]at lt3 st3;clear old3 hs3 hh3;generalize hD':s.heap.objs.size=D at *
 -- the block's dict
 refine wpAny_newFunctionEnv ok.cell (by intro y hy;cases hy) (λh₁ hns₁ hsb₁=>?_) ok.kind;have old:∀b o,s3.heap.get? b=some o->h₁.get? b=some o:=λb o e=>hsb₁.extBut b o (wL (wA e)) (wn _ e)
 have hC:d9 X pins (upd H D (.lst [])) s3.heap.objs.size:=I3.iY (wp _) (I3.aF.fresh (wp _))
 have IB:∀tk,Inv (dq X N' scope cl s3.heap.objs.size s3 (upd H D (.lst [])) fp pins) [] (dJ src σ) (upd H D (.lst [])) {s3 with heap:=h₁,toks:=tk}:=λtk =>
   I3.block ok.kind ok.jF ok.T_ hf3 lt3 hns₁ old ok.Dc
 have stB:tn 0 h₁:=T.keep _ _ _ st3 λb _ o e=>old b o e
 -- what is true of the iterator's records within
 have stat:∀{H':Hp} ,(∀b∈fp,H' b=none)->∀b∈fp,d9 (dq X N' scope cl s3.heap.objs.size s3 (upd H D (.lst [])) fp pins) [] H' b:=λhn b hb=>by
   obtain⟨_,f1,f2,f3,f4,f5⟩:=hf3 b hb;refine⟨hn b hb,wL (lt3 b hb),λz=>(wQ.mp (I3.kQ b z)).elim f1 f2,.inl hb,λx c e=>f4 x c (ok.jF.sub x c e),λp hp=>?_⟩;have hp':p∈(X.pn++pins)++[]:=hp;rw[Wl]at hp';exact f5 p hp'
 -- from within back to the frame around
 have back:∀{σ':St}{H':Hp}{s':wl},Inv (dq X N' scope cl s3.heap.objs.size s3 (upd H D (.lst [])) fp pins) [] σ' H' s'->Inv X pins σ H' s'/\(∃m,s'.heap.Ns s3.heap.objs.size m)/\d9 X pins H' s3.heap.objs.size:=λ{σ' H' s'} J=>by
   obtain⟨m,hn,_⟩:=J.loc;refine⟨I3.Iv (ch:=fp) J.os J.base J.aF J.bare (λb hb=>?_),⟨m,hn⟩,⟨J.free,hC.2⟩⟩;obtain⟨_,f1,_,f3,f4,f5⟩:=hf3 b hb;exact⟨f3,f1,f4,f5⟩
 have loop:∀tk,codeAny (model X.prog X.w) X.A (.compLoop (.ListComp elt [⟨tgt,iter,ifs,0⟩] scope pos) 0 (.ref it) (.ref D) (compEnvC scope cl s3.heap.objs.size X.env)) (RR (.ref D) s3.heap.objs.size) {s3 with heap:=h₁,toks:=tk}:=by
   intro tk
   refine YY (λn s'=>∃i σ' H',Inv (dq X N' scope cl s3.heap.objs.size s3 (upd H D (.lst [])) fp pins) [] σ' H' s'/\tn i s'.heap/\(∀b∈fp,H' b=none)/\W i n σ' H') ?_ m0
     ⟨0,_,_,IB tk,stB,λb hb=>(hf3 b hb).1,w0⟩
   rintro n s4 ⟨i,σ4,H4,I4,st4,fr4,w4⟩;rcases turn i n σ4 H4 w4 with⟨stop,q⟩ | ⟨go,M,hM,step⟩
   . refine aJ ((TC _ _ _).done i [] s4 σ4 H4 (λ_ _=>False) I4 (stat fr4) st4 stop) λr s5 ⟨hr,I5⟩=>?_
     subst hr;obtain⟨J,⟨m,hn⟩,hCf⟩:=back I5;exact hRR D _ H4 s5 m J hn hCf q
   . refine aJ ((TC _ _ _).item i [] s4 σ4 H4 (λ_ _=>False) I4 (stat fr4) st4 go) λr s5 ⟨u,hr,h5⟩=>?_
     subst hr;refine aJ h5 λ_ s6 ⟨x,H6,I6,r6,y6,st6,fr6⟩=>?_
     have I6':=I6.pinned (stat fr6) (T.obj _ _ st6)
     have again:∀{σ7:St}{H7:Hp}{s7:wl},Inv (dq X N' scope cl s3.heap.objs.size s3 (upd H D (.lst [])) fp pins) ([]++pU fp s6.heap) σ7 H7 s7->M σ7 H7 ->
         ∃m,m<n /\ ∃i σ' H',Inv (dq X N' scope cl s3.heap.objs.size s3 (upd H D (.lst [])) fp pins) [] σ' H' s7/\tn i s7.heap/\(∀b∈fp,H' b=none)/\W i m σ' H':=λ{σ7 H7 s7} I7 n7=>by
       obtain⟨m',hm,w7⟩:=hM σ7 H7 n7;refine⟨m',hm,i+1,σ7,H7,I7.rK,T.keep _ _ _ st6 λb hb o e=>(I7.pin (b,o) (Wc _ (Wc _ (zI hb e)))).1,λb hb=>?_,w7⟩;obtain⟨o,e,d⟩:=T.obj _ _ st6 b hb;exact(I7.pin (b,o) (Wc _ (Wc _ (zI hb e)))).2.1
     refine aJ (hg _ _ _ _ _ _ s6 σ4 H6 x u _ I6' r6 (step x H6 y6)) λ_ s7 ⟨σ7,H7,I7,q7⟩=>?_
     refine aJ (ht _ _ _ _ _ _ s7 σ7 H7 _ I7 q7) λk s8 ⟨H8,I8,q8⟩=>?_
     cases k with
     | false=>exact again I8 q8
     | true =>
       rw[if_pos rfl]at q8 ⊢;refine aJ (he _ _ _ _ _ _ s8 σ7 H8 _ I8 q8) λy s9 ⟨yv,H9,I9,r9,ys,hys,hz,q9⟩=>?_
       exact aJ (gZ _ s9 σ7 H9 (.ref D) [yv] (.ref D) [y] (λ_ H'=>M σ7 H') I9 rfl (.cons r9 .nil) ⟨D,ys,yv,rfl,rfl,hys,hz,q9⟩) λ_ s10 ⟨_,H10,I10,_,q10⟩=>again I10 q10
 exact codeAny_compStart_list (loop _) (T.self _ _ _ _ _ stB (loop _))
theorem eH(hc:X.calm=true)(ok:cn X N' scope cl src)(hi:PI X tgt iter wi)
  (hg:∀C s₀ H₀ fp pins,PG (dq X N' scope cl C s₀ H₀ fp pins) tgt g) (ht:∀C s₀ H₀ fp pins,nh (dq X N' scope cl C s₀ H₀ fp pins) ifs tt) (he:∀C s₀ H₀ fp pins,PE (dq X N' scope cl C s₀ H₀ fp pins) elt te)
  (hs:∀x,foldedSetIterable iter X.env x=pure x:=by intro _;rfl):PE X (.ListComp elt [⟨tgt,iter,ifs,0⟩] scope pos) (ju src wi g tt te):=by
 intro pins s σ H Q I h;rw[eval_ListComp];refine Qq (use:=none) rfl hs ok.jF.jF ok.kind ok.names (aJ (hi pins s σ H _ I h) λv s1 h1=>aJ h1 λitv s2 h2=>?_);obtain⟨it,fp,tn,J,H2,e,I2,T,st2,f2,rd⟩:=h2;subst e;refine Dp (RQ:=λD H'=>Q (.ref D) H') (RR:=λacc C=>compPost (model X.prog X.w) X.A X.xe none (EP X pins σ Q) acc C) (λ_ _ _=>T.JE rfl rfl rfl hc) ok hg ht he I2 T st2 f2 rd ?_;intro D C H' s' m J hn hC q;obtain⟨c0,c1,_,c3,c4,c5⟩:=hC;exact⟨m,hn,λh' sb=>⟨.ref D,H',J.turned (t':=s'.toks) (λb o hb e=>(sb.2 b hb).trans e) c0 c1 c3 c4 c5,rfl,q⟩⟩
theorem mI{i:Nat}{y:Str}{py spos:Pos}(hN:X.N.Nodup)(hy:X.N[i]? = some y)(hly:Loc X.env.scope y)(hc:X.calm=true)(ok:cn X N' scope cl src)(hi:PI X tgt iter wi)
  (hg:∀C s₀ H₀ fp pins,PG (dq X N' scope cl C s₀ H₀ fp pins) tgt g) (ht:∀C s₀ H₀ fp pins,nh (dq X N' scope cl C s₀ H₀ fp pins) ifs tt) (he:∀C s₀ H₀ fp pins,PE (dq X N' scope cl C s₀ H₀ fp pins) elt te)
  (hsw:swapsWith (.ListComp elt [⟨tgt,iter,ifs,0⟩] scope pos) (some (.Name y py)) spos.line X.env=pure true:=by rfl)
  (hs:∀x,foldedSetIterable iter X.env x=pure x:=by intro _;rfl) (hf:X.fn y=true\/X.env.scope.names.lookup y=some .local:=by first | exact .inl rfl | exact .inr rfl | assumption) :
  PS X (.Assign [.Name y py] (.ListComp elt [⟨tgt,iter,ifs,0⟩] scope pos) spos) (kN (ju src wi g tt te) (gg i)):=by
 intro pins s σ H D0 I h;rw[exec_Assign_Name_used _ _ _ _ hsw];refine we (qU (we ?_))
 show wq _ X.A (do let _ <- comprehension (.ListComp elt [⟨tgt,iter,ifs,0⟩] scope pos) scope X.env _ (newList []) false (eval iter X.env) (some (assign (.Name y py) X.env))) _ _ s
 refine we (WA (Qq (Q:=λ_ s'=>SP X pins D0 .next s') rfl hs ok.jF.jF ok.kind ok.names (aJ (hi pins s σ H _ I h) λv s1 h1=>aJ h1 λitv s2 h2=>?_))
  (λ_ s' hq=>wo (wo hq)) λ_ _ e=>e)
 obtain⟨it,fp,tn,J,H2,e,I2,T,st2,f2,rd⟩:=h2;subst e;refine Dp (RQ:=λD H'=>gg i (.ref D) σ H' D0.nx) (RR:=λacc C=>compPost (model X.prog X.w) X.A X.xe (some (assign (.Name y py) X.env)) (λ_ s'=>SP X pins D0 .next s') acc C) (λ_ _ _=>T.JE rfl rfl rfl hc) ok hg ht he I2 T st2 f2 rd ?_;intro D C H' s' m J hn hC q;obtain⟨c0,c1,_,c3,c4,c5⟩:=hC
 show wq _ _ (assign (.Name y py) X.env (.ref D)) _ _ s'
 refine wpAny_assign_Name (CD J hN hy hly (v:=.ref D) rfl (λs'' J2 ⟨a,sb,ha⟩=>?_) hf)
 have hCa:C≠a:=by
  rcases ha with z | z
  ·rw[z];exact c1
  ·exact(c4 y a z).symm
 exact⟨m,hn.sameBut sb hCa,λh' sb'=>⟨_,H',J2.turned (t':=s''.toks) (λb o hb e=>(sb'.2 b hb).trans e) c0 c1 c3 c4 c5,q⟩⟩
end
abbrev Ml(h B:wH)(e:wf)(cls:wg):Prop :=
 ∃oe vs,h.get? e=some oe/\oe.cls=cls/\oe.data=.fields vs/\vs[1]? = some .none/\vs[2]? = some .none/\oe.dict=none/\B.get? e=none
abbrev Rj(h B:wH)(e:wf)(cls fl:wg):Prop :=
 ∃oe vs T oT ts,h.get? e=some oe/\oe.cls=cls/\oe.data=.fields vs/\vs[1]? = some (.ref T)/\vs[2]? = some .none/\oe.dict=none/\B.get? e=none/\B.get? T=none/\T≠e/\h.get? T=some oT/\oT.data=.fields ts/\ts[3]? = some fl
structure eW(B:wH)(l:List Env)(e:wf)(cls fl:wg)(h:wH):Prop where
 st:B.StaysIn h
 fr:h.FunFrames B l
 tr:Rj h B e cls fl
theorem zqz{f:Array wg->Array wg}(o:Obj):(qT f o).dict=o.dict:=by
 obtain⟨c,d,dt,sl⟩:=o;cases dt<;>rfl
theorem lC{h:wH}{T:wf}{f:Obj->Obj}{b:wf}(n:b≠T):(h.update T f).get? b=h.get? b:=WB _ _ (Wp n)
theorem m8{h:wH}{T b:wf}{oT o:Obj}{ts:Array wg}(hT:h.get? T=some oT)(dT:oT.data=.fields ts)(hb:h.get? b=some o)(hn:∀vs,o.data≠.fields vs):b≠T:=by
 rintro rfl;rw[hT]at hb;cases hb;exact hn _ dT
theorem Cp{B:wH}{T b:wf}{o:Obj}(n:B.get? T=none)(q:B.get? b=some o):b≠T:=by
 rintro rfl;rw[n]at q;cases q
section
variable{M:Model}{A:wW}{E:wg->wl->Prop}{s:wl}{B:wH}{l outer:List Env}{env:Env}{L e:wf}{cls fl:wg}{Q:Unit->wl->Prop}
theorem eW.land(F:eW B l e cls fl s.heap)(k:∀h',eW B l e cls .none h'->s.heap.UpToSlots h'->Q () {s with heap:=h'}):wq M A (setFlight (.ref e) none) Q E s:=by
 obtain⟨st,fr,oe,vs,T,oT,ts,he,hc,hd,h1,h2,hdi,be,bT,ne,hT,dT,h3⟩:=F;have sz:3<ts.size:=(Va.mp h3).1;unfold setFlight;refine we (vk he hd h1 ?_);rw[if_pos (by simp)];have at3:∀b,b≠T->(s.heap.update T (qT (·.setIfInBounds 3 Value.none))).get? b=s.heap.get? b:=λb n=>lC n
 have tr:Rj (s.heap.update T (qT (·.setIfInBounds 3 Value.none))) B e cls .none :=
  ⟨oe,vs,T,qT (·.setIfInBounds 3 Value.none) oT,ts.setIfInBounds 3 Value.none,(at3 e ne.symm).trans he,hc,hd,h1,h2,hdi,be,bT,ne,
   Vh _ hT (qG (ql dT _)),ql dT _,by simp[sz]⟩
 refine VB hT dT sz (k _ ⟨λb o q=>(at3 b (Cp bT q)).trans (st b o q),fr.of_keeps λb o hb hn=>⟨o,(at3 b (m8 hT dT hb hn)).trans hb,rfl⟩,tr⟩ λb o hb hn=>⟨o.slots,(at3 b (m8 hT dT hb hn)).trans hb⟩)
theorem IM{oe:Obj}{vs:Array wg}{head:wg}{had:Bool}(hfr:A.frames=some (env::outer))(hf:env.frame=some L)(st:B.StaysIn s.heap)(fr:s.heap.FunFrames B (env::outer))(he:s.heap.get? e=some oe)
  (hd:oe.data=.fields vs) (sz:1<vs.size) (h2:vs[2]? = some .none) (hdi:oe.dict=none) (be:B.get? e=none) (k:∀h',eW B (env::outer) e oe.cls (VY L) h'->s.heap.UpToSlots h'->Q () {s with heap:=h'}) :
  wq M A (do let a <- frameOf env;let pl <- entryPlaceOf L had;let b <- XB head a .none (VY L) .none pl;setField (.ref e) 1 b) Q E s:=by
 have nfr:e ∉ (env::outer).filterMap (·.frame):=λz=>by
  obtain⟨_,o,ho,hnf⟩:=fr.mem z;rw[he]at ho;cases ho;exact hnf vs hd
 refine we (wpAny_frameOf_fun hfr fr hf λg sg=>we (wpAny_entryPlaceOf λpl hpl=>?_));unfold XB newFields;refine we (Ww ?_ (hpl.sizeOk5 _ _ _ _ _));have eg:g.get? e=some oe:=(sg.2.1 e nfr).trans he
 have stg:B.StaysIn g:=λb o q=>by
  rw[sg.2.1 b λz=>?_]
  ·exact st b o q
  ·rw[(fr.mem z).1]at q;cases q
 generalize hob:({cls:=.type "traceback",data:=.fields ([head,.ref L,.none,VY L,.none]++(if pl.isEmpty then Qr 6 Value.none else pl)).toArray} : Obj)=tb;have dtb:tb.data=.fields ([head,.ref L,.none,VY L,.none]++(if pl.isEmpty then Qr 6 Value.none else pl)).toArray:=by rw[<- hob]
 have ftb:tb.isFreed=false:=qG dtb;have e2:=wn (h:=g) tb eg;have neT:g.objs.size≠e:=vi (wA eg)
 have at3:∀b o,b≠e->g.get? b=some o->((g.push tb).update e (qT (·.setIfInBounds 1 (.ref g.objs.size)))).get? b=some o:=λb o n q=>by
  rw[lC n];exact wn _ q
 refine VB e2 hd sz (k _ ?_ ?_)
 ·have d3:=ql hd (·.setIfInBounds 1 (Value.ref g.objs.size))
  refine⟨λb o q=>at3 b o (Cp be q) (stg b o q),fr.of_keeps λb o hb hn=>?_,_,_,g.objs.size,tb,_,Vh _ e2 (qG d3),ud _ _,d3,by simp[sz],?_,?_,be,stg.fresh,neT,?_,dtb,?_⟩
  ·obtain⟨sl,q⟩:=sg.2.2 b o hb
   exact⟨_,at3 b _ (m8 he hd hb hn) q,rfl⟩
  ·rw[Array.getElem?_setIfInBounds_ne (by decide)];exact h2
  ·exact(zqz oe).trans hdi
  ·rw[lC neT];exact wP _ ftb
  ·first | (simp;done) | (rcases hpl with rfl | ⟨_,_,_,_,_,_,_,rfl⟩<;>simp)
 ·exact λb o hb hn=>by
   obtain⟨sl,q⟩:=sg.2.2 b o hb;exact⟨sl,at3 b _ (m8 he hd hb hn) q⟩
theorem zuK(hfr:A.frames=some (env::outer))(hf:env.frame=some L)(st:B.StaysIn s.heap)(fr:s.heap.FunFrames B (env::outer))(t:Ml s.heap B e cls)
  (k:∀h',eW B (env::outer) e cls (VY L) h'->s.heap.UpToSlots h'->Q () {s with heap:=h'}):wq M A (noteFrame (.ref e) env) Q E s:=by
 obtain⟨oe,vs,he,hc,hd,h1,h2,hdi,be⟩:=t;subst hc;unfold noteFrame;simp only[hf];refine we (vk he hd h1 ?_);rw[if_neg (by decide)];exact IM hfr hf st fr he hd (Va.mp h1).1 h2 hdi be k
theorem eW.note(F:eW B (env::outer) e cls .none s.heap)(hfr:A.frames=some (env::outer))(hf:env.frame=some L)
  (k:∀h',eW B (env::outer) e cls (VY L) h'->s.heap.UpToSlots h'->Q () {s with heap:=h'}):wq M A (noteFrame (.ref e) env) Q E s:=by
 obtain⟨st,fr,oe,vs,T,oT,ts,he,hc,hd,h1,h2,hdi,be,bT,ne,hT,dT,h3⟩:=F;subst hc;unfold noteFrame;simp only[hf];refine we (vk he hd h1 ?_);rw[if_pos (by simp)];refine we (vk hT dT h3 ?_);rw[if_neg (by simp[VY])];refine we (VB hT dT (Va.mp h3).1 ?_);refine IM hfr hf (λb o q=>?_) (fr.of_keeps λb o hb hn=>⟨o,?_,rfl⟩) ?_ hd (Va.mp h1).1 h2 hdi be λh' F' sm=>k h' F' λb o hb hn=>sm b o ?_ hn
 ·show(qu _ _ _).get? b=_
  rw[lC (Cp bT q)];exact st b o q
 ·show(qu _ _ _).get? b=_
  rw[lC (m8 hT dT hb hn)];exact hb
 ·show(qu _ _ _).get? e=_
  rw[lC ne.symm];exact he
 ·show(qu _ _ _).get? b=_
  rw[lC (m8 hT dT hb hn)];exact hb
theorem U_(hfr:A.frames=some (env::outer))(hf:env.frame=some L)(st:B.StaysIn s.heap)(fr:s.heap.FunFrames B (env::outer))(t:Ml s.heap B e cls)
  (k:∀h',eW B outer e cls .none h'->s.heap.UpToSlots h'->Q () {s with heap:=h'}):wq M A (leaving env (.ref e)) Q E s:=by
 unfold leaving;refine we (zuK hfr hf st fr t λh1 F1 s1=>eW.land F1 λh2 F2 s2=>k h2 ⟨F2.st,F2.fr.2.2,F2.tr⟩ (s1.trans s2))
theorem eW.leave(F:eW B (env::outer) e cls .none s.heap)(hfr:A.frames=some (env::outer))(hf:env.frame=some L)
  (k:∀h',eW B outer e cls .none h'->s.heap.UpToSlots h'->Q () {s with heap:=h'}):wq M A (leaving env (.ref e)) Q E s:=by
 unfold leaving;refine we (F.note hfr hf λh1 F1 s1=>eW.land F1 λh2 F2 s2=>k h2 ⟨F2.st,F2.fr.2.2,F2.tr⟩ (s1.trans s2))
end
theorem dA.there{P:wJ}{w:wM}{H:Hp}{h:wH}{a:wf}{o:HO}(x:dA P w H h a o):∃u,h.get? a=some u:=by
 cases o with
 | lst xs=>obtain⟨_,_,_,_,e⟩:=x;exact⟨_,e⟩
 | tup xs=>obtain⟨_,_,_,_,e,_⟩:=x;exact⟨_,e⟩
 | dK kvs=>obtain⟨_,_,_,_,o,_,_,e,_⟩:=x;exact⟨_,e⟩
 | dT kvs=>obtain⟨_,_,_,_,o,_,_,e,_⟩:=x;exact⟨_,e⟩
 | set S n=>obtain⟨o,_,_,_,e,_⟩:=x;exact⟨_,e⟩
 | ins C dx fs=>obtain⟨_,_,_,e,_⟩:=x;exact⟨_,e⟩
 | own y=>exact x
 | xd fs=>obtain⟨_,⟨_,_,_,e,_⟩,_⟩:=x;exact⟨_,e⟩
 | sP lo hi=>obtain⟨_,_,_,e⟩:=x;exact⟨_,e⟩
 | fo ob u=>obtain⟨e,_⟩:=x;exact⟨_,e⟩
 | km ps=>exact⟨_,x⟩
 | met f y=>exact⟨_,x⟩
 | ext φ=>obtain⟨_,e,_⟩:=x;exact e
structure mW(B:wH)(fs:List wf)(H H':Hp)(h:wH):Prop where
 iN:∀a o,H' a=some o->∃u,B.get? a=some u
 old:∀b o,h.get? b=some o->H b=none->b ∉ fs->B.get? b=some o
 pO:∀b o,h.get? b=some o->b ∉ fs->∃u,B.get? b=some u
def eJ(P:wJ)(w:wM):fv:=λouter H s E e s'=>∃(ex:wf)(C:wg)(H':Hp)(B:wH),e=.ref ex/\s'.os=s.os/\AllBare s'.gens/\Un (dr outer) [] H H' s.heap s'.heap/\cX P w H' s'.heap /\
 eW B outer ex C .none s'.heap/\mW B (dr outer) H H' s.heap/\E C none H'
section
variable{B h h1 h':wH}{fs:List wf}{H H':Hp}{P:wJ}{w:wM}
theorem mW.un(ov:mW B fs H H' h)(un:Un fs [] H H' h h1)(hfs:∀b∈fs,H b=none /\ ∃o,h.get? b=some o /\ ∀vs,o.data≠.fields vs)(st:B.StaysIn h')(sm:h1.UpToSlots h'):Un fs [] H H' h h':=by
 have slot:∀b o,h.get? b=some o->b∈fs->∃sl,h'.get? b=some {o with slots:=sl}:=λb o e hb=>by
  obtain⟨n,o',ho',nr⟩:=hfs b hb;rw[e]at ho';cases ho';obtain⟨sl,e1⟩:=un.any e n (by simp);obtain⟨sl2,e2⟩:=sm b _ e1 nr;exact⟨sl2,e2⟩
 refine⟨λb o e n nf _=>st b o (ov.old b o e n nf),λb o e _ hb _=>slot b o e hb,un.free,λb o e _=>?_,un.gK,un.gj,un.gL⟩
 by_cases hb:b∈fs
 ·obtain⟨sl,e1⟩:=slot b o e hb
  exact⟨_,e1⟩
 ·obtain⟨u,e1⟩:=ov.pO b o e hb
  exact⟨u,st b u e1⟩
theorem mW.aF(ov:mW B fs H H' h)(aF:cX P w H' h1)(st1:B.StaysIn h1)(st:B.StaysIn h'):cX P w H' h':=λa o e=>by
 refine(aF a o e).jG (λb u hb r=>?_) (λ_ z=>z) λ_ _ z=>z
 have:∃v,B.get? b=some v:=by
  rcases hb with rfl | hb
  ·exact ov.iN _ _ e
  ·exact ov.iN _ _ hb
 obtain⟨v,ev⟩:=this;have e2:=st1 b v ev;rw[r]at e2;cases e2;exact st b u ev
end
section
variable{X:Cx}{pins:List (wf × Obj)}{σ : St}{H H':Hp}{s s':wl}{B:wH}{ex:wf}{C:wg}{E:XK}{E':wg->wl->Prop}
theorem N0(I:Inv X pins σ H s)(hx:X.ex=[])(os:s'.os=s.os)(bare:AllBare s'.gens)(un:Un (dr X.stack) [] H H' s.heap s'.heap)(aF:cX X.prog X.w H' s'.heap)(stB:B.StaysIn s'.heap)(ov:mW B (dr X.stack) H H' s.heap)
  (q:E C none H') (fly:∀(Q:Unit->wl->Prop),(∀h',eW B X.outer ex C .none h'->s'.heap.UpToSlots h'->Q () {s' with heap:=h'})->wq (model X.prog X.w) X.A (leaving X.env (.ref ex)) Q E' s') :
  wq (model X.prog X.w) X.A (leaving X.env (.ref ex)) (λ_ s''=>eJ X.prog X.w X.outer X.H₀ X.s₀ E (.ref ex) s'') E' s':=by
 have base:Un X.fs [] X.H₀ H X.s₀.heap s.heap:=by have:=I.base;rwa[hx]at this
 have nL:∀b o,X.s₀.heap.get? b=some o->b ∉ X.fs->b ∉ dr X.stack:=λb o e n z=>by
  rcases wQ.mp (I.kQ b z)with r | r
  ·exact wL (wU (wA e) I.ok.above) r
  ·exact n r
 have old:∀b o,X.s₀.heap.get? b=some o->X.H₀ b=none->b ∉ X.fs->B.get? b=some o:=λb o e n nf =>
  ov.old b o (base.keep b o e n nf (by simp)) (base.free b o e n (by simp)) (nL b o e nf)
 have pO:∀b o,X.s₀.heap.get? b=some o->b ∉ X.fs->∃u,B.get? b=some u:=λb o e nf=>by
  obtain⟨o',e1⟩:=base.there b o e (by simp);exact ov.pO b o' e1 (nL b o e nf)
 refine fly _ λh' F sm=>⟨ex,C,H',B,rfl,os.trans I.os,bare,⟨λb o e n nf _=>F.st b o (old b o e n nf),λb o e n hb _=>?_,λb o e n _=>?_,λb o e _=>?_,λb xs e=>un.gK b xs (base.gK b xs e),
  λb o u e=>un.gj b o u (base.gj b o u e),λb ps e=>?_⟩,λa o e=>?_,F,⟨ov.iN,old,pO⟩,q⟩
 ·obtain⟨sl,e1⟩:=base.slot b o e n hb (by simp)
  obtain⟨sl',e2⟩:=un.any e1 (base.free b o e n (by simp)) (by simp);obtain⟨_,o',ho',nr⟩:=I.ok.eB.mem hb;rw[e]at ho';cases ho';obtain⟨sl2,e3⟩:=sm b _ e2 nr;exact⟨sl2,e3⟩
 ·obtain⟨o',e1⟩:=base.there b o e (by simp)
  exact un.free b o' e1 (base.free b o e n (by simp)) (by simp)
 ·by_cases hb:b∈X.fs
  ·obtain⟨_,o',ho',nr⟩:=I.ok.eB.mem hb
   rw[e]at ho';cases ho';have n:X.H₀ b=none:=I.ok.gW b hb;obtain⟨sl,e1⟩:=base.slot b o e n hb (by simp);obtain⟨sl',e2⟩:=un.any e1 (base.free b o e n (by simp)) (by simp);obtain⟨sl2,e3⟩:=sm b _ e2 nr;exact⟨_,e3⟩
  ·obtain⟨u,e1⟩:=pO b o e hb
   exact⟨u,F.st b u e1⟩
 ·obtain⟨m1,e1⟩:=base.gL b ps e
  obtain⟨m2,e2⟩:=un.gL b _ e1;exact⟨m1++m2,by rw[e2,XJ]⟩
 ·refine(aF a o e).jG (λb u hb r=>?_) (λ_ z=>z) λ_ _ z=>z
  have:∃v,B.get? b=some v:=by
   rcases hb with rfl | hb
   ·exact ov.iN _ _ e
   ·exact ov.iN _ _ hb
  obtain⟨v,ev⟩:=this;have e2:=stB b v ev;rw[r]at e2;cases e2;exact F.st b u ev
theorem zvw{e:wg}(I:Inv X pins σ H s)(hx:X.ex=[])(hs:X.stack=X.env::X.outer)(hf:X.env.frame=some X.env.locals)(h:eJ X.prog X.w X.stack H s E e s') :
  wq (model X.prog X.w) X.A (leaving X.env e) (λ_ s''=>eJ X.prog X.w X.outer X.H₀ X.s₀ E e s'') E' s':=by
 obtain⟨ex,C,H',B,rfl,os,bare,un,aF,F,ov,q⟩:=h;rw[hs]at F;exact N0 I hx os bare un aF F.st ov q λQ k=>F.leave (I.ok.frames.trans (congrArg some hs)) hf k
theorem ztq{h':wH}{vs:List wg}(I:Inv X pins σ H s)(hx:X.ex=[])(hs:X.stack=X.env::X.outer)(hf:X.env.frame=some X.env.locals)(m:Uj s.heap h' ex C vs)(q:E C none H) :
  wq (model X.prog X.w) X.A (leaving X.env (.ref ex)) (λ_ s''=>eJ X.prog X.w X.outer X.H₀ X.s₀ E (.ref ex) s'') E' {s with heap:=h'}:=by
 obtain⟨B,hB⟩:∃B,B=uR s.heap (dr X.stack):=⟨_,rfl⟩;have hin:∀env∈X.stack,∀b,env.frame=some b->b∈dr X.stack:=λenv he b hb=>Qg.mpr ⟨env,he,hb⟩
 have frB:s.heap.FunFrames B X.stack:=by rw[hB];exact PySem.W.funFrames_hide I.stack hin
 have getB:∀{b o},s.heap.get? b=some o->b ∉ dr X.stack->B.get? b=some o:=λe n=>by rw[hB];exact Xy _ e n
 have ofB:∀{b o},B.get? b=some o->s.heap.get? b=some o:=λr=>by rw[hB]at r;exact XI _ r
 have nfr:∀a o,H a=some o->a ∉ dr X.stack:=λa o e z=>by
  have:=I.rS a z;rw[e]at this;cases this
 obtain⟨t,he,_,_⟩:=m.there
 refine N0 (B:=B) (s':={s with heap:=h'}) I hx rfl I.bare (Un.kept m.keeps) (I.aF.kept m.keeps) (λb o r=>m.keeps b o (ofB r))
  ⟨λa o e=>?_,λb o e _ nf=>getB e nf,λb o e nf=>⟨o,getB e nf⟩⟩ q λQ k=>?_
 ·obtain⟨u,e1⟩:=(I.aF a o e).there
  exact⟨u,getB e1 (nfr a o e)⟩
 ·rw[hs]at frB
  refine U_ (s:={s with heap:=h'}) (I.ok.frames.trans (congrArg some hs)) hf (λb o r=>m.keeps b o (ofB r)) (frB.of_keeps λb o hb _=>⟨o,m.keeps b o hb,rfl⟩) ⟨_,_,he,rfl,rfl,rfl,rfl,rfl,?_⟩ k;cases z:B.get? ex with
  | none=>rfl
  | some o =>
   have:=ofB z;rw[m.new]at this;cases this
end
theorem tY{P:wJ}{w:wM}{K:wb}{mg:Str->Option wg}{base:wH}{N:List Str}{qual:Str}{scope:Scope}{f:wf}{cd:wg}{A:wW}{outer:List Env}{s:wl}{H:Hp}{E:XK} :
  nB (eJ P w) (gF (eJ P w) P w K mg base N qual scope f cd A outer s H E) E:=λpins σ H1 s1 e s' I h=>zvw I rfl rfl rfl h
def Jv(X:Cx)(C:wg)(E:XK):Prop:=∀(pins:List (wf × Obj))(σ : St)(H:Hp)(s:wl)(h':wH)(ex:wf)(vs:List wg),Inv X pins σ H s->Uj s.heap h' ex C vs->E C none H->X.xe (.ref ex) {s with heap:=h'}
theorem OR{P:wJ}{w:wM}{K:wb}{mg:Str->Option wg}{base:wH}{N:List Str}{qual:Str}{scope:Scope}{f:wf}{cd C:wg}{A:wW}{outer:List Env}{s:wl}{H:Hp}{E:XK} :
  Jv (gF (eJ P w) P w K mg base N qual scope f cd A outer s H E) C E:=λpins σ H1 s1 h' ex vs I m q=>ztq I rfl rfl rfl m q
def oM:List wg:=[.type "ValueError",.type "Exception",.type "BaseException",.type "object"]
theorem zyO{K:wb}{h:wH}{C:wf}{bmB:List wg}{newId:String}(X:K.In h)(q:qj K C bmB newId=true) :
  ∃bm N nm qn bs hd sn sub ab col dd k0 k1 k2 k3 k5 mN,h.get? C=some (excClassObj nm qn C N bs bm hd sn sub ab col dd k0 k1 k2 k3 k5 newId)/\h.Ns N mN/\mN "__init__"=none/\OwnTail h bmB bm:=by
 unfold qj at q
 split at q
 case h_2=>cases q
 rename_i dd cd sl ho
 split at q
 case h_2=>cases q
 rename_i C' bm k0 k1 k2 k3 n k5 hm hs;simp only[w8,beq_iff_eq,WT]at q;obtain⟨⟨⟨⟨⟨rfl,rfl⟩,hdel⟩,ht⟩,aF⟩,hni⟩:=q;obtain⟨nm,bs,mro,ns,qn,hd,sn,sub,ab,col,del⟩:=cd;dsimp only at hm hdel aF hni;subst hm hdel
 have e:sl = #[k0,k1,k2,k3,some (.builtin n),k5]:=by
  cases sl;simp only at hs;rw[hs]
 subst e;exact⟨bm,ns,nm,qn,bs,hd,sn,sub,ab,col,dd,k0,k1,k2,k3,k5,_,X _ _ ho,.of_isNs (PySem.W.isNs_of_in X aF),PySem.W.nsMap_none_of_in X aF hni,PySem.W.tail_of_in X ht⟩
section
variable{X:Cx}{x:Str}{C:wf}{E:XK}{e:Expr}{es:List Expr}{t:TA}{np cpos pos:Pos}
def Kw(C:wg)(E:XK)(t:TA):TS:=λ_ σ H=>t σ H λvs H1=>vs.length<=vd/\E C none H1
theorem Kr(q:qj X.K C oM "ValueError.__new__"=true)(hc:X.calm=true)(hg:Gl X x)(hm:X.mg x=some (.ref C))(Z:Jv X (.ref C) E)(ha:PA X (e::es) t)(hdb:(x == ("__debug__" : Str))=false:=by decide)
  (he:va (e::es) X.env=(false,eval e X.env)::va es X.env:=by rfl) (hpl:(Vs cpos (va es X.env)).any (·.1)=false:=by rfl) :
  PS X (.Raise (some (.Call (.Name x np) (e::es) [] cpos)) none pos) (Kw (.ref C) E t):=by
 intro pins s σ H D I h;obtain⟨bm,N,nm,qn,bs,hd,sn,sub,ab,col,dd,k0,k1,k2,k3,k5,mN,hC,hN,hni,T⟩:=zyO I.ok.mod.lS q
 refine wpAny_Raise_call_subU (C:=C) (nm:=nm) (q:=qn) (N:=N) (bs:=bs) (bm:=bm) (hdct:=hd) (sn:=sn) (sub:=sub) (ab:=ab) (col:=col) (dd:=dd) (k0:=k0) (k1:=k1) (k2:=k2) (k3:=k3) (k5:=k5)
  Xp (by decide) Xp (mN:=mN) (T.hasType (by decide)) (I.ok.hd hc) (by rw[he];show(false || (Vs cpos (va es X.env)).any (·.1))=false;rw[hpl];rfl) hni (mm I hg hm ⟨rfl,?_⟩ hdb)
 have ha':=ha cpos pins s σ H _ I h;rw[he]at ha' ⊢;refine Xm (WA ha' (λus s2 ⟨vs,H2,I2,r,z,q2⟩=>⟨rfl,by rw[<- r.length];exact z,I2.bk _ _ hC,hN.keeps I2.bk,T.keeps I2.bk,λh' ex m=>Z pins σ H2 s2 h' ex us I2 m q2⟩) λ_ _ y=>y)
end
abbrev Cx.at(X:Cx)(pn:List (wf × Obj))(E:wg->wl->Prop):Cx:={X with pn:=pn,xe:=E}
abbrev Cx.oA(X:Cx)(pn:List (wf × Obj))(ex:wf)(oe:Obj):Cx:={X with pn:=pn++[(ex,oe)],xe:=λ_ _=>False,A:=X.A.mark (some (.ref ex)),calm:=false}
section
variable{X:Cx}{pins pins':List (wf × Obj)}{σ : St}{H:Hp}{s:wl}{ex:wf}{oe:Obj}
theorem Inv.UP(I:Inv X pins σ H s)(E:wg->wl->Prop):Inv (X.at (X.pn++pins) E) [] σ H s :=
 ⟨⟨I.ok.mod,I.ok.kind,I.ok.glob,I.ok.blt,I.ok.above,I.ok.inj,I.ok.has,I.ok.jS,I.ok.hd,I.ok.frames,I.ok.ki,I.ok.nV,I.ok.bs,I.ok.gm,I.ok.jE,I.ok.kg,I.ok.eB,I.ok.gW⟩,I.os,I.bare,I.base,I.loc,I.cell,I.free,I.fg,
  λp hp=>I.pin p (by rw[Wl]at hp;exact hp),I.aF,I.len⟩
theorem Inv.oB{E:wg->wl->Prop}(I:Inv (X.at (X.pn++pins) E) pins' σ H s):Inv X pins σ H s :=
 ⟨⟨I.ok.mod,I.ok.kind,I.ok.glob,I.ok.blt,I.ok.above,I.ok.inj,I.ok.has,I.ok.jS,I.ok.hd,I.ok.frames,I.ok.ki,I.ok.nV,I.ok.bs,I.ok.gm,I.ok.jE,I.ok.kg,I.ok.eB,I.ok.gW⟩,I.os,I.bare,I.base,I.loc,I.cell,I.free,I.fg,
  λp hp=>I.pin p (Wo _ hp),I.aF,I.len⟩
theorem Inv.TM(I:Inv X pins σ H s)(he:s.heap.get? ex=some oe)(hn:H ex=none)(nl:ex≠X.env.locals)(nf:ex ∉ X.fs)(nc:∀v,oe.data≠.cell v):Inv (X.oA (X.pn++pins) ex oe) [] σ H s :=
 ⟨⟨I.ok.mod,I.ok.kind,I.ok.glob,I.ok.blt,I.ok.above,I.ok.inj,I.ok.has,I.ok.jS,λz=>uJ z,I.ok.frames,I.ok.ki,I.ok.nV,I.ok.bs,I.ok.gm,I.ok.jE,I.ok.kg,I.ok.eB,I.ok.gW⟩,I.os,I.bare,I.base,I.loc,I.cell,I.free,I.fg,
  λp hp=>by
   rw[Wl]at hp;rcases We.mp hp with z | z
   ·exact I.pin p z
   ·cases w5.mp z
    exact⟨he,hn,nl,nf,nc⟩,I.aF,I.len⟩
theorem Inv.r_(ok:X.Ok)(I:Inv (X.oA (X.pn++pins) ex oe) pins' σ H s):Inv X pins σ H s :=
 ⟨ok,I.os,I.bare,I.base,I.loc,I.cell,I.free,I.fg,λp hp=>I.pin p (Wo _ (Wo _ hp)),I.aF,I.len⟩
theorem Inv.gone{M:Model}{A:wW}{E:wg->wl->Prop}{Q:Unit->wl->Prop}{i:Nat}{n:Str}{hp:Pos}(I:Inv X pins σ H s)(hN:X.N.Nodup)(hi:X.N[i]? = some n)(hl:X.env.scope.names.lookup n=some .local)
  (k:∀s',Inv X pins (σ.set i none) H s'->Q () s'):wq M A (do bindName X.env n .none;unbindBehindTheSuite X.env n hp) Q E s:=by
 obtain⟨m,hn,hl'⟩:=id I.loc;have hcls:(X.env.scope.kind == .class || (X.env.scope.kind == .module&&X.env.locals != X.env.globals))=false:=by rw[I.ok.kind];rfl
 have lt:∀b o,X.s₀.heap.get? b=some o->b≠X.env.locals:=λb o e=>wL (wU (wA e) I.ok.above)
 refine wpAny_nameGoes_keeps hl hn hcls λh' v hn' hs=>k _ ⟨I.ok,I.os,I.bare,⟨λb o e z hb hx=>?_,λb o e z hb hx=>?_,I.base.free,λb o e hx=>?_,I.base.gK,I.base.gj,I.base.gL⟩,⟨_,hn',λj y v' e1 e2 e3=>?_⟩,λy c e=>?_,I.free,I.fg,λp hp=>?_,λb ob e=>?_,?_⟩
 ·exact(hs.2 b (lt b o e)).trans (I.base.keep b o e z hb hx)
 ·obtain⟨sl,e1⟩:=I.base.slot b o e z hb hx
  exact⟨sl,(hs.2 b (lt b o e)).trans e1⟩
 ·obtain⟨o',e1⟩:=I.base.there b o e hx
  exact⟨o',(hs.2 b (lt b o e)).trans e1⟩
 ·have hj:j≠i:=λz=>by
   subst z;rw[VT]at e2
   split at e2
   ·split at e2<;>cases e2
   ·exact absurd rfl ‹_›
  rw[QE (Wp hj)]at e2;obtain⟨u',r',q⟩:=hl' j y v' e1 e2 e3;refine⟨u',r',?_⟩;rcases q with⟨k,e⟩ | ⟨k,c,e,z⟩
  ·refine .inl ⟨k,?_⟩
   have ne:y≠n:=λe=>hj (CC hN e1 (e ▸ hi))
   simp[ne,e]
  ·exact .inr ⟨k,c,e,z.sameBut hs (I.ja y c e)⟩
 ·obtain⟨w',z⟩:=I.cell y c e
  exact⟨w',z.sameBut hs (I.ja y c e)⟩
 ·obtain⟨e,z,ne,nf,d⟩:=I.pin p hp
  exact⟨(hs.2 p.1 ne).trans e,z,ne,nf,d⟩
 ·refine(I.aF b ob e).jG (λc w' hc q=>(hs.2 c ?_).trans q) (λ_ q=>q) λ_ _ q=>q
  rintro rfl;have f:=I.free;rcases hc with hc | hc
  ·rw[hc,e]at f;cases f
  ·rw[hc]at f;cases f
 ·rw[VM];exact I.len
end
def JH(CX:fv)(X:Cx)(W:St->XK):Prop:=∀(pins:List (wf × Obj))(σ : St)(H:Hp)(s:wl)(e:wg)(s':wl),Inv X pins σ H s->CX X.stack H s (W σ) e s'->X.xe e s'
def EJ(sp:Sp)(W:St->XK)(t:TA):TE:=λσ H Q=>t σ H λvs H1=>sp vs H1 Q (W σ)
section
variable{X:Cx}{CX:fv}{k:Nat}{f:wf}{fd:wG}{ps:List Str}{sp:Sp}{W:St->XK}{x:Str}{p pos:Pos}{e:Expr}{es:List Expr}{t:TA}
theorem zwS(F:aN X.prog X.w X.K X.mg X.base CX k f fd ps sp)(hr:dF k X.A)(hg:Gl X x)(hm:X.mg x=some (.ref f))(hk:Vz X.K (.ref f)=true)(hb:kG X.K fd ps [])(hx:JH CX X W)
  (ha:PA X (e::es) t) (hdb:(x == ("__debug__" : Str))=false:=by decide) (he:va (e::es) X.env=(false,eval e X.env)::va es X.env:=by rfl) (hpl:(Vs pos (va es X.env)).any (·.1)=false:=by rfl) :
  PE X (.Call (.Name x p) (e::es) [] pos) (EJ sp W t):=by
 intro pins s σ H Q I h;refine qq (mm I hg hm ?_ hdb);refine Q4 (h₀:=X.base) I.ok.mod.lS hk (aJ (ha pos pins s σ H _ I h) λus s1 ⟨vs,H1,I1,r,q⟩=>⟨I1.cW,?_⟩) he hpl;have hl:us.length=ps.length:=by rw[<- r.length];exact F.len _ _ _ _ q
 have hbd:BindsTo s1 fd ⟨us,[]⟩ (ps.zip us):=by simpa using hb s1 us I1.cW (by simpa using hl)
 refine wpAny_call (qJ (F.run X.A X.stack s1 H1 ⟨us,[]⟩ us vs Q (W σ) hr I1.A1 hbd r q) λr s' hq=>?_);cases r with
 | error e=>exact hx pins σ H1 s1 e s' I1 hq
 | ok fl =>
  cases fl with
  | ret u=>exact I1.after hq
  | next=>exact Wx hq
  | brk=>exact Wx hq
  | cont=>exact Wx hq
end
def LD(K:wb)(G:wg)(i:Nat)(tb:(St->XK)->TS)(th:wf->wg->TS):TS:=λD σ H=>∃W:St->XK,tb W D σ H /\ ∀σ' C o H',W σ' C o H'->qH K C G=some true /\
 ∀ex,H' ex=none->th ex C {nx:=λσ2 H2=>D.nx (σ2.set i none) H2,rt:=D.rt,bk:=λσ2 H2=>D.bk (σ2.set i none) H2,ct:=λσ2 H2=>D.ct (σ2.set i none) H2} (σ'.set i (some (.ref ex))) H'
structure yn(C:wg)(oe:Obj):Prop where
 cls:oe.cls=C
 fld:∃vs,oe.data=.fields vs/\vs[2]? = some .none
 dict:oe.dict=none
section
variable{X:Cx}{x n:Str}{G:wg}{i:Nat}{b₀ : vj}{body suite:List vj}{np hpos pos:Pos}{tb:(St->XK)->TS}{th:wf->wg->TS}
theorem YR(hs:X.stack=X.env::X.outer)(hf:X.env.frame=some X.env.locals)(hN:X.N.Nodup)(hi:X.N[i]? = some n)(hl:X.env.scope.names.lookup n=some .local)(hg:Gl X x)(hG:X.mg x=some G)
  (hb:∀(W:St->XK)(pn:List (wf × Obj))(E':wg->wl->Prop),JH (eJ X.prog X.w) (X.at pn E') W->ff (X.at pn E') body (tb W))
  (hh:∀(pn:List (wf × Obj))(ex:wf)(C:wg)(oe:Obj),yn C oe->ff (X.oA pn ex oe) (b₀ :: suite) (th ex C)) (hdb:(x == ("__debug__" : Str))=false:=by decide) :
  PS X (.Try body [.ExceptHandler (some (.Name x np)) (some n) (b₀ :: suite) hpos] [] [] pos) (LD X.K G i tb th):=by
 intro pins s σ H D I h;obtain⟨W,hB,hH⟩:=h;refine wpAny_Try_except ?_;have I':=I.UP λe s1=>∃σ1 H1 s0,Inv X pins σ1 H1 s0/\eJ X.prog X.w X.stack H1 s0 (W σ1) e s1
 have key:=hb W (X.pn++pins) (λe s1=>∃σ1 H1 s0,Inv X pins σ1 H1 s0/\eJ X.prog X.w X.stack H1 s0 (W σ1) e s1) (λpins1 σ1 H1 s0 e s1 I1 q=>⟨σ1,H1,s0,I1.oB,q⟩) [] s σ H D I' hB;refine WA key (λf s1 hq=>?_) λe s1 he=>?_
 ·cases f with
  | next=>obtain⟨σ',H',J,q⟩:=hq;exact Qe ⟨σ',H',J.oB,q⟩
  | brk=>obtain⟨σ',H',J,q⟩:=hq;exact⟨σ',H',J.oB,q⟩
  | cont=>obtain⟨σ',H',J,q⟩:=hq;exact⟨σ',H',J.oB,q⟩
  | ret u=>obtain⟨v,σ',H',J,r,q⟩:=hq;exact⟨v,σ',H',J.oB,r,q⟩
 obtain⟨σ1,H1,s0,I1,ex,C,H',B,rfl,os,bare,un,aF,F,ov,q⟩:=he;obtain⟨hm,hS⟩:=hH σ1 C none H' q;have hfs:∀b∈dr X.stack,H1 b=none /\ ∃o,s0.heap.get? b=some o /\ ∀vs,o.data≠.fields vs:=λb hb=>⟨I1.rS b hb,(I1.stack.mem hb).2⟩
 have hfr:=I.ok.frames.trans (congrArg some hs)
 have hex:H' ex=none:=by
  obtain⟨_,_,_,_,_,_,_,_,_,_,_,_,_,be,_⟩:=F;cases z:H' ex with
  | none=>rfl
  | some o =>
   obtain⟨u,e1⟩:=ov.iN ex o z;rw[be]at e1;cases e1
 have st1:=F.st;rw[hs]at F
 have exc:∀{h4:wH},eW B (X.env::X.outer) ex C .none h4->s1.heap.UpToSlots h4->∃oe,h4.get? ex=some oe/\yn C oe/\Inv (X.oA (X.pn++pins) ex oe) [] σ1 H' {s1 with heap:=h4}:=λ{h4} F4 sm=>by
  have J:Inv X pins σ1 H' {s1 with heap:=h4}:=I1.Iv (s':={s1 with heap:=h4}) (ch:=[]) os (ov.un un hfs F4.st sm) (ov.aF aF st1 F4.st) bare (λ_ z=>nomatch z);obtain⟨_,_,oe,vs,T,oT,ts,he,hc,hd,h1,h2,hdi,_⟩:=F4;refine⟨oe,he,⟨hc,⟨vs,hd,h2⟩,hdi⟩,J.TM he hex (λz=>?_) (λz=>?_) λv z=>?_⟩
  ·obtain⟨m,⟨o,es,ep,ho,hdd,_⟩,_⟩:=J.loc
   rw[<- z]at ho;have:(some oe:Option Obj)=some o:=he.symm.trans ho;cases this;rw[hd]at hdd;cases hdd
  ·obtain⟨_,o,ho,nr⟩:=J.eB.mem z
   have:(some oe:Option Obj)=some o:=he.symm.trans ho;cases this;exact nr vs hd
  ·rw[hd]at z;cases z
 refine F.note hfr hf λh2 F2 sm2=>F2.land λh3 F3 sm3=>?_
 obtain⟨oe3,g3,x3,K3⟩:=exc F3 (sm2.trans sm3);refine wpAny_handleBy_cons (codeAny_handlers_test (mm K3 hg hG ?_ hdb)) (by intro z;cases z);have LT:xj (model X.prog X.w) h3 (typeOf (.ref ex)) C:=x3.cls ▸ (UN g3).andThen .now;refine(PySem.W.exm_one (h:=h3) K3.cW LT hm).here ?_;refine codeAny_handlers_suite_as ?_;refine F3.land λh4 F4 sm4=>?_
 obtain⟨oe,g4,x4,K4⟩:=exc F4 ((sm2.trans sm3).trans sm4);refine mR (X:=X.oA (X.pn++pins) ex oe) K4 hN hi (.inl hl) (v:=.ref ex) rfl (λs5 K5=>?_) (.inr hl);refine WA (hh _ ex C oe x4 [] s5 _ H' _ K5 (hS ex hex)) (λf s6 h6=>?_) λ_ _ z=>z.elim
 show wq (model X.prog X.w) X.A (do bindName X.env n .none;unbindBehindTheSuite X.env n hpos) _ _ _
 cases f with
 | next=>obtain⟨σ',H6,J,q6⟩:=h6;exact(J.r_ I.ok).gone hN hi hl λs7 J7=>⟨_,H6,J7,q6⟩
 | brk=>obtain⟨σ',H6,J,q6⟩:=h6;exact(J.r_ I.ok).gone hN hi hl λs7 J7=>⟨_,H6,J7,q6⟩
 | cont=>obtain⟨σ',H6,J,q6⟩:=h6;exact(J.r_ I.ok).gone hN hi hl λs7 J7=>⟨_,H6,J7,q6⟩
 | ret u=>obtain⟨v,σ',H6,J,r,q6⟩:=h6;exact(J.r_ I.ok).gone hN hi hl λs7 J7=>⟨v,_,H6,J7,r,q6⟩
end
structure gb(k:Nat)(A:wW):Prop where
 dp:A.depth+3*k+5<recursionLimit
 un:A.units+16*k+200<WF
theorem gb.mono{j k:Nat}{A:wW}(r:gb k A)(h:j<=k):gb j A:=⟨by have:=r.dp;lia,by have:=r.un;lia⟩
theorem gb.deeper{k:Nat}{A:wW}(r:gb (k+1) A)(env:Env):gb k (A.deeper env) :=
 ⟨by have:=r.dp;show A.depth+1+3*k+5<_;lia,by have:=r.un;show A.units+3+16*k+200<_;lia⟩
theorem dF.marked{k:Nat}{A:wW}(r:dF k A)(v:Option wg):gb k (A.mark v):=⟨r.dp,r.un⟩
theorem gb.depth{k:Nat}{A:wW}(r:gb k A):A.depth<recursionLimit:=by have:=r.dp;lia
theorem gb.units{k:Nat}{A:wW}(r:gb k A):A.units+64<WF:=by have:=r.un;lia
structure Dd(P:wJ)(w:wM)(K:wb)(mg:Str->Option wg)(base:wH)(k:Nat)(f:wf)(fd:wG)(ps:List Str)(sp:wf->wg->Sp):Prop where
 len:∀ex C vs H Q E,sp ex C vs H Q E->vs.length=ps.length
 run:∀(A:wW)(outer:List Env)(s:wl)(H:Hp)(args:Args)(us:List wg)(vs:List V)(Q:VK)(E:XK)(ex:wf)(C:wg)(oe:Obj),gb k A->A.handled=some (.ref ex)->s.heap.get? ex=some oe->yn C oe->H ex=none->ex ∉ dr outer ->
   p0 P w K mg base A outer s H->BindsTo s fd args (ps.zip us)->aP vs us->sp ex C vs H Q E->codeAny (model P w) A (.call (.ref f) args) (CR aU outer P w H s Q E) s
def p8(P:wJ)(w:wM)(K:wb)(mg:Str->Option wg)(base:wH)(N:List Str)(qual:Str)(scope:Scope)(f:wf)(cd:wg)(A:wW)(outer:List Env)(s:wl)(H:Hp)(ex:wf)(oe:Obj):Cx :=
 {gF aU P w K mg base N qual scope f cd A outer s H E0 with calm:=false,pn:=[(ex,oe)],xe:=λ_ _=>False}
structure Hd(X:Cx)(ex:wf)(C:wg)(oe:Obj):Prop where
 hd:X.A.handled=some (.ref ex)
 pn:(ex,oe)∈X.pn
 ob:yn C oe
section
variable{P:wJ}{w:wM}{K:wb}{mg:Str->Option wg}{base:wH}
theorem jr.okH{x qual:Str}{st:vj}{f:wf}{fd:wG}{N ps:List Str}{k:Nat}{sp:wf->wg->Sp}(F:jr K x qual st f fd)(S:aT N ps (az st))(len:∀ex C vs H Q E,sp ex C vs H Q E->vs.length=ps.length)
  (hbody:∀(cdv:wg)(A:wW)(outer:List Env)(s:wl)(H:Hp)(vs:List V)(Q:VK)(E:XK)(ex:wf)(C:wg)(oe:Obj),gb k (A.deeper (envOfC qual (az st) s.heap.objs.size f cdv))->Hd (p8 P w K mg base N qual (az st) f cdv A outer s H ex oe) ex C oe->sp ex C vs H Q E ->
   ∃t,ff (p8 P w K mg base N qual (az st) f cdv A outer s H ex oe) (jJ st) t/\t {nx:=λ_ H'=>Q .bG H',rt:=Q} (start N vs) H):Dd P w K mg base (k+1) f fd ps sp:=by
 obtain⟨oc,od,kV,doc,pm,an,cdv,ct,osl,rfl,lk,hcd⟩:=F.ex;refine⟨len,λA outer s H args us vs Q E ex C oe hr hhd hat hob hfree hnf e0 hb r hsp=>?_⟩;have hl:=len _ _ _ _ _ _ hsp;have KX:K.In s.heap:=e0.mod.lS.keeps λb o e=>(e0.bs b o e).1
 have lim:s.heap.NoLimit:=e0.mod.nolimit.keeps λb o e=>(e0.bs b o e).1
 have hkind:∀y∈ps.zip us,(az st).names.lookup y.1=some .local\/((az st).names.lookup y.1=some .cell/\((cellsFrom (s.heap.objs.size+1) (az st).names []).lookup y.1).isSome=true):=λ⟨n,v⟩ hy =>
  (S.par n (QF hy).1).elim .inl λq=>.inr ⟨q,Qx _ _ _ (.inl q)⟩
 refine codeAny_call_function hr.depth (KX _ _ lk) rfl S.co S.gen rfl (XM KX hcd) (hb _ _ _ _ ?_);refine wpAny_newFunctionEnv_cells S.kind hkind λenv he s1 x=>?_
 subst he;refine⟨lim.keeps x.toInCall.keep,codeAny_func ?_⟩;have hA:(A.deeper (envOfC qual (az st) s.heap.objs.size f cdv)).handled=some (.ref ex):=hhd;obtain⟨t,ht,hq⟩:=hbody cdv A outer s H vs Q E ex C oe (hr.deeper _) ⟨hA,w5.mpr rfl,hob⟩ hsp
 -- the start,as if nothing was handled;then the pin
 have I0:Inv (gF aU P w K mg base N qual (az st) f cdv {A with handled:=none} outer s H E0) [] (start N vs) H s1:=PX S rfl ⟨e0.frames,e0.mod,e0.bs,e0.gm,e0.eB,e0.gW,e0.aF,e0.bare⟩ hl r x;obtain⟨h1,tk,rfl,hk⟩:=x.done
 have I:Inv (p8 P w K mg base N qual (az st) f cdv A outer s H ex oe) [] (start N vs) H {s with heap:=h1,toks:=tk} :=
  ⟨⟨I0.ok.mod,I0.ok.kind,I0.ok.glob,I0.ok.blt,I0.ok.above,I0.ok.inj,I0.ok.has,I0.ok.jS,λz=>uJ z,Xk e0.frames,I0.ok.ki,I0.ok.nV,I0.ok.bs,I0.ok.gm,I0.ok.jE,I0.ok.kg,I0.ok.eB,I0.ok.gW⟩,I0.os,I0.bare,I0.base,I0.loc,I0.cell,I0.free,I0.fg,
   λp hp=>by
    cases w5.mp (show p∈[(ex,oe)] by rw[Wl]at hp;exact hp);obtain⟨vs',hd,_⟩:=hob.fld;exact⟨hk _ _ hat,hfree,wL (wA hat),hnf,λv z=>by rw[hd]at z;cases z⟩,I0.aF,I0.len⟩
 refine WA (ht [] _ (start N vs) H _ I hq) (λfl s' hs=>?_) λe s' hs=>hs.elim
 have fin:∀{σ':St}{H':Hp}{v:V}{u:wg},Inv (p8 P w K mg base N qual (az st) f cdv A outer s H ex oe) [] σ' H' s'->aY v u->Q v H'->CE outer P w H s Q u s' :=
  λ{σ' H' v u} J rv q=>⟨v,H',J.os,J.bare,J.base,J.aF,rv,q⟩
 cases fl with
 | ret u=>obtain⟨v,σ',H',J,rv,q⟩:=hs;exact fin J rv q
 | next=>obtain⟨σ',H',J,q⟩:=hs;exact fin (v:=V.bG) (u:=Value.none) J rfl q
 | brk=>obtain⟨_,_,_,q⟩:=hs;exact Wx q
 | cont=>obtain⟨_,_,_,q⟩:=hs;exact Wx q
end
section
variable{X:Cx}{k:Nat}{f:wf}{fd:wG}{ps:List Str}{sp:wf->wg->Sp}{x:Str}{p pos:Pos}{e:Expr}{es:List Expr}{t:TA}{ex:wf}{C:wg}{oe:Obj}
theorem YV(F:Dd X.prog X.w X.K X.mg X.base k f fd ps sp)(hr:gb k X.A)(hd:Hd X ex C oe)(hg:Gl X x)(hm:X.mg x=some (.ref f))(hk:Vz X.K (.ref f)=true)(hb:kG X.K fd ps [])
  (ha:PA X (e::es) t) (hdb:(x == ("__debug__" : Str))=false:=by decide) (he:va (e::es) X.env=(false,eval e X.env)::va es X.env:=by rfl) (hpl:(Vs pos (va es X.env)).any (·.1)=false:=by rfl) :
  PE X (.Call (.Name x p) (e::es) [] pos) (kY (sp ex C) [] E0 t):=by
 intro pins s σ H Q I h;refine qq (mm I hg hm ?_ hdb);refine Q4 (h₀:=X.base) I.ok.mod.lS hk (aJ (ha pos pins s σ H _ I h) λus s1 ⟨vs,H1,I1,r,q⟩=>⟨I1.cW,?_⟩) he hpl;have q:sp ex C vs H1 Q E0:=by simpa using q
 have hl:us.length=ps.length:=by rw[<- r.length];exact F.len _ _ _ _ _ _ q
 have hbd:BindsTo s1 fd ⟨us,[]⟩ (ps.zip us):=by simpa using hb s1 us I1.cW (by simpa using hl)
 obtain⟨p1,p2,p3,p4,_⟩:=I1.pin (ex,oe) (Wo _ hd.pn);have hns:ex ∉ dr X.stack:=λz=>(wQ.mp (I1.kQ ex z)).elim p3 p4
 refine wpAny_call (qJ (F.run X.A X.stack s1 H1 ⟨us,[]⟩ us vs Q E0 ex C oe hr hd.hd p1 hd.ob p2 hns I1.A1 hbd r q) λr s' hq=>?_);cases r with
 | error e=>exact hq.elim
 | ok fl =>
  cases fl with
  | ret u=>exact I1.after hq
  | next=>exact Wx hq
  | brk=>exact Wx hq
  | cont=>exact Wx hq
end
def gM(cells:List (Str × wf)):List (Str × Ve)->List (Str × wf)->List (Str × wf)
 | [],acc=>acc
 | (n,k)::r,acc=>gM cells r (if(k == NameKind.free)=true then(n,(cells.lookup n).getD 0)::acc else acc)
theorem zke{scope:Scope}{env:Env}(h:∀y∈scope.names,y.2=.free->∃c,env.cells.lookup y.1=some c):closureFor scope env=pure (gM env.cells scope.names []):=by
 unfold closureFor;generalize scope.names=names at h
 suffices g:∀(names:List (Str × Ve))(acc:List (Str × wf)),(∀y∈names,y.2=.free->∃c,env.cells.lookup y.1=some c) ->
     (forIn names acc λ(x:Str × Ve)(r:List (Str × wf))=>if(x.2 == NameKind.free)=true then do let c <- cellOf env x.1;pure (ForInStep.yield ((x.1,c)::r))else pure (ForInStep.yield r):Sem (List (Str × wf)))=pure (gM env.cells names acc) by
   have:=g names [] h
   show(_ >>= pure)=_
   rw[bind_pure];exact this
 intro names
 induction names with
 | nil=>intro acc _;rfl
 | cons y r ih =>
   intro acc hy;obtain⟨n,k⟩:=y;rw[Qd]
   by_cases e:(k == NameKind.free)=true
   . obtain⟨c,hc⟩:=hy (n,k) wC (beq_iff_eq.mp e)
     have hcell:cellOf env n=pure c:=by
       unfold cellOf;rw[hc]
     simp only[e,if_true,hcell,pure_bind];rw[ih _ λz hz=>hy z (wy _ hz)]
     show _=pure (gM env.cells r _)
     simp only[e,if_true,hc,QC]
   . simp only[e,pure_bind]
     rw[if_neg (by simp),pure_bind];dsimp only;rw[ih _ λz hz=>hy z (wy _ hz)]
     show _=pure (gM env.cells r _)
     rw[if_neg e]
theorem O0{cells:List (Str × wf)} : ∀(names:List (Str × Ve))(acc:List (Str × wf))(x:Str)(c:wf),(∀y∈names,y.2=.free->∃c,cells.lookup y.1=some c)->(∀x c,acc.lookup x=some c->cells.lookup x=some c) ->
  (gM cells names acc).lookup x=some c->cells.lookup x=some c
 | [],acc,x,c,_,ha,h=>ha x c h
 | (n,k)::r,acc,x,c,hy,ha,h=>by
  unfold gM at h;refine O0 r _ x c (λz hz=>hy z (wy _ hz)) (λx' c' h'=>?_) h
  split at h'
  ·rename_i e
   obtain⟨c0,hc0⟩:=hy (n,k) wC (beq_iff_eq.mp e);rw[qO]at h'
   split at h'
   ·rename_i e2
    rw[beq_iff_eq.mp e2,hc0];rw[hc0]at h';exact h'
   ·exact ha x' c' h'
  ·exact ha x' c' h'
theorem MM{cells:List (Str × wf)} : ∀(names:List (Str × Ve))(acc:List (Str × wf))(x:Str),(∃c,acc.lookup x=some c)->∃c,(gM cells names acc).lookup x=some c
 | [],acc,x,h=>h
 | (n,k)::r,acc,x,h=>by
  unfold gM;refine MM r _ x ?_
  split
  ·rw[qO]
   split
   ·exact⟨_,rfl⟩
   ·exact h
  ·exact h
theorem Nx{cells:List (Str × wf)} : ∀(names:List (Str × Ve))(acc:List (Str × wf))(x:Str),(x,NameKind.free)∈names->∃c,(gM cells names acc).lookup x=some c
 | [],acc,x,h=>nomatch h
 | (n,k)::r,acc,x,h=>by
  unfold gM;rcases wQ.mp h with e | e
  ·cases e
   rw[if_pos (by decide)];refine MM r _ _ ?_;rw[qO];simp
  ·exact Nx r _ x e
theorem M6(g:Str->Ve->Ve):∀(names:List (Str × Ve))(x:Str),(names.map λy=>(y.1,g y.1 y.2)).lookup x=(names.lookup x).map (g x)
 | [],x=>rfl
 | (n,k)::r,x=>by
  rw[vb,qO,qO];dsimp only
  by_cases e:(x == n)=true
  ·have e':=beq_iff_eq.mp e
   subst e';simp
  ·rw[uK]at e
   simp only[e];exact M6 g r x
def sH(env:Env)(x:Str)(k:Ve):Ve:=if(k == .free&&env.scope.kind == .function&&env.kindOf x == some .cell)=true then .cell else k
theorem Ry{scope:Scope}{env:Env}(x:Str):(relabel scope env).names.lookup x=(scope.names.lookup x).map (sH env x):=by
 rw[<- M6]
 show(scope.names.map _).lookup x=_
 congr 2
 funext ⟨n,k⟩
 dsimp only[sH]
 split<;>rfl
def cK(inner outer:List (Str × Ve))(N N':List Str)(src:List (Option Nat)):Bool :=
 (inner.all λy=>(y.2 != .cell)&&(y.2 != .local || inner.lookup y.1 == some .local)&&(y.2 != .free || outer.lookup y.1 == some .cell)) &&
 (N'.length == src.length)&&((N'.zip src).all λp=>match p.2 with
  | none=>true
  | some j=>N[j]? == some p.1&&outer.lookup p.1 == some .cell&&inner.lookup p.1 == some .free)
theorem cn.by{X:Cx}{N':List Str}{scope:Scope}{src:List (Option Nat)}(hk:scope.kind=.function)(hc:cK scope.names X.env.scope.names X.N N' src=true)(hf:∀x,X.env.scope.names.lookup x=some .cell->∃c,X.env.cells.lookup x=some c:=by exact λx h=>Ft h) :
  cn X N' scope (gM X.env.cells scope.names []) src:=by
 unfold cK at hc;simp only[w8,WN,beq_iff_eq,Bool.or_eq_true,bne_iff_ne,ne_eq]at hc;obtain⟨⟨h1,h2⟩,h3⟩:=hc;have fr:∀y∈scope.names,y.2=.free->∃c,X.env.cells.lookup y.1=some c:=λy hy e=>hf _ (((h1 y hy).2).elim (λz=>absurd e z) id)
 have at3:∀(i:Nat)(x:Str)(j:Nat),N'[i]? = some x->src[i]? = some (some j)->X.N[j]? = some x/\X.env.scope.names.lookup x=some .cell/\scope.names.lookup x=some .free:=λi x j e1 e2=>by
  have m:(x,some j)∈N'.zip src:=by
   rw[Xd];exact⟨i,by rw[List.getElem?_zip_eq_some];exact⟨e1,e2⟩⟩
  have:=h3 _ m;simp only[w8,beq_iff_eq]at this;exact⟨this.1.1,this.1.2,this.2⟩
 refine⟨hk,λy hy=>((h1 y hy).1).1,λy hy e=>(((h1 y hy).1).2).elim (λz=>absurd e z) id,⟨zke fr,λx c e=>O0 _ _ x c fr (λ_ _ z=>by simp at z) e,λx e=>?_⟩,⟨h2,λi j x e1 e2=>⟨(at3 i x j e1 e2).1,(at3 i x j e1 e2).2.1⟩⟩,λi x e1 e2=>?_⟩
 ·rw[Ry]at e
  cases q:scope.names.lookup x with
  | none=>rw[q]at e;simp at e
  | some k =>
   have hm:=Vw q
   have hk:k=.free:=by
    rw[q]at e;simp only[uY,xo,sH]at e;have nc:k≠.cell:=((h1 _ hm).1).1;rcases e with e | e
    ·split at e
     ·rename_i z;simp only[w8,beq_iff_eq]at z;exact z.1.1
     ·exact absurd e nc
    ·split at e
     ·cases e
     ·exact e
   subst hk;exact Nx _ _ x hm
 ·obtain⟨o,ho⟩:∃o,src[i]? = some o:=by
   have:i<src.length:=by rw[<- h2];exact(WU.mp e1).1
   exact⟨src[i],by simp[this]⟩
  cases o with
  | none=>exact absurd ho e2
  | some j =>
   have:=(at3 i x j e1 ho).2.2;rw[Ry,this];simp only[uY,xo,sH]
   split
   ·exact .inl rfl
   ·exact .inr rfl
theorem znF:entryFor table "proto.unchain"=some Builtin.«proto.unchain»:=by first | exact entryFor_of_fast (by kernel_rfl) | exact entryFor_of_tree (by kernel_rfl)
section
variable{prog:wJ}{w:wM}{A:wW}{E:wg->wl->Prop}{s:wl}
theorem Yw{α : Type}{Q : α -> wl->Prop}{b ex:wf}{ob oe:Obj}{bs vs:Array wg}(hh:A.handled=some (.ref ex))(hb:s.heap.get? b=some ob)(db:ob.data=.fields bs)(sz:2<bs.size)(he:s.heap.get? ex=some oe)
  (de:oe.data=.fields vs) (h2:vs[2]? = some .none) (ne:ex≠b) (k:E (.ref b) {s with heap:=s.heap.update b (qT (·.setIfInBounds 2 (.ref ex)))}):wq (model prog w) A (raiseNew (.ref b):Sem α) Q E s:=by
 have nb:(Value.ref ex != Value.ref b)=true:=by simp[ne]
 simp only[raiseNew];refine we (wpAny_handled ?_);rw[hh];dsimp only;rw[if_pos nb];refine we (vC (wpAny_runValue (VQ znF ?_)));unfold Builtin.«proto.unchain»;dsimp only;refine we (vk he de h2 ?_);rw[if_pos (by decide)];refine we (wo (wo ?_));exact we (VB (x:=.ref ex) hb db sz (wpAny_throw k))
structure rz(A:wW)(h:wH)(ex:wf):Prop where
 hd:A.handled=some (.ref ex)
 ob:∃oe vs,h.get? ex=some oe/\oe.data=.fields vs/\vs[2]? = some .none
theorem Jw{α : Type}{ex:wf}{R:wg->wl->Prop}{Q : α -> wl->Prop}(n:rz A s.heap ex)
  (k:∀b h',(∀c o,s.heap.get? c=some o->h'.get? c=some o)->({s with heap:=h'} : wl).TypeIs (.ref b) "StopIteration" -> R (.ref b) {s with heap:=h'}) :
  wq (model prog w) A (newExc (.type "StopIteration") [] >>= λe=>(raiseNew e:Sem α)) Q R s:=by
 obtain⟨hd,oe,vs,he,de,h2⟩:=n;refine we ?_;simp only[newExc,newTuple];refine we (Ww ?_ (by size_fits));refine we (m:=firstArgMember _ _) (wpAny_of_eq (a:=Value.none) (by first | rfl | (simp only[firstArgMember];rfl)) ?_);refine Ww ?_ (by size_fits);have he2:=wn (h:=s.heap.push {cls:=.type "tuple",data:=.seq ([]:List wg).toArray}) {cls:=.type "StopIteration",data:=.fields (#[.ref s.heap.objs.size,.none,.none,.none,.bool false,.none]++ownMembersOf (.type "StopIteration") [])} (wn _ he);have lt:ex<s.heap.objs.size:=wA he;refine Yw hd (wP _ rfl) rfl (by simp[ownMembersOf]) he2 de h2 (by rw[Vl];exact wL (W2 lt)) (k _ _ (λc o q=>?_) ⟨_,Vh _ (wP _ rfl) rfl,rfl⟩);have:=wA q;rw[WB _ _ (by rw[Vl];exact vi (W2 this))];exact wn _ (wn _ q)
theorem zuU{it l ex:wf}{i:Nat}{items}{Q:Option wg->wl->Prop}(n:rz A s.heap ex)(hne:ex≠it)
  (hit:s.heap.IsListIter it l i) (hl:s.heap.IsList l items) (hx:items[i]? = none) (hQ:∀h',xX it s.heap h'->Q none {s with heap:=h'}):wq (model prog w) A (Vo (.ref it)) Q E s:=by
 obtain⟨o,ho,hc,hd⟩:=id hit;obtain⟨ol,hol,_,nl,hdl⟩:=hl;unfold Vo;refine we (WQ (wpAny_callSpecial?_slot (name:=vW "__next__") hit.typeIs slot_listiter_next (Wb slot_listiter_next hit.typeIs entry_listiter_next ?_ (args_listiter_next _))))
 show wq _ _ (field (.ref it) 0 >>= _) _ _ s
 refine we (vk ho hd (x:=.ref l) rfl ?_);rw[if_neg (show ¬ ((Value.ref l == Value.none)=true)from vG)];refine we (vk ho hd (x:=.int i 0) rfl (we (Wi hol hdl ?_)));simp only[wT,hx];refine we (qp (we (VB ho hd (by simp) ?_)));obtain⟨hhd,oe,vs,he,de,h2⟩:=n;refine Jw (A:=A.in1) ⟨hhd,oe,vs,?_,de,h2⟩ λb h' kp ty=>?_
 ·show(qu _ _ _).get? ex=_
  rw[WB _ _ (Wp hne)];exact he
 refine we (W0 (T:="StopIteration") (b:=true) ty V5 (wo (hQ h' λc o ne q=>kp c o ?_)))
 show(qu _ _ _).get? c=_
 rw[WB _ _ (Wp ne)];exact q
theorem ZL{it t ex:wf}{i:Nat}{items}{Q:Option wg->wl->Prop}(n:rz A s.heap ex)(hne:ex≠it)
  (hit:IsTupIter s.heap it t i) (ht:IsTup s.heap t items) (hx:items[i]? = none) (hQ:∀h',xX it s.heap h'->Q none {s with heap:=h'}):wq (model prog w) A (Vo (.ref it)) Q E s:=by
 obtain⟨o,ho,hc,hd⟩:=id hit;obtain⟨ol,hol,_,nl,hdl⟩:=ht;unfold Vo;refine we (WQ (wpAny_callSpecial?_slot (name:=vW "__next__") hit.typeIs slot_tupleiter_next (Wb slot_tupleiter_next hit.typeIs entry_tupleiter_next ?_ (args_tupleiter_next _))))
 show wq _ _ (field (.ref it) 0 >>= _) _ _ s
 refine we (vk ho hd (x:=.ref t) rfl ?_);rw[if_neg (show ¬ ((Value.ref t == Value.none)=true)from vG)];refine we (vk ho hd (x:=.int i 0) rfl (we (Wi hol hdl ?_)));simp only[wT,hx];refine we (qp (we (VB ho hd (by simp) ?_)));obtain⟨hhd,oe,vs,he,de,h2⟩:=n;refine Jw (A:=A.in1) ⟨hhd,oe,vs,?_,de,h2⟩ λb h' kp ty=>?_
 ·show(qu _ _ _).get? ex=_
  rw[WB _ _ (Wp hne)];exact he
 refine we (W0 (T:="StopIteration") (b:=true) ty V5 (wo (hQ h' λc o ne q=>kp c o ?_)))
 show(qu _ _ _).get? c=_
 rw[WB _ _ (Wp ne)];exact q
theorem zyu{t ex:wf}{items:Array wg}{Q:List wg->wl->Prop}(n:rz A s.heap ex)(ht:IsTup s.heap t items)
  (hQ:∀h',xX s.heap.objs.size s.heap h'->Q items.toList {s with heap:=h'}):wq (model prog w) A (unpackItems (.ref t) items.size none) Q E s:=by
 have hlt:t≠s.heap.objs.size:=by obtain⟨o,ho,_⟩:=ht;exact wL (wA ho)
 obtain⟨hhd,oe,vs,he,de,h2⟩:=n;have hxl:ex≠s.heap.objs.size:=wL (wA he);unfold unpackItems;refine we ?_;unfold notIterableAtAll;refine we (qr ht.typeIs slot_tuple_iter.lookup (wo ?_));simp only[w6,if_false];refine we (vC (iter_tuple ht (we (vC (draw_tuple hlt items.size 0 _ _ ⟨_,wP _ rfl,rfl,rfl⟩ (ht.push _) (by lia) λh₁ hit₁ hs₁=>?_)))))
 have hall:List.take items.size (List.drop 0 items.toList)=items.toList:=by
  rw[Xe];exact W7 (by simp)
 rw[hall,if_neg (by simp)];have ht₁ : IsTup h₁ t items:=(ht.push _).extBut hs₁.extBut hlt;refine we (vC (ZL (ex:=ex) ⟨hhd,oe,vs,(hs₁.2 ex hxl).trans (wn _ he),de,h2⟩ hxl hit₁ ht₁ (by simp) λh₂ he₂=>?_));simp only[Option.isSome_none,w6,if_false];exact wo (hQ h₂ λb o hb e=>he₂ b o hb (hs₁.extBut b o hb (wn _ e)))
end
section
variable{X:Cx}{ex:wf}{C:wg}{oe:Obj}{pins:List (wf × Obj)}{σ : St}{H:Hp}{s:wl}{pos:Pos}
theorem Hd.Iy(hd:Hd X ex C oe)(I:Inv X pins σ H s):rz X.A s.heap ex:=by
 obtain⟨e,_⟩:=I.pin (ex,oe) (Wo _ hd.pn);obtain⟨vs,d,h2⟩:=hd.ob.fld;exact⟨hd.hd,oe,vs,e,d,h2⟩
theorem Hd.block(hd:Hd X ex C oe){N':List Str}{scope:Scope}{cl:List (Str × wf)}{D:wf}{s₀ : wl}{H₀ : Hp}{fp:List wf} : Hd (dq X N' scope cl D s₀ H₀ fp pins) ex C oe:=⟨hd.hd,Wo _ hd.pn,hd.ob⟩
theorem Ye{es:List Expr}{k:Nat}{t:iB}{n:Nat}(hd:Hd X ex C oe)(h:nI X es t)
  (hn:(VF es X.env).length=n:=by rfl) (hst:(VF es X.env).findIdx? (·.1)=none:=by rfl):PG X (.Tuple es k pos) (hJ X.K n t):=by
 intro pins s σ H v u Q I r hw;obtain⟨a,xs,e1,hq,hl,hw⟩:=hw;subst e1;cases r;obtain⟨its,rv,ht,hz⟩:=I.tuple hq;have hlen:(VF es X.env).length=its.toArray.size:=by simp[hn,<- hl,rv.length]
 rw[assign_Tuple];refine we (qU ?_);unfold unpack;rw[hlen,hst];refine we (vC (zyu (hd.Iy I) ht λh' hx=>?_));have I1:Inv X pins σ H {s with heap:=h'}:=I.kept (t':=s.toks) λb o e=>hx b o (wL (wA e)) e
 exact h pins _ σ H xs _ Q I1 (by simpa using rv) hw
theorem zq4{tg:Expr}(hd:Hd X ex C oe)(a it:wf):sZ X tg (iK X.K a) [it] it (λi h=>h.IsListIter it a i) where
 item:=by
  intro i pins s σ H E I hf st hg;obtain⟨xs,x,hq,hx⟩:=hg;obtain⟨its,rv,p,hz⟩:=I.list hq;obtain⟨u,hu,ru⟩:=rv.get hx;obtain⟨f0,f1,f2,f3,f4,f5⟩:=hf it (by simp);refine wpAny_pyNext_list_item st p.isList (x:=u) (by simpa using hu) λh' st' sb=>?_
  have I1:Inv X pins σ H {s with heap:=h'}:=I.turned (t':=s.toks) (λb o hb e=>(sb.2 b hb).trans e) f0 f1 f3 f4 f5;obtain⟨o,e,c,d⟩:=id st';exact⟨u,rfl,yM (s:={s with heap:=h'}) e c d (by decide) ⟨x,H,I1,ru,⟨rfl,λys hy=>by rw[I.rL hy hq];exact hx⟩,st',λb hb=>(hf b hb).1⟩⟩
 done:=by
  intro i pins s σ H E I hf st hg;obtain⟨xs,hq,hx⟩:=hg;obtain⟨its,rv,p,hz⟩:=I.list hq;obtain⟨f0,f1,f2,f3,f4,f5⟩:=hf it (by simp);have hl:=rv.length;exact zuU (hd.Iy I) (f5 (ex,oe) (Wo _ hd.pn)) st p.isList (by simp;lia) λh' eb=>⟨rfl,I.turned (t':=s.toks) (λb o hb e=>eb b o hb e) f0 f1 f3 f4 f5⟩
def IQ(X:Cx)(tg iter:Expr)(wi:TI):Prop :=
 ∀(pins:List (wf × Obj))(s:wl)(σ : St)(H:Hp)(R:It->Hp->Prop),Inv X pins σ H s->wi σ H R ->
  wq (model X.prog X.w) X.A (eval iter X.env) (λv s1=>wq (model X.prog X.w) X.A (pyIter v) (λitv s2=>∃(it:wf)(fp:List wf)(tn:Nat->wH->Prop)(J:It)(H':Hp),itv=.ref it/\Inv X pins σ H' s2/\iH X.prog X.w X.K tg J fp it tn /\
   (∀(Y:Cx)(ex:wf)(C:wg)(oe:Obj),Y.prog=X.prog->Y.w=X.w->Y.K=X.K->Hd Y ex C oe->sZ Y tg J fp it tn)/\tn 0 s2.heap/\(∀b∈fp,d9 X pins H' b)/\R J H') X.xe s1) X.xe s
variable{tg l:Expr}{tl:TE}
theorem zxo(hl:PE X l tl):IQ X tg l (zF X.K tl):=by
 intro pins s σ H R I h;refine aJ (hl pins s σ H _ I h) λv s1 ⟨x,H1,I1,r1,q1⟩=>?_
 obtain⟨a,e1,⟨xs,hq⟩,q1⟩:=q1;subst e1;cases r1;obtain⟨its,rv,p,hz⟩:=I1.list hq;refine VZ p.isList ?_;have I2:Inv X pins σ H1 {s1 with heap:=s1.heap.push {cls:=.type "list_iterator",data:=.fields #[.ref a,.int 0 0]}}:=I1.kept (t':=s1.toks) λb o e=>wn _ e
 refine⟨s1.heap.objs.size,[s1.heap.objs.size],_,_,H1,rfl,I2,B_ a _,λY ex C oe h1 h2 h3 hd=>?_,⟨_,wP _ rfl,rfl,rfl⟩,λb hb=>?_,q1⟩
 ·rw[<- h3]
  exact zq4 hd a _
 ·have e:b=s1.heap.objs.size:=by simpa using hb
  subst e;exact I1.iY (wp _) (I1.aF.fresh (wp _))
variable{N':List Str}{scope:Scope}{cl:List (Str × wf)}{src:List (Option Nat)}{elt tgt iter:Expr}{ifs:List Expr}{wi:TI}{g:TG}{tt:TT}{te:TE}
theorem Y6(hd:Hd X ex C oe){i:Nat}{y:Str}{py spos:Pos}(hN:X.N.Nodup)(hy:X.N[i]? = some y)(hly:Loc X.env.scope y)(ok:cn X N' scope cl src)(hi:IQ X tgt iter wi)
  (hg:∀C s₀ H₀ fp pins,PG (dq X N' scope cl C s₀ H₀ fp pins) tgt g) (ht:∀C s₀ H₀ fp pins,nh (dq X N' scope cl C s₀ H₀ fp pins) ifs tt) (he:∀C s₀ H₀ fp pins,PE (dq X N' scope cl C s₀ H₀ fp pins) elt te)
  (hsw:swapsWith (.ListComp elt [⟨tgt,iter,ifs,0⟩] scope pos) (some (.Name y py)) spos.line X.env=pure true:=by rfl)
  (hs:∀x,foldedSetIterable iter X.env x=pure x:=by intro _;rfl) (hf:X.fn y=true\/X.env.scope.names.lookup y=some .local:=by first | exact .inl rfl | exact .inr rfl | assumption) :
  PS X (.Assign [.Name y py] (.ListComp elt [⟨tgt,iter,ifs,0⟩] scope pos) spos) (kN (ju src wi g tt te) (gg i)):=by
 intro pins s σ H D0 I h;rw[exec_Assign_Name_used _ _ _ _ hsw];refine we (qU (we ?_))
 show wq _ X.A (do let _ <- comprehension (.ListComp elt [⟨tgt,iter,ifs,0⟩] scope pos) scope X.env _ (newList []) false (eval iter X.env) (some (assign (.Name y py) X.env))) _ _ s
 refine we (WA (Qq (Q:=λ_ s'=>SP X pins D0 .next s') rfl hs ok.jF.jF ok.kind ok.names (aJ (hi pins s σ H _ I h) λv s1 h1=>aJ h1 λitv s2 h2=>?_))
  (λ_ s' hq=>wo (wo hq)) λ_ _ e=>e)
 obtain⟨it,fp,tn,J,H2,e,I2,T,TC,st2,f2,rd⟩:=h2;subst e;refine Dp (RQ:=λD H'=>gg i (.ref D) σ H' D0.nx) (RR:=λacc C=>compPost (model X.prog X.w) X.A X.xe (some (assign (.Name y py) X.env)) (λ_ s'=>SP X pins D0 .next s') acc C) (λ_ _ _=>TC _ ex C oe rfl rfl rfl hd.block) ok hg ht he I2 T st2 f2 rd ?_;intro D C H' s' m J hn hC q;obtain⟨c0,c1,_,c3,c4,c5⟩:=hC
 show wq _ _ (assign (.Name y py) X.env (.ref D)) _ _ s'
 refine wpAny_assign_Name (CD J hN hy hly (v:=.ref D) rfl (λs'' J2 ⟨a,sb,ha⟩=>?_) hf)
 have hCa:C≠a:=by
  rcases ha with z | z
  ·rw[z];exact c1
  ·exact(c4 y a z).symm
 exact⟨m,hn.sameBut sb hCa,λh' sb'=>⟨_,H',J2.turned (t':=s''.toks) (λb o hb e=>(sb'.2 b hb).trans e) c0 c1 c3 c4 c5,q⟩⟩
end
structure gI(K:wb)(C:wf):Prop where
 ga:Vy K (.ref C) "__getattribute__"=some (some (.builtin "BaseException.__getattribute__"))
 gh:Vy K (.ref C) "__getattr__"=some none
 cl:(Xx K C).isSome=true
 at_:Vy K (.ref C) "__class__"=some (some (.builtin "object.__class__"))
 gt:xm K (.builtin "object.__class__") "__get__"=some (some (.builtin "getset_descriptor.__get__"))
 tk:uS K (.builtin "object.__class__")=some true
 mr:Xu K C (.type "object")=some true
 be:Xu K C (.type "BaseException")=some true
theorem zpk{K:wb}{C:wf}(c:gI K C):uZ K C none "__class__"=some (.bind (.builtin "getset_descriptor.__get__") (.builtin "object.__class__")):=by
 obtain⟨cd,hc⟩:=V6.mp c.cl;unfold uZ;rw[hc,uL,c.at_,uL];simp[c.gt,c.tk]
theorem zvG{M:Model}{A:wW}{E:wg->wl->Prop}{s:wl}{x C:wf}{nm:wg}{Q:Unit->wl->Prop}(L0:xj M s.heap (typeOf (.ref x)) (.ref C))(L1:xj M s.heap (isSubtype (.ref C) (.type "BaseException")) true)
  (hq:Q () s):wq M A (checkBuiltinCall "BaseException.__getattribute__" ⟨[.ref x,nm],[]⟩) Q E s:=by
 have hk:builtinKind "BaseException.__getattribute__"=some .slot:=by decide +kernel
 have hp:splitId "BaseException.__getattribute__"=some ("BaseException","__getattribute__"):=by decide +kernel
 have ha:=F.args_bexc_ga (.ref x) nm;have LI:xj M s.heap (isInstance (.ref x) (.type "BaseException")) true:=L0.andThen L1;simp only[checkBuiltinCall,hk,hp];refine we (LI.at ?_)
 repeat(first | exact hq | assumption | wp_step)
theorem zvl{prog:wJ}{w:wM}{A:wW}{E:wg->wl->Prop}{s:wl}{K:wb}{x C:wf}{ox:Obj}{Q:Option wg->wl->Prop}(c:gI K C)(X:K.In s.heap)(I:Xf s.heap x ox C none)
  (k:Q (some (.ref C)) {s with toks:=s.toks+1}):wq (model prog w) A (getAttr? (.ref x) "__class__") Q E s:=by
 obtain⟨hh,g,d,t,os⟩:=s;have L0:=I.type (M:=model prog w);have L1:=Xq (M:=model prog w) X c.ga;have L2:=Xq (M:=model prog w) X c.gh;have L3:=PySem.W.looks_mroIn (M:=model prog w) X c.be;have LF:=PySem.W.looks_find (M:=model prog w) X I (zpk c);unfold getAttr? getAttrBy? getAttrBy;refine we (wpAny_mkText (we (WQ (vC (we (L0.at (we (L1.at ?_))))))))
 show wq _ _ (getAttrByItsOwn _ _ _ _ _ _) _ _ _
 unfold getAttrByItsOwn
 show wq _ _ (typeLookup (.ref C) "__getattr__" >>= _) _ _ _
 refine we (L2.at ?_);refine we (WQ (vC ?_))
 show wq _ _ (boundAndCalled _ _ _) _ _ _
 unfold boundAndCalled;rw[Q8.ga.bind];refine we (wo ?_)
 show wq _ _ (call (.builtin "BaseException.__getattribute__") [.ref x,.str "__class__" t]) _ _ _
 refine wpAny_call (codeAny_call_builtin Q8.ga.plain F.entry_bexc_ga (zvG L0 L3 ?_));unfold Builtin.«object.__getattribute__»;refine we (wo ?_);refine we (wo ?_);refine we (L0.at (we (LF.at ?_)))
 show wq _ _ (holding [_] (call (.builtin "getset_descriptor.__get__") [.builtin "object.__class__",.ref x,.ref C]) >>= ret) _ _ _
 refine we (vC (wpAny_call (PySem.W.class_get (ox:=ox) (od:=none) X I c.mr ?_)));exact wo (wo (wo k))
theorem J8{K:wb}{x C:wf}{ox:Obj}(c:gI K C):PySem.W.KitX K (.ref x) (.ref C) (λh=>Xf h x ox C none) where
 ty:=λ_ _ _ I=>I.type
 it:=λ_ _ X _=>by
  obtain⟨cd,hc⟩:=V6.mp c.cl;unfold Xx at hc
  split at hc
  ·rename_i ho
   intro A' Q' E' s' k q;unfold isType loadHead;exact we (wpAny_loadPart (k _ _ (X _ _ ho)) (wo q))
  ·cases hc
 ne:=λh tp dd its n sl X htp=>by
  obtain⟨cd,hc⟩:=V6.mp c.cl;refine Bool.eq_false_iff.mpr λq=>?_
  have e:C=tp:=Value.ref.inj (beq_iff_eq.mp q);subst e;unfold Xx at hc
  split at hc
  ·rename_i ho
   have z:=(X _ _ ho).symm.trans htp;cases z
  ·cases hc
 ca:=λ{_ _ _ _ _ s} X I k=>zvl c X I k
def Dk(K:wb)(ex:wf)(C:wg):List V->Hp->VK->Prop:=λxs H Q=>∃(C':wf)(b:Bool),C=.ref C'/\gI K C' /\
 ((∃D,xs=[.ref ex,.ref D]/\wD K (.ref C') (.ref D)=some b) \/ ∃T,xs=[.ref ex,.ty T]/\wD K (.ref C') (.type T)=some b)/\Q (.bl b) H
theorem jA{X:Cx}{ex:wf}{C:wg}{oe:Obj}(hd:Hd X ex C oe):aK X (.builtin "isinstance") (Dk X.K ex C):=by
 intro pins s σ H xs us Q I r h;obtain⟨C',b,rfl,c,h,q⟩:=h;obtain⟨e,_⟩:=I.pin (ex,oe) (Wo _ hd.pn);obtain⟨vs,d,_⟩:=hd.ob.fld;have J:Xf s.heap ex oe C' none:=⟨e,hd.ob.cls,by unfold PySem.W.notCls;rw[d],by rw[hd.ob.dict];trivial⟩;have fin:∀tk,EP X pins σ Q (.bool b) {s with toks:=tk}:=λtk=>⟨.bl b,H,I.tok _,rfl,q⟩
 rcases h with⟨D,rfl,k⟩ | ⟨T,rfl,k⟩
 ·obtain⟨u,w',rfl,rx,rt⟩:=j9 r
  cases (show u=Value.ref ex from rx);cases (show w'=Value.ref D from rt);exact W4 (J8 c) I.cW J k (λz=>nomatch z) fin
 ·obtain⟨u,w',rfl,rx,rt⟩:=j9 r
  cases (show u=Value.ref ex from rx);cases (show w'=Value.type T from rt);exact W4 (J8 c) I.cW J k (λz=>nomatch z) fin
def rA(K:wb)(g:TG)(tt:TT)(te:TE)(src:List (Option Nat))(σ : St)(x:V)(H1:Hp)(Q:VK):Prop :=
 ∃a,x=.ref a/\(∃xs,aI K H1 a xs) /\ ∀D,H1 D=none->jL g tt te (iK K a) D (dJ src σ) (upd H1 D (.lst [])) (λH'=>Q (.ref D) H')
def zU(K:wb)(g:TG)(tt:TT)(te:TE)(src:List (Option Nat))(σ : St)(x:V)(H1:Hp)(Q:VK):Prop :=
 ∃a,x=.ref a/\(∃xs,aR K H1 a xs) /\ ∀D,H1 D=none->jL g tt te (jn K a) D (dJ src σ) (upd H1 D (.lst [])) (λH'=>Q (.ref D) H')
def EV(g:TG)(tt:TT)(te:TE)(src:List (Option Nat))(σ : St)(vs:List V)(H1:Hp)(Q:VK):Prop :=
 ∃j:Int,vs=[.int j] /\ -(2^62)<=j/\j<2^62 /\ ∀D,H1 D=none->jL g tt te (fW 0 j.toNat) D (dJ src σ) (upd H1 D (.lst [])) (λH'=>Q (.ref D) H')
section
variable{K:wb}{g:TG}{tt:TT}{te ta:TE}{tA:TA}{src:List (Option Nat)}{σ : St}{H:Hp}{Q:VK}{a:wf}{xs:List V}{n:Int}
theorem zwe(h:ta σ H λx H1=>rA K g tt te src σ x H1 Q):ju src (zF K ta) g tt te σ H Q:=h
theorem zxf(h:ta σ H λx H1=>zU K g tt te src σ x H1 Q):ju src (BP K ta) g tt te σ H Q:=h
theorem zwE(h:tA σ H λvs H1=>EV g tt te src σ vs H1 Q):ju src (BX tA) g tt te σ H Q:=h
def o_(Pv:wf->Nat->List V->St->Hp->Prop)(D:wf)(i:Nat)(σ3:St)(y:V)(H5:Hp):Prop :=
 ∃ys,H5 D=some (.lst ys)/\ys.length<vd /\ ∃ys',Pv D (i+1) ys' σ3 (upd H5 D (.lst (ys++[y])))
def gQ(Pv:wf->Nat->List V->St->Hp->Prop)(g:TG)(tt:TT)(te:TE)(D:wf)(i:Nat)(x:V)(σ':St)(H':Hp):Prop :=
 g x σ' H' λσ3 H3=>tt σ3 H3 λok H4=>if ok=true then te σ3 H4 λy H5=>o_ Pv D i σ3 y H5 else ∃ys',Pv D (i+1) ys' σ3 H4
theorem ma{Pv:wf->Nat->List V->St->Hp->Prop}{D:wf}{i:Nat}{σ3:St}{y:V}{H5:Hp}{ys:List V}(h:H5 D=some (.lst ys))(z:ys.length<=1000)(q:∀H6,Exc D H5 H6->H6 D=some (.lst (ys++[y]))->Pv D (i+1) (ys++[y]) σ3 H6):o_ Pv D i σ3 y H5 :=
 ⟨ys,h,kr z,_,q _ (Exc.upd D H5 _) cT⟩
theorem Ec{J:It}{N:Nat}{D:wf}{σ0:St}{H0:Hp}{R:Hp->Prop}(Pv:wf->Nat->List V->St->Hp->Prop)(item:Nat->V->Prop)(h0:Pv D 0 [] σ0 H0)
  (stop:∀i ys σ' H',Pv D i ys σ' H'->N<=i->J.stop i H') (go:∀i ys σ' H',Pv D i ys σ' H'->i<N->J.go i H') (fB:∀i ys σ' H' x H2,Pv D i ys σ' H'->J.fB i H' x H2->H2=H'/\item i x)
  (hs:∀i x ys σ' H',i<N->item i x->Pv D i ys σ' H'->gQ Pv g tt te D i x σ' H') (hd:∀ys σ' H',Pv D N ys σ' H'->R H'):jL g tt te J D σ0 H0 R:=by
 refine⟨λi m σ' H'=>i+m=N /\ ∃ys,Pv D i ys σ' H',⟨N,by lia,[],h0⟩,?_⟩;rintro i m σ' H' ⟨him,ys,hp⟩
 by_cases hm:m=0
 ·subst hm
  have e:i=N:=by lia
  subst e;exact .inl ⟨stop _ _ _ _ hp (wp _),hd _ _ _ hp⟩
 ·refine .inr ⟨go _ _ _ _ hp (by lia),λσ2 H2=>∃ys,Pv D (i+1) ys σ2 H2,λσ2 H2 h=>⟨m-1,by lia,by lia,h⟩,λx H2 hy2=>?_⟩
  obtain⟨e,hit⟩:=fB _ _ _ _ _ _ hp hy2;subst e;exact hs i x ys σ' H2 (by lia) hit hp
theorem nU(hx:aI K H a xs)(Pv:wf->Nat->List V->St->Hp->Prop)(h0:∀D H',H D=none->ah H H'->H' D=some (.lst [])->Pv D 0 [] (dJ src σ) H')(hl:∀D i ys σ' H',Pv D i ys σ' H'->aI K H' a xs)
  (hs:∀D i x ys σ' H',xs[i]? = some x->Pv D i ys σ' H'->gQ Pv g tt te D i x σ' H') (hd:∀D ys σ' H',Pv D xs.length ys σ' H'->Q (.ref D) H'):rA K g tt te src σ (.ref a) H Q:=by
 refine⟨a,rfl,⟨xs,hx⟩,λD hD=>Ec (N:=xs.length) Pv (λi x=>xs[i]? = some x) (h0 D _ hD (ah.upd hD) cT) (λi ys σ' H' hp hi=>⟨xs,hl _ _ _ _ _ hp,hi⟩) (λi ys σ' H' hp hi=>?_) (λi ys σ' H' x H2 hp hy=>?_)
  (λi x ys σ' H' _ hit hp=>hs D i x ys σ' H' hit hp) (hd D)⟩
 ·exact⟨xs,xs[i],hl _ _ _ _ _ hp,by simp[hi]⟩
 ·obtain⟨e,hy⟩:=hy
  exact⟨e,hy xs (hl _ _ _ _ _ hp)⟩
theorem zr0(hx:aR K H a xs)(Pv:wf->Nat->List V->St->Hp->Prop)(h0:∀D H',H D=none->ah H H'->H' D=some (.lst [])->Pv D 0 [] (dJ src σ) H')(hl:∀D i ys σ' H',Pv D i ys σ' H'->aR K H' a xs)
  (hs:∀D i x ys σ' H',xs[i]? = some x->Pv D i ys σ' H'->gQ Pv g tt te D i x σ' H') (hd:∀D ys σ' H',Pv D xs.length ys σ' H'->Q (.ref D) H'):zU K g tt te src σ (.ref a) H Q:=by
 refine⟨a,rfl,⟨xs,hx⟩,λD hD=>Ec (N:=xs.length) Pv (λi x=>xs[i]? = some x) (h0 D _ hD (ah.upd hD) cT) (λi ys σ' H' hp hi=>⟨xs,hl _ _ _ _ _ hp,hi⟩) (λi ys σ' H' hp hi=>?_) (λi ys σ' H' x H2 hp hy=>?_)
  (λi x ys σ' H' _ hit hp=>hs D i x ys σ' H' hit hp) (hd D)⟩
 ·exact⟨xs,xs[i],hl _ _ _ _ _ hp,by simp[hi]⟩
 ·obtain⟨e,hy⟩:=hy
  exact⟨e,hy xs (hl _ _ _ _ _ hp)⟩
theorem zsa(h0' : -1000000000<=n)(h1:n<1000000000)(Pv:wf->Nat->List V->St->Hp->Prop)(h0:∀D H',H D=none->ah H H'->H' D=some (.lst [])->Pv D 0 [] (dJ src σ) H')
  (hs:∀D (i:Nat) ys σ' H',i<n.toNat->Pv D i ys σ' H'->gQ Pv g tt te D i (.int (i:Int)) σ' H') (hd:∀D ys σ' H',Pv D n.toNat ys σ' H'->Q (.ref D) H'):EV g tt te src σ [.int n] H Q:=by
 refine⟨n,rfl,by lia,by lia,λD hD=>Ec (N:=n.toNat) Pv (λi x=>x=.int (i:Int)) (h0 D _ hD (ah.upd hD) cT) (λi ys σ' H' hp hi=>hi) (λi ys σ' H' hp hi=>hi) (λi ys σ' H' x H2 hp hy=>?_)
  (λi x ys σ' H' hi hit hp=>?_) (hd D)⟩
 ·obtain⟨e,hy⟩:=hy
  exact⟨e,by rw[hy,Int.zero_add]⟩
 ·subst hit
  exact hs D i ys σ' H' hi hp
end
structure Aw(u' u:TS):Prop where
 e:u'=u
theorem zzp{t u:TS}{D:cq}{σ : St}{H:Hp}(h:∀u',Aw u' u->t {D with nx:=u' D} σ H):EC t u D σ H:=h u ⟨rfl⟩
theorem Aw.go{u' u:TS}{D:cq}{σ : St}{H:Hp}(e:Aw u' u)(h:u D σ H):u' D σ H:=by rw[e.e];exact h
theorem znp:vU "ValueError"=some (.type "ValueError"):=by decide +kernel
theorem ZW{X:Cx}{ex:wf}{C:wg}{oe:Obj}{N':List Str}{scope:Scope}{cl:List (Str × wf)}{D:wf}{s₀ : wl}{H₀ : Hp}{fp:List wf}{pins:List (wf × Obj)}{es:List Expr}{k:Nat}{pos:Pos}{t:iB}{n:Nat}(hd:Hd X ex C oe)
  (h:nI (dq X N' scope cl D s₀ H₀ fp pins) es t) (hn:(VF es (dq X N' scope cl D s₀ H₀ fp pins).env).length=n:=by rfl) (hst:(VF es (dq X N' scope cl D s₀ H₀ fp pins).env).findIdx? (·.1)=none:=by rfl) :
  PG (dq X N' scope cl D s₀ H₀ fp pins) (.Tuple es k pos) (hJ X.K n t):=Ye hd.block h hn hst
theorem oX{P:wJ}{w:wM}{X:Cx} : nB (eJ P w) X E0:=λ_ _ _ _ _ _ _ h=>by
 obtain⟨_,_,_,_,_,_,_,_,_,_,_,q⟩:=h;exact q.elim
theorem jr.pJ{P:wJ}{w:wM}{K:wb}{mg:Str->Option wg}{base:wH}{x qual:Str}{st:vj}{f:wf}{fd:wG}{N ps:List Str}{k:Nat}{sp:Sp}(F:jr K x qual st f fd)(S:aT N ps (az st))(len:∀vs H Q E,sp vs H Q E->vs.length=ps.length)
  (hbody:∀(cdv:wg)(A:wW)(outer:List Env)(s:wl)(H:Hp)(vs:List V)(Q:VK)(E:XK),dF k (A.deeper (envOfC qual (az st) s.heap.objs.size f cdv))->sp vs H Q E ->
   ∃t,ff (gF (eJ P w) P w K mg base N qual (az st) f cdv A outer s H E) (jJ st) t/\t {nx:=λ_ H'=>Q .bG H',rt:=Q} (start N vs) H):aN P w K mg base (eJ P w) (k+1) f fd ps sp:=by
 obtain⟨oc,od,kV,doc,pm,an,cdv,ct,osl,rfl,lk,hcd⟩:=F.ex;exact Pl lk hcd S len λA outer s H vs Q E hr hsp=>hbody cdv A outer s H vs Q E hr hsp
theorem Exc.back{p:wf}{H H' H2:Hp}(b:Exc p H' H2)(s:Exc p H H'):Exc p H H2:=s.trans b
theorem Mj{X:Cx}{i j v:Int}{k1 k2:Nat}{p1 p2 pos:Pos}(hc:Ji i j)(hv:i^j.toNat=v):PE X (.BinOp (.Constant (.int i) k1 p1) .Pow (.Constant (.int j) k2 p2) pos) (tC (.int v)):=by
 subst hv;exact λpins s σ H Q I h=>(aD ZG aA aA:PE X _ _) pins s σ H Q I ⟨i,j,rfl,rfl,hc,h⟩
theorem zvv{α : Type}[DecidableEq α]{x : α}{A B:Prop}(h:B):if(!decide (x=x))=true then A else B:=by simpa using h
theorem zvT{α : Type}[DecidableEq α]{x : α}{A B:Prop}(h:A):if decide (x=x)=true then A else B:=by simpa using h
section
variable{K:wb}{σ : St}{H H':Hp}{Q:VK}{QB:Bool->Hp->Prop}{D:cq}{t:TA}{v w:V}{xs ys:List V}{m n:Int}{r:Rat}{p:wf}
theorem ZX{A B:Prop}(h:B):if(!true)=true then A else B:=by simpa using h
theorem Yo{A B:Prop}(h:A):if(!false)=true then A else B:=by simpa using h
theorem zyj{a b:V}(h:H p=some (.lst [a,b]))(h0:0<=m)(h1:m<2)(q:∀z,z=a\/z=b->Q z H):dB K (.ref p) (.int m) H Q :=
 Pm (λz=>z=a\/z=b) (aI.of h) h0 (by simpa using h1) (by simp) q
theorem zyG{a b:Int}(h:H p=some (.lst [.int a,.int b]))(h0:0<=m)(h1:m<2)(q:∀z,z=a\/z=b->Q (.int z) H):dB K (.ref p) (.int m) H Q :=
 zyj h h0 h1 λz hz=>by rcases hz with rfl | rfl;exact q _ (.inl rfl);exact q _ (.inr rfl)
theorem zyT(a b:Int):wV (.int a) (.int b)=decide (a=b):=by rw[wV,qF]
theorem zo6{x y:Rat}(h1:x.num=y.num)(h2:(x.den:Int)=y.den):x=y:=by
 have h2':x.den=y.den:=by lia
 exact Uk h1 h2'
theorem zg(x y:Rat):wV (N x) (N y)=decide (x=y):=by
 have e:wV (N x) (N y)=(decide (x.num=y.num)&&decide ((x.den:Int)=y.den)):=by
  simp only[N,wV,WP,xk,qF]
 rw[e,vI,w8,decide_eq_true_eq,decide_eq_true_eq,decide_eq_true_eq]
 constructor
 ·rintro ⟨h1,h2⟩;exact zo6 h1 h2
 ·rintro rfl;exact⟨rfl,rfl⟩
theorem Aq(x:Rat):vQ (N x)=true:=by simp[N,vQ,vR,Wn,W8,Wy]
theorem zAG{x y:Rat}(h:Is K H v (N x))(k:Is K H w (N y))(q:Q (.bl (decide (x=y))) H):df K v w H Q:=ES h k (Aq x) (Aq y) (by rw[zg];exact q)
theorem Kt{x y:Rat}(h:Is K H v (N x))(k:Is K H w (N y))(q:Q (.bl (!decide (x=y))) H):eD K v w H Q:=nY h k (Aq x) (Aq y) (by rw[zg];exact q)
end
theorem UQ{X:Cx} : aM X (wY .In) (kD X.K false):=Zs
theorem zvg{X:Cx} : aM X (wY .NotIn) (kD X.K true):=Y_
def R(a b:Rat):wF:=.tuple [N a,N b]
theorem Bs(a b:Rat):cO (R a b)=true:=by simp[R,cO,b7,lz]
structure aW(a b:Rat):Prop where
 a0:0<a
 a4:a<=4
 ad:a.den<=8
 b0:0<=b
 b1:b<=1
 bd:b.den<=12
 ab:1<=a+b
theorem aW.ba{a b:Rat}(h:aW a b):ag 10 a:=ag.small (c:=4) (d:=8) (vX h.a0) h.a4 h.ad (by decide) (by decide)
theorem aW.bb{a b:Rat}(h:aW a b):ag 10 b:=ag.small (c:=1) (d:=12) h.b0 h.b1 h.bd (by decide) (by decide)
section
variable{K:wb}{H:Hp}{Q:VK}{v:V}{a b:Rat}{σ : St}{gs:iB}{QS:St->Hp->Prop}
theorem zzF(h:Is K H v (R a b))(q:∀x,Is K H x (N a)->Q x H):dB K v (.int 0) H Q:=aH (j:=0) h rfl q
theorem zyq(h:Is K H v (R a b))(q:∀x,Is K H x (N b)->Q x H):dB K v (.int 1) H Q:=aH (j:=1) h rfl q
theorem Is.sf{H':Hp}(h:Is K H v (R a b))(s:bo H H'):Is K H' v (R a b):=Is.keep s _ v (Bs a b) h
theorem zwH(h:Is K H v (R a b))(q:∀x y,Is K H x (N a)->Is K H y (N b)->gs [x,y] σ H QS):hJ K 2 gs v σ H QS :=
 yq h rfl λxs t=>by
  obtain⟨x,r1,rfl,h1,t⟩:=dg.mp t;obtain⟨y,r2,rfl,h2,t⟩:=dg.mp t;rw[fq.mp t];exact q x y h1 h2
theorem zBl{x y:V}(h1:Is K H x (N a))(h2:Is K H y (N b))(q:∀v H',ah H H'->Is K H' v (R a b)->Q v H'):lW K [x,y] H Q :=
 cc (by show 2<=1000;decide) (.cons h1 (.cons h2 .nil)) q
end
section
variable{K:wb}{H H' H2:Hp}{Q:VK}{v w:V}{a b c d:Rat}{D:wf}
theorem zuO(h:Is K H v (R a b))(q:Q (.bl true) H):jb K [v,.ty "tuple"] H Q:=PR h q
theorem zyE(h:Is K H v (R a b))(q:Q (.int 2) H):cP K [v] H Q:=lZ h q
theorem ah.grow(s:ah H H')(n:H D=none)(e:Exc D H' H2):ah H H2:=λb o h=>e b o (jN h n) (s b o h)
end
theorem zxH{σ : St}{H:Hp}{Q:Bool->Hp->Prop}(q:Q true H):MV σ H Q:=q
theorem Dt{Pv:wf->Nat->List V->St->Hp->Prop}{g:TG}{tt:TT}{te:TE}{D:wf}{i:Nat}{x:V}{σ':St}{H':Hp}(h:g x σ' H' λσ3 H3=>tt σ3 H3 λok H4=>if ok=true then te σ3 H4 λy H5=>o_ Pv D i σ3 y H5 else ∃ys',Pv D (i+1) ys' σ3 H4) :
  gQ Pv g tt te D i x σ' H':=h
section
variable{K:wb}{σ : St}{H:Hp}{Q:VK}{E:XK}{D:cq}{t:TA}{C G:wg}{i:Nat}{tb:(St->XK)->TS}{th:wf->wg->TS}{sp:Sp}{W:St->XK}{ex C':wf}{b:Bool}
theorem zw6(h:t σ H λvs H1=>vs.length<=vd/\E C none H1):Kw C E t D σ H:=h
theorem zAW(W:St->XK)(h:tb W D σ H) (k:∀σ' C o H',W σ' C o H'->qH K C G=some true /\
  ∀ex,H' ex=none->th ex C {nx:=λσ2 H2=>D.nx (σ2.set i none) H2,rt:=D.rt,bk:=λσ2 H2=>D.bk (σ2.set i none) H2,ct:=λσ2 H2=>D.ct (σ2.set i none) H2} (σ'.set i (some (.ref ex))) H'):LD K G i tb th D σ H:=⟨W,h,k⟩
theorem zxQ(h:t σ H λvs H1=>sp vs H1 Q (W σ)):EJ sp W t σ H Q:=h
theorem U4{D':wf}(c:gI K C')(k:wD K (.ref C') (.ref D')=some b)(q:Q (.bl b) H):Dk K ex (.ref C') [.ref ex,.ref D'] H Q:=⟨C',b,rfl,c,.inl ⟨D',rfl,k⟩,q⟩
theorem ZP{T:String}(c:gI K C')(k:wD K (.ref C') (.type T)=some b)(q:Q (.bl b) H):Dk K ex (.ref C') [.ref ex,.ty T] H Q:=⟨C',b,rfl,c,.inr ⟨T,rfl,k⟩,q⟩
end
theorem zy(s:String):UG (vW s)=true:=by
 rw[Str.ofString_eq_toList,UG];simp only[List.all_toArray,XS,WN,Function.comp,decide_eq_true_eq];intro c _;have:=c.valid;simp only[Char.toNat];rcases this with h | h
 ·have:c.val.toNat<0xd800:=h
  lia
 ·exact h.2
inductive fK(K:wb)(H:Hp):List V->List (Str × Bool)->Prop
 | nil:fK K H [] []
 | cons {x:V} {xs:List V} {w:Str} {b:Bool} {ws:List (Str × Bool)} : Is K H x (.tuple [.str w,.bool b])->fK K H xs ws->fK K H (x::xs) ((w,b)::ws)
theorem fK.get{K:wb}{H:Hp}{xs:List V}{ws:List (Str × Bool)}(h:fK K H xs ws):∀(i:Nat)(x:V),xs[i]? = some x->∃w b,ws[i]? = some (w,b)/\Is K H x (.tuple [.str w,.bool b]):=by
 induction h with
 | nil=>intro i x e;simp at e
 | cons h _ ih =>
  intro i x e;cases i with
  | zero=>simp at e;subst e;exact⟨_,_,rfl,h⟩
  | succ i=>exact ih i x (by simpa using e)
theorem Y1{K:wb}{H H':Hp}{v:V}{d:wF}(h:Is K H v d)(s:ah H H'):Is K H' v d:=h.by s
theorem fK.app{K:wb}{H:Hp}{xs ys:List V}{ws us:List (Str × Bool)}(h:fK K H xs ws)(h':fK K H ys us):fK K H (xs++ys) (ws++us):=by
 induction h with
 | nil=>exact h'
 | cons h _ ih=>exact .cons h ih
theorem fK.len{K:wb}{H:Hp}{xs:List V}{ws:List (Str × Bool)}(h:fK K H xs ws):xs.length=ws.length:=by
 induction h with
 | nil=>rfl
 | cons _ _ ih=>simp[ih]
def ji(ws:List (Str × Bool)):List V:=(ws.filter (·.2)).map λp=>V.str p.1
theorem Ln{ws:List (Str × Bool)}{i:Nat}{w:Str}{b:Bool}(e:ws[i]? = some (w,b)):ji (ws.take (i+1))=ji (ws.take i)++if b=true then [V.str w]else []:=by
 unfold ji;rw[qx,e];cases b<;>simp
theorem zBV(ws:List (Str × Bool)):(ji ws).length<=ws.length:=by
 unfold ji;rw[wm];exact WI _ _
theorem zw4{K:wb}{H:Hp}{Q:VK}{σ : St}{c:wf}{xs:List V}{ws:List (Str × Bool)}(h:H c=some (.lst xs))(hw:fK K H xs ws)(hl:ws.length<=100)(q:∀D H',ah H H'->H' D=some (.lst (ji ws))->Q (.ref D) H') :
  rA K (hJ K 2 (Aa (gg 0) (Aa (gg 1) Fe))) (tB (lX 1)) (lX 0) [none,none] σ (.ref c) H Q:=by
 refine nU (aI.of h) (λD i ys σ' H'=>(∃o1 o2,σ'=[o1,o2])/\H D=none/\ah H H'/\H' D=some (.lst ys)/\ys=ji (ws.take i)) (λD H' n s e=>⟨⟨_,_,rfl⟩,n,s,e,by simp[ji]⟩) (λD i ys σ' H' h'=>aI.of (h'.2.2.1 _ _ h)) ?_ ?_
 ·rintro D i x ys σ' H' hx ⟨⟨o1,o2,rfl⟩,hn,S,hD,rfl⟩
  obtain⟨w,b,ew,iw⟩:=hw.get i x hx
  have hz:(ji (ws.take i)).length<=1000:=by
   have h1:=zBV (ws.take i);have h2:(ws.take i).length<=ws.length:=by rw[Ws];lia
   lia
  refine Dt (yq (iw.by S) rfl λzs t=>?_);obtain⟨z1,r1,rfl,e1,t⟩:=dg.mp t;obtain⟨z2,r2,rfl,e2,t⟩:=dg.mp t;cases fq.mp t;cases eK.mp e1;cases lq.mp e2;refine CJ (BS (CJ (BS (MH ?_))));refine RG (DX rfl (Rv ?_));cases b with
  | false =>
   refine lY ⟨_,⟨_,_,rfl⟩,hn,S,hD,?_⟩;rw[Ln ew];simp
  | true =>
   refine lP (DX rfl (ma hD hz λH6 E6 e6=>⟨⟨_,_,rfl⟩,hn,S.grow hn E6,e6,?_⟩));rw[Ln ew];simp
 ·rintro D ys σ' H' ⟨_,hn,S,hD,rfl⟩
  rw[hw.len,WC]at hD;exact q D H' S hD
theorem dX{K:wb}{H:Hp}{c:wf}{p q:Int}(r:Rat)(h:aR K H c [.int p,.int q])(e1:r.num=p)(e2:(r.den:Int)=q):Is K H (.ref c) (N r):=by
 subst e1 e2;exact bW.mpr ⟨c,_,rfl,h,dg.mpr ⟨_,_,rfl,cb.mpr rfl,dg.mpr ⟨_,_,rfl,cb.mpr rfl,fq.mpr rfl⟩⟩⟩
theorem IL(s:String):vQ (.str (vW s))=true:=by
 simp[vQ,vR,W8,zy]
inductive Bi(X:Cx):List Expr->List TE->Prop
 | nil:Bi X [] []
 | cons {e:Expr} {es:List Expr} {te:TE} {ts:List TE} : (∀env,va (e::es) env=(false,eval e env)::va es env)->PE X e te->Bi X es ts->Bi X (e::es) (te::ts)
section
variable{K:wb}{H H' H2:Hp}{Q:VK}{R:Prop}{v w y:V}{p l:wf}{xs ys zs:List V}{ns:List Int}{m:Int}{σ : St}
end
section
variable{K:wb}{H H' H2:Hp}{Q:VK}{R:Prop}{v w y:V}{p l:wf}{xs ys zs:List V}{ns:List Int}{m:Int}{σ : St}{to:TE}{t:TA}{T:String}{r:V->List V->Hp->VK->Prop}
theorem ZS(h:to σ H λx H1=>sF K T x H1/\t σ H1 λxs H2=>r x xs H2 Q):OX K T r to t σ H Q:=h
theorem gG(h:aI K H p xs)(q:R):sF K "list" (.ref p) H/\R:=⟨.inl ⟨rfl,xs,h⟩,q⟩
theorem gq(h:H l=some (.lst xs))(z:xs.length<=1000)(q:∀H',Exc l H H'->H' l=some (.lst (xs++[y]))->Q .bG H'):MG (.ref l) [y] H Q:=⟨l,xs,y,rfl,rfl,h,kr z,q _ (Exc.upd l H _) cT⟩
end
def ee(K:wb):List V->Hp->VK->Prop:=λxs H Q=>∃p ys,xs=[.ref p]/\((aI K H p ys /\ ∀l,H l=none->Q (.ref l) (upd H l (.tup ys)))\/(aR K H p ys/\Q (.ref p) H))
def oZ(K:wb):List V->Hp->VK->Prop:=λxs H Q=>∃p ys,xs=[.ref p]/\(aI K H p ys\/aR K H p ys) /\ ∀l,H l=none->Q (.ref l) (upd H l (.lst ys))
theorem fm{X:Cx} : aK X (.type "tuple") (ee X.K):=Zt
theorem Dg{X:Cx} : aK X (.type "list") (oZ X.K):=zo8
def zp(K:wb):V->Option Int->Option Int->Hp->VK->Prop:=λx lo hi H Q=>Pe K x lo hi H Q\/Jg K x lo hi H Q
theorem nZ{X:Cx} : kx X (zp X.K):=zyY.or zBG
section
variable{K:wb}{H H' H2:Hp}{Q:VK}{QO:Option Int->Hp->Prop}{R:Prop}{v w y:V}{p l:wf}{xs ys zs:List V}{ds es:List wF}{m:Int}{σ : St}{te:TE}{tl th:TO}{r:V->Option Int->Option Int->Hp->VK->Prop}{lo hi:Option Int}
theorem sY(h:aI K H p ys)(q:∀l H',H l=none->ah H H'->H' l=some (.tup ys)->Q (.ref l) H'):ee K [.ref p] H Q:=⟨p,ys,rfl,.inl ⟨h,λl hl=>q l _ hl (ah.upd hl) cT⟩⟩
theorem gY(h:Is K H v (.list ds))(q:∀w H',ah H H'->Is K H' w (.tuple ds)->Q w H'):ee K [v] H Q:=by
 obtain⟨a,xs,rfl,hs,t⟩:=cu.mp h;exact sY hs λl H' _ s e=>q _ H' s (bW.mpr ⟨l,xs,rfl,.of e,ao.same s ds xs t⟩)
theorem IZ(h:Is K H v (.tuple ds))(q:Q v H):ee K [v] H Q:=by
 obtain⟨a,xs,rfl,hs,t⟩:=bW.mp h;exact⟨a,xs,rfl,.inr ⟨hs,q⟩⟩
theorem BO(h:Is K H v (.tuple ds))(q:∀l H' ys,H l=none->ah H H'->H' l=some (.lst ys)->ao K H' ys ds->Q (.ref l) H'):oZ K [v] H Q:=by
 obtain⟨a,xs,rfl,hs,t⟩:=bW.mp h;exact⟨a,xs,rfl,.inr hs,λl hl=>q l _ xs hl (ah.upd hl) cT (ao.same (ah.upd hl) ds xs t)⟩
theorem ZH(h:te σ H λx H1=>tl σ H1 λl H2=>th σ H2 λu H3=>r x l u H3 Q):OI r te tl th σ H Q:=h
theorem zvF(q:QO none H):RD σ H QO:=q
theorem zyP(h:te σ H λx H1=>∃i,x=.int i/\QO (some i) H1):Nq te σ H QO:=h
theorem zxs{RI:Int->Prop}(q:RI m):∃i,V.int m=V.int i/\RI i:=⟨m,rfl,q⟩
def iP{α : Type}(xs:List α)(lo hi:Option Int):List α:=(xs.drop (HT.a_ xs.length 0 lo)).take (HT.a_ xs.length xs.length hi-HT.a_ xs.length 0 lo)
theorem ao.take:∀{ds:List wF}{xs:List V}(n:Nat),ao K H xs ds->ao K H (xs.take n) (ds.take n)
 | _,_,0,h=>by simp[ao.nil]
 | [],_,n+1,h=>by rw[fq.mp h];simp[ao.nil]
 | d::ds,_,n+1,h=>by
  obtain⟨x,r,rfl,q,t⟩:=dg.mp h;rw[XC,XC];exact .cons q (ao.take n t)
theorem ao.drop:∀{ds:List wF}{xs:List V}(n:Nat),ao K H xs ds->ao K H (xs.drop n) (ds.drop n)
 | _,_,0,h=>by simpa using h
 | [],_,n+1,h=>by rw[fq.mp h];simp[ao.nil]
 | d::ds,_,n+1,h=>by
  obtain⟨x,r,rfl,q,t⟩:=dg.mp h;rw[QU,QU];exact ao.drop n t
theorem ao.cut(h:ao K H xs ds):ao K H (jm xs lo hi) (iP ds lo hi):=by
 unfold jm iP;rw[h.length];exact(h.drop _).take _
theorem Oo(h:aI K H p xs)(q:∀l H',H l=none->ah H H'->H' l=some (.lst (jm xs lo hi))->Q (.ref l) H'):zp K (.ref p) lo hi H Q:=.inl ⟨p,xs,rfl,h,λl hl=>q l _ hl (ah.upd hl) cT⟩
theorem ya(h:Is K H v (.list ds))(q:∀l H' ys,H l=none->ah H H'->H' l=some (.lst ys)->ao K H' ys (iP ds lo hi)->Q (.ref l) H'):zp K v lo hi H Q:=by
 obtain⟨a,xs,rfl,hs,t⟩:=cu.mp h;exact Oo hs λl H' hl s e=>q l H' _ hl s e (ao.same s _ _ t.cut)
theorem zys(h:Is K H v (.tuple ds))(hw:¬ (HT.a_ ds.length 0 lo=0/\HT.a_ ds.length ds.length hi=ds.length))(q:∀w H',ah H H'->Is K H' w (.tuple (iP ds lo hi))->Q w H'):zp K v lo hi H Q:=by
 obtain⟨a,xs,rfl,hs,t⟩:=bW.mp h;refine .inr ⟨a,xs,rfl,hs,by rw[t.length];exact hw,λl hl=>q _ _ (ah.upd hl) (bW.mpr ⟨l,_,rfl,.of cT,ao.same (ah.upd hl) _ _ t.cut⟩)⟩
theorem C0{α : Type}(xs:List α):iP xs none (some (-1))=xs.dropLast:=by
 unfold iP
 show(xs.drop 0).take (((-1:Int)+(xs.length:Int)).toNat-0)=_
 rw[Xe,Xc]
 congr 1
 lia
theorem Pz{α : Type}(xs:List α):iP xs (some 1) none=xs.tail:=by
 unfold iP
 show(xs.drop (min 1 xs.length)).take (xs.length-min 1 xs.length)=_
 cases xs with
 | nil=>rfl
 | cons x xs =>
  have e:min 1 (x::xs).length=1:=by rw[vo];lia
  rw[e,QU,Xe,vo,Qj,WC,Ui]
end
def TN(xs:List Rat):wF:=.tuple (xs.map N)
def LN(xs:List Rat):wF:=.list (xs.map N)
theorem dZ:∀xs:List Rat,b7 (xs.map N)=true
 | []=>by simp[b7]
 | x::xs=>by rw[vb,b7,lz,dZ xs];rfl
theorem tI(xs:List Rat):cO (TN xs)=true:=by rw[TN,cO];exact dZ xs
theorem Yc(x:Rat):(N x).canLay0=true:=by simp[N,vR,Wn]
theorem zzB(x:Rat):(N x).depth=1:=by simp[N,W8,Wy]
theorem sj:∀xs:List Rat,Wn (xs.map N)=true
 | []=>by simp[Wn]
 | x::xs=>by rw[vb,Wn,Yc,sj xs];rfl
theorem CA:∀xs:List Rat,Wy (xs.map N)<=1
 | []=>by simp[Wy]
 | x::xs=>by
  have:=CA xs;rw[vb,Wy,zzB];lia
theorem yE(xs:List Rat):vQ (TN xs)=true:=by
 unfold vQ TN;rw[vR,sj,W8,Qz];have:=CA xs;exact decide_eq_true (by lia)
theorem ME(xs:List Rat):vQ (LN xs)=true:=by
 unfold vQ LN;rw[vR,sj,W8,Qz];have:=CA xs;exact decide_eq_true (by lia)
theorem Fg:∀xs ys:List Rat,WP (xs.map N) (ys.map N)=decide (xs=ys)
 | [],[]=>by simp[WP]
 | [],y::ys=>by simp[WP]
 | x::xs,[]=>by simp[WP]
 | x::xs,y::ys=>by
  rw[vb,vb,WP,zg,Fg xs ys,vI,w8,decide_eq_true_eq,decide_eq_true_eq,decide_eq_true_eq,u4]
theorem R_(xs ys:List Rat):wV (TN xs) (TN ys)=decide (xs=ys):=by
 unfold TN;rw[wV,Fg]
theorem zBd(xs ys:List Rat):wV (LN xs) (LN ys)=decide (xs=ys):=by
 unfold LN;rw[wV,Fg]
section
variable{K:wb}{H H' H2:Hp}{Q:VK}{v w y:V}{p l:wf}{vs:List V}{xs ys:List Rat}{m:Int}{σ : St}
theorem DJ(h:Is K H v (TN xs))(k:Is K H w (TN ys))(q:Q (.bl (decide (xs=ys))) H):df K v w H Q:=ES h k (yE xs) (yE ys) (by rw[R_];exact q)
theorem UT(h:Is K H v (TN xs))(k:Is K H w (TN ys))(q:Q (.bl (!decide (xs=ys))) H):eD K v w H Q:=nY h k (yE xs) (yE ys) (by rw[R_];exact q)
theorem zyv(h:Is K H v (LN xs))(k:Is K H w (LN ys))(q:Q (.bl (!decide (xs=ys))) H):eD K v w H Q:=nY h k (ME xs) (ME ys) (by rw[zBd];exact q)
theorem DQ{i:Nat}(t:ao K H vs (xs.map N))(h:i<xs.length):∃x,vs[i]? = some x/\Is K H x (N (xs.getD i 0)):=by
 refine t.get ?_;rw[wu,wa,wc h]
 rfl
theorem dM{i:Nat}{x:V}(t:ao K H vs (xs.map N))(h:vs[i]? = some x):i<xs.length/\Is K H x (N (xs.getD i 0)):=by
 have hl:=t.length;rw[wm]at hl
 have hi:i<xs.length:=by
  rcases wz i vs.length with z | z
  ·lia
  ·rw[wE z]at h;cases h
 obtain⟨x',e,hx⟩:=DQ t hi;rw[h]at e;cases e;exact⟨hi,hx⟩
theorem oV(h:Is K H v (TN xs))(h0:0<=m)(h1:m<xs.length)(q:∀x,Is K H x (N (xs.getD m.toNat 0))->Q x H):dB K v (.int m) H Q:=by
 obtain⟨a,vs,rfl,hs,t⟩:=bW.mp h;obtain⟨n,rfl⟩:∃n:Nat,m=(n:Int):=⟨m.toNat,by lia⟩;obtain⟨x,e,hx⟩:=DQ (i:=n) t (by lia);exact sN hs (kU e) (q x hx)
theorem lT(h:Is K H v (LN xs))(h0:0<=m)(h1:m<xs.length)(q:∀x,Is K H x (N (xs.getD m.toNat 0))->Q x H):dB K v (.int m) H Q:=by
 obtain⟨a,vs,rfl,hs,t⟩:=cu.mp h;obtain⟨n,rfl⟩:∃n:Nat,m=(n:Int):=⟨m.toNat,by lia⟩;obtain⟨x,e,hx⟩:=DQ (i:=n) t (by lia);exact jo hs (kU e) (q x hx)
theorem zw0(h:Is K H v (TN xs))(q:Q (.int xs.length) H):cP K [v] H Q:=lZ h (by rw[wm];exact q)
theorem zxb(h:Is K H v (LN xs))(q:Q (.int xs.length) H):cP K [v] H Q:=by
 obtain⟨a,vs,rfl,hs,t⟩:=cu.mp h;have:=t.length;rw[wm]at this;exact jM hs (by rw[this];exact q)
theorem dj(h:H l=some (.lst vs))(t:ao K H vs (xs.map N)):Is K H (.ref l) (LN xs):=cu.mpr ⟨l,vs,rfl,.of h,t⟩
theorem gp:∀{xs:List Rat}{vs:List V},vs.length=xs.length->(∀i x,vs[i]? = some x->Is K H x (N (xs.getD i 0)))->ao K H vs (xs.map N)
 | [],vs,hl,_=>by
  have:vs=[]:=WW hl;subst this;exact .nil
 | x::xs,[],hl,_=>by cases hl
 | x::xs,u::vs,hl,h=>by
  rw[vb];exact .cons (h 0 u rfl) (gp (by simpa using hl) λi y e=>h (i+1) y e)
end
section
variable{K:wb}{g:TG}{tt:TT}{te:TE}{src:List (Option Nat)}{σ : St}{H:Hp}{Q:VK}{a:wf}{vs:List V}{n:Int}{tl:St}{o0:Option V}
def gD(H:Hp)(tl:St)(Rel:Nat->V->Hp->Prop)(D:wf)(i:Nat)(ys:List V)(σ':St)(H':Hp):Prop :=
 (∃o,σ'=o::tl)/\H D=none/\ah H H'/\H' D=some (.lst ys)/\ys.length=i /\ ∀j y,ys[j]? = some y->Rel j y H'
theorem gD.same{Rel:Nat->V->Hp->Prop}{D:wf}{i:Nat}{ys:List V}{σ':St}{H':Hp}(h:gD H tl Rel D i ys σ' H'):ah H H':=h.2.2.1
theorem eS{Rel:Nat->V->Hp->Prop}{D:wf}{i:Nat}{ys:List V}{σ' σ3:St}{H1 H5:Hp}{y:V}(inv:gD H tl Rel D i ys σ' H1)(hi:i<=1000)(hk:∀i v H1 H2,bo H1 H2->Rel i v H1->Rel i v H2)(hσ : ∃o,σ3=o::tl)(s:ah H1 H5)(r:Rel i y H5):o_ (gD H tl Rel) D i σ3 y H5:=by
 obtain⟨_,hn,s1,hD,hl,hr⟩:=inv;have hD5:=s _ _ hD;refine ma hD5 (by lia) λH6 E6 e6=>⟨hσ,hn,(s1.trans s).grow hn E6,e6,by simp[hl],λj z hz=>?_⟩
 have k6:bo H5 H6:=E6.keep hD5;rcases wz j ys.length with hj | hj
 ·rw[Wf hj]at hz
  exact hk _ _ _ _ (s.keep.trans k6) (hr j z hz)
 ·have hj':j=ys.length:=by
   rcases wz ys.length j with q | q
   ·rw[wE (by simp;lia)]at hz;cases hz
   ·lia
  subst hj';rw[vH (wp _),Vr]at hz;cases hz;rw[hl];exact hk _ _ _ _ k6 r
theorem lM(hx:aI K H a vs)(hsrc:dJ src σ = o0::tl)(Rel:Nat->V->Hp->Prop)(hs:∀D i x ys o H1,vs[i]? = some x->gD H tl Rel D i ys (o::tl) H1->gQ (gD H tl Rel) g tt te D i x (o::tl) H1)
  (hd:∀D ys H',H D=none->ah H H'->H' D=some (.lst ys)->ys.length=vs.length->(∀j y,ys[j]? = some y->Rel j y H')->Q (.ref D) H'):rA K g tt te src σ (.ref a) H Q:=by
 refine nU hx (gD H tl Rel) (λD H' n s e=>⟨⟨o0,hsrc⟩,n,s,e,rfl,λj y z=>by simp at z⟩) (λD i ys σ' H' h=>h.same.seq hx) ?_ λD ys σ' H' ⟨_,n,s,e,hl,r⟩=>hd D ys H' n s e hl r
 rintro D i x ys σ' H' hx' h;obtain⟨⟨o,rfl⟩,_⟩:=id h;exact hs D i x ys o H' hx' h
theorem jl(hx:aR K H a vs)(hsrc:dJ src σ = o0::tl)(Rel:Nat->V->Hp->Prop)(hs:∀D i x ys o H1,vs[i]? = some x->gD H tl Rel D i ys (o::tl) H1->gQ (gD H tl Rel) g tt te D i x (o::tl) H1)
  (hd:∀D ys H',H D=none->ah H H'->H' D=some (.lst ys)->ys.length=vs.length->(∀j y,ys[j]? = some y->Rel j y H')->Q (.ref D) H'):zU K g tt te src σ (.ref a) H Q:=by
 refine zr0 hx (gD H tl Rel) (λD H' n s e=>⟨⟨o0,hsrc⟩,n,s,e,rfl,λj y z=>by simp at z⟩) (λD i ys σ' H' h=>h.same.iV hx) ?_ λD ys σ' H' ⟨_,n,s,e,hl,r⟩=>hd D ys H' n s e hl r
 rintro D i x ys σ' H' hx' h;obtain⟨⟨o,rfl⟩,_⟩:=id h;exact hs D i x ys o H' hx' h
theorem zzn(h0:0<=n)(h1:n<1000000000)(hsrc:dJ src σ = o0::tl)(Rel:Nat->V->Hp->Prop)(hs:∀D (i:Nat) ys o H1,i<n.toNat->gD H tl Rel D i ys (o::tl) H1->gQ (gD H tl Rel) g tt te D i (.int (i:Int)) (o::tl) H1)
  (hd:∀D ys H',H D=none->ah H H'->H' D=some (.lst ys)->ys.length=n.toNat->(∀j y,ys[j]? = some y->Rel j y H')->Q (.ref D) H'):EV g tt te src σ [.int n] H Q:=by
 refine zsa (by lia) h1 (gD H tl Rel) (λD H' n s e=>⟨⟨o0,hsrc⟩,n,s,e,rfl,λj y z=>by simp at z⟩) ?_ λD ys σ' H' ⟨_,n,s,e,hl,r⟩=>hd D ys H' n s e hl r
 rintro D i ys σ' H' hi h;obtain⟨⟨o,rfl⟩,_⟩:=id h;exact hs D i ys o H' hi h
theorem f_{xs:List Rat} : ∀(i:Nat)(v:V)(H1 H2:Hp),bo H1 H2->Is K H1 v (N (xs.getD i 0))->Is K H2 v (N (xs.getD i 0)):=λi v H1 H2 k h=>h.gT k
end
theorem Z9{H:Hp}{G:Hp->Prop}{P:Prop}(use:(∀H1,ah H H1->G H1)->P)(ck:∀H1,ah H H1->G H1):P:=use ck
theorem jz{H H':Hp}{l:wf}(s:ah H H')(h:H' l=none):H l=none:=by
 cases e:H l with
 | none=>rfl
 | some o=>rw[s _ _ e]at h;cases h
def TZ(ns:List Int):wF:=.tuple (ns.map PyData.int)
def LL(rss:List (List Rat)):wF:=.list (rss.map LN)
theorem O8:∀ns:List Int,b7 (ns.map PyData.int)=true
 | []=>by simp[b7]
 | n::ns=>by rw[vb,b7,O8 ns];rfl
theorem zAQ(ns:List Int):cO (TZ ns)=true:=by rw[TZ,cO];exact O8 ns
section
variable{K:wb}{H H' H2:Hp}{Q:VK}{v w y:V}{p l:wf}{vs:List V}{ns:List Int}{rss:List (List Rat)}{m:Int}{σ : St}
theorem zi:∀{ns:List Int}{vs:List V},ao K H vs (ns.map PyData.int) ↔ vs=ns.map V.int
 | [],vs=>by rw[QG,fq];rfl
 | n::ns,vs=>by
  rw[vb,dg,vb]
  constructor
  ·rintro ⟨x,r,rfl,h,t⟩
   rw[cb.mp h,zi.mp t]
  ·rintro rfl
   exact⟨_,_,rfl,cb.mpr rfl,zi.mpr rfl⟩
theorem nA:Is K H v (TZ ns) ↔ ∃a,v=.ref a/\aR K H a (ns.map V.int):=by
 unfold TZ;rw[bW]
 constructor
 ·rintro ⟨a,xs,e,h,t⟩
  rw[zi.mp t]at h;exact⟨a,e,h⟩
 ·rintro ⟨a,e,h⟩
  exact⟨a,_,e,h,zi.mpr rfl⟩
theorem yY(h:Is K H v (TZ ns))(q:Q (.int ns.length) H):cP K [v] H Q:=lZ h (by rw[wm];exact q)
theorem Kp{i:Nat}(t:ao K H vs (rss.map LN))(h:i<rss.length):∃x,vs[i]? = some x/\Is K H x (LN (rss.getD i [])):=by
 refine t.get ?_;rw[wu,wa,wc h]
 rfl
theorem Jz(h:Is K H v (LL rss))(h0:0<=m)(h1:m<rss.length)(q:∀x,Is K H x (LN (rss.getD m.toNat []))->Q x H):dB K v (.int m) H Q:=by
 obtain⟨a,vs,rfl,hs,t⟩:=cu.mp h;obtain⟨n,rfl⟩:∃n:Nat,m=(n:Int):=⟨m.toNat,by lia⟩;obtain⟨x,e,hx⟩:=Kp (i:=n) t (by lia);exact jo hs (kU e) (q x hx)
theorem DK{α : Type}{xs:List α}{x : α}(h:xs[xs.length-1]? = some x):gy xs (-1)=some x:=by
 have hl:0<xs.length:=by
  cases xs with
  | nil=>cases h
  | cons _ _=>simp
 unfold gy ib;rw[if_neg (by lia),if_pos (by lia)]
 show xs[((-1:Int)+(xs.length:Int)).toNat]? = some x
 rw[show((-1:Int)+(xs.length:Int)).toNat=xs.length-1 by lia];exact h
theorem JK(h:Is K H v (LL rss))(h0:0<rss.length)(q:∀x,Is K H x (LN (rss.getD (rss.length-1) []))->Q x H):dB K v (.int (-1)) H Q:=by
 obtain⟨a,vs,rfl,hs,t⟩:=cu.mp h;have hl:=t.length;rw[wm]at hl;obtain⟨x,e,hx⟩:=Kp (i:=rss.length-1) t (by lia);rw[<- hl]at e;exact jo hs (DK e) (q x hx)
theorem Ct:∀{rss:List (List Rat)}{vs:List V},vs.length=rss.length->(∀i x,vs[i]? = some x->Is K H x (LN (rss.getD i [])))->ao K H vs (rss.map LN)
 | [],vs,hl,_=>by
  have:vs=[]:=WW hl;subst this;exact .nil
 | x::xs,[],hl,_=>by cases hl
 | x::xs,u::vs,hl,h=>by
  rw[vb];exact .cons (h 0 u rfl) (Ct (by simpa using hl) λi y e=>h (i+1) y e)
end
def yV(K:wb):R2:=λx y H Q=>RZ K x y H Q \/ ∃a b ys,x=.ref a/\y=.ref b/\aR K H a []/\aR K H b ys/\Q (.ref b) H
theorem Nm{X:Cx} : aM X (Vd .Add) (yV X.K):=by
 intro pins s σ H x y v u Q I rx ry h;rcases h with h | ⟨a,b,ys,rfl,rfl,ha,hb,q⟩
 ·exact zyg pins s σ H x y v u Q I rx ry h
 ·cases rx
  cases ry;obtain⟨its,r1,p1,_⟩:=I.tuple ha;cases r1;obtain⟨its2,r2,p2,_⟩:=I.tuple hb;obtain⟨⟨cls,dd,data,sl⟩,ho,hc,n,hd⟩:=id p1;obtain⟨⟨cls2,dd2,data2,sl2⟩,ho2,hc2,n2,hd2⟩:=id p2;simp only at hc hd hc2 hd2;subst hc hd hc2 hd2;exact concat_meets ⟨_,ho,rfl⟩ ⟨_,ho2,rfl⟩ noFill_tuple_add seq_tuple_add Qy Qt (Qh _ _) (tuple_addW0 a b _ its2.toArray n n2 dd dd2 sl sl2 rfl) ⟨ho,ho2,⟨.ref b,H,I,rfl,q⟩⟩
theorem Kh{K:wb}{H:Hp}{Q:VK}{v w:V}{ds es:List wF}(h1:Is K H v (.tuple ds))(h2:Is K H w (.tuple es))(z:ds.length+es.length<=1000)(q:∀u H',ah H H'->Is K H' u (.tuple (ds++es))->Q u H'):yV K v w H Q:=by
 obtain⟨a,xs,rfl,ha,ta⟩:=bW.mp h1;obtain⟨b,ys,rfl,hb,tb⟩:=bW.mp h2;have la:=ta.length;have lb:=tb.length;cases xs with
 | nil =>
  obtain rfl:ds=[]:=WW (by simpa using la.symm);exact .inr ⟨a,b,ys,rfl,rfl,ha,hb,q _ H (ah.refl _) h2⟩
 | cons x xs =>
  refine .inl ⟨a,b,x::xs,ys,rfl,rfl,ha,hb,by simp,VG (kr (by lia)),λhy=>?_,λhy p hp=>?_⟩
  ·obtain rfl:es=[]:=WW (by rw[hy]at lb;simpa using lb.symm)
   exact q _ H (ah.refl _) (by rw[Wl];exact h1)
  ·exact q _ _ (ah.upd hp) (bW.mpr ⟨p,_,rfl,.of cT,(ao.same (ah.upd hp) _ _ ta).append (ao.same (ah.upd hp) _ _ tb)⟩)
theorem Inv.rT{X:Cx}{pins:List (wf × Obj)}{σ : St}{H:Hp}{s:wl}{h':wH}{t':Nat}{ch:List wf}(I:Inv X pins σ H s)(k:∀b o,b ∉ ch->s.heap.get? b=some o->h'.get? b=some o)(hf:∀b∈ch,d9 X pins H b):Inv X pins σ H {s with heap:=h',toks:=t'}:=by
 have nit:∀b u,H b=some u->b ∉ ch:=λb u e z=>by rw[(hf b z).1]at e;cases e
 refine I.step (g':=s.gens) (d':=s.drawn) (ch:=ch) (λb hb=>⟨(hf b hb).2.2.2.1,(hf b hb).2.1,(hf b hb).2.2.2.2.1,(hf b hb).2.2.2.2.2⟩) (λb o _ _ hc e _=>k b o hc e)
  (λb o _ _ hc e _=>⟨o.slots,k b o hc e⟩) (λ_ _ _ _ n=>n) (λb o hc e=>⟨o,k b o hc e⟩) (λ_ _ e=>e) (λ_ _ _ e=>e) (λb ps e=>⟨#[],by rw[e];simp⟩) (λm hm=>?_) (λb u e=>?_) I.bare
 ·obtain⟨o,es,ep,ho,r⟩:=hm
  exact⟨o,es,ep,k _ o (λz=>(hf _ z).2.1 rfl) ho,r⟩
 ·refine(I.aF b u e).jG (λc v hc q=>k c v ?_ q) (λ_ q=>q) λ_ _ q=>q
  rcases hc with z | z
  ·rw[z];exact nit b u e
  ·exact nit c _ z
section
variable{prog:wJ}{w:wM}{A:wW}{E:wg->wl->Prop}{s:wl}
theorem zrR{it tu:wf}{i:Nat}{its:Array wg}{x:wg}{Q:wg->wl->Prop}(ei:s.heap.IsTupleIter it tu i)(et:s.heap.IsTuple tu its)(ex:its[i]? = some x)
  (fin:∀h',h'.IsTupleIter it tu (i+1)->vn it s.heap h'->Q x {s with heap:=h'}):wq (model prog w) A (vM (.ref it)) Q E s:=by
 obtain⟨ob,eo,ec,ed⟩:=id ei;obtain⟨ot,eot,_,nt,edt⟩:=et;unfold vM;refine we (wpAny_callSpecial?_slot (name:=vW "__next__") ei.typeIs VS (Wb VS ei.typeIs Q9 ?_ (QY _)))
 show wq _ _ (field (.ref it) 0 >>= _) _ _ s;refine we (vk eo ed (x:=.ref tu) rfl ?_)
 show wq _ _ (if(Value.ref tu == Value.none)=true then _ else _) _ _ s;rw[if_neg (show ¬ ((Value.ref tu == Value.none)=true)from vG)]
 show wq _ _ (field (.ref it) 1 >>= _) _ _ s;refine we (vk eo ed (x:=.int i 0) rfl ?_)
 show wq _ _ (seqItems? (.ref tu) >>= _) _ _ s;refine we (Wi eot edt ?_)
 simp only[wT,ex];refine we (VB eo ed (by simp) (wo ⟨x,rfl,wo (fin _ ?_ (qZ ..))⟩));exact⟨_,Vh _ eo (qG (ql ed _)),(ud ..).trans ec,by rw[ql ed];simp[VY]⟩
theorem JC{it tu:wf}{i:Nat}{its:Array wg}{Q:wg->wl->Prop}(hh:A.handled=none)(ei:s.heap.IsTupleIter it tu i)(et:s.heap.IsTuple tu its)(ex:its[i]? = none)
  (fin:∀h' e,xX it s.heap h'->(∃o,h'.get? e=some o/\o.cls=.type "StopIteration")->E (.ref e) {s with heap:=h'}):wq (model prog w) A (vM (.ref it)) Q E s:=by
 obtain⟨ob,eo,ec,ed⟩:=id ei;obtain⟨ot,eot,_,nt,edt⟩:=et;unfold vM;refine we (wpAny_callSpecial?_slot (name:=vW "__next__") ei.typeIs VS (Wb VS ei.typeIs Q9 ?_ (QY _)))
 show wq _ _ (field (.ref it) 0 >>= _) _ _ s;refine we (vk eo ed (x:=.ref tu) rfl ?_)
 show wq _ _ (if(Value.ref tu == Value.none)=true then _ else _) _ _ s;rw[if_neg (show ¬ ((Value.ref tu == Value.none)=true)from vG)]
 show wq _ _ (field (.ref it) 1 >>= _) _ _ s;refine we (vk eo ed (x:=.int i 0) rfl ?_)
 show wq _ _ (seqItems? (.ref tu) >>= _) _ _ s;refine we (Wi eot edt ?_)
 simp only[wT,ex];refine we (qp (we (VB eo ed (by simp) ?_)))
 show wq _ _ (newExc (.type "StopIteration") [] >>= _) _ _ _;refine we ?_;simp only[newExc,newTuple]
 refine we (Ww ?_ (by size_fits));refine we (m:=firstArgMember _ _) (wpAny_of_eq (a:=Value.none) (by first | rfl | (simp only[firstArgMember];rfl)) ?_);refine Ww ?_ (by size_fits);simp only[raiseNew];refine we (wpAny_handled ?_)
 first | rw[hh] | rw[show A.in1.handled=none from hh]
 exact we (wo (wpAny_throw (fin _ _ (((qZ ..).extBut.push _).push _) ⟨_,wP _ rfl,rfl⟩)))
theorem jv(hh:A.handled=none)(it tu:wf)(hne:tu≠it)(its:Array wg):Draws prog w A it [it,tu] its.size (λi v=>its[i]? = some v) (λi h=>h.IsTupleIter it tu i/\h.IsTuple tu its) where
 live:=λ_ _ st=>let ⟨o,ho,_⟩:=st.1;⟨o,ho⟩
 frame:=λ_ _ _ st hk=>⟨st.1.at λo e=>hk it (by simp) o e,st.2.at λo e=>hk tu (by simp) o e⟩
 item:=λi s Q E hi st hQ=>zrR st.1 st.2 (x:=its[i]) (by simp[hi]) λh' hit' hs'=>hQ _ h' s.toks (by simp[hi]) ⟨hit',st.2.extBut hs'.extBut hne⟩ hs'
 done:=λs Q E st hE=>JC hh st.1 st.2 (by simp) hE
open AutoSeq1 (wpAny_loadPart') in
theorem zqu(tu:wf)(its:Array wg)(n:Nat)(dct:Option wf)(sl:Array (Option wg)):Meets (Builtin.«enumerate.__new__» ⟨[.type "enumerate",.ref tu],[]⟩) (λ_ R s=>s.heap.get? tu=some {cls:=.type "tuple",dict:=dct,data:=.seq its n,slots:=sl} /\
  R (.ok (.ret (.ref (s.heap.push {cls:=.type "tuple_iterator",data:=.fields #[.ref tu,.int 0 0]}).objs.size))) {s with heap:=(s.heap.push {cls:=.type "tuple_iterator",data:=.fields #[.ref tu,.int 0 0]}).push {cls:=.type "enumerate",data:=.fields #[.none,.bool false,.ref s.heap.objs.size,VY 0,.none,.none]}}) :=
 .of_wp λprog w A R s h=>by
  obtain⟨hp,g,d,tk,os⟩:=s;obtain⟨et,h⟩:=h;have hsub:=sub_enumerate;have hT:XT (uu ⟨hp,g,d,tk,os⟩) tu its:=⟨_,et,rfl,n,rfl⟩
  wp_walk using wpAny_loadPart' et
  refine wpAny_stack_any λst=>wo ?_
  split
  ·rename_i c _ _ _ _ _
   cases (c == Value.type "enumerate")<;>(wp_walk using wpAny_loadPart' et,VL hT;exact⟨_,rfl,h⟩)
  ·wp_walk using wpAny_loadPart' et,VL hT
   exact⟨_,rfl,h⟩
theorem zsG{tu:wf}{its:Array wg}{Q:wg->wl->Prop}(hT:s.heap.IsTuple tu its)(fin:∀h',IsEnum h' (s.heap.objs.size+1) s.heap.objs.size 0 .none->h'.IsTupleIter s.heap.objs.size tu 0->(∀b o,s.heap.get? b=some o->h'.get? b=some o)->Q (.ref (s.heap.objs.size+1)) {s with heap:=h'}) :
  wq (model prog w) A (call (.type "enumerate") [.ref tu]) Q E s:=by
 obtain⟨⟨c,dct,dt,sl⟩,et,hc,n,hd⟩:=hT;obtain rfl:c=.type "tuple":=hc;obtain rfl:dt=.seq its n:=hd;refine callType_new F.called_enumerate (by decide) (F.typeCall_enumerate_1 _) (F.newCall_enumerate_1 _) (λobj=>F.args_object_init_2 obj _) F.entry_enumerate_new (zqu tu its n dct sl) ⟨et,?_⟩;have hz:(s.heap.push {cls:=.type "tuple_iterator",data:=.fields #[.ref tu,.int 0 0]}).objs.size=s.heap.objs.size+1:=Vl ..
 show _/\_
 rw[hz]
 have he:IsEnum ((s.heap.push {cls:=.type "tuple_iterator",data:=.fields #[.ref tu,.int 0 0]}).push {cls:=.type "enumerate",data:=.fields #[.none,.bool false,.ref s.heap.objs.size,VY 0,.none,.none]}) (s.heap.objs.size+1) s.heap.objs.size 0 .none:=by
  rw[<- hz];exact wP _ rfl
 exact⟨⟨_,he,rfl⟩,fin _ he ⟨_,wn _ (wP _ rfl),rfl,rfl⟩ λb o x=>wn _ (wn _ x)⟩
end
def nQ(K:wb)(a:wf):It :=
 ⟨λi H=>∃xs x,aR K H a xs/\xs[i]? = some x,λi H y H'=>∃t x,y=.ref t/\H t=none/\(∀xs,aR K H a xs->xs[i]? = some x)/\H'=upd H t (.tup [.int (i:Int),x]),λi H=>∃xs,aR K H a xs/\xs.length<=i⟩
theorem zsP{P:wJ}{w:wM}{K:wb}{elts:List Expr}{k1}{tpos:Pos}(a e it:wf)(hne:e≠it):iH P w K (.Tuple elts k1 tpos) (nQ K a) [e,it] e (λi h=>(∃old,IsEnum h e it (i:Int) old)/\h.IsTupleIter it a i) where
 mem:=by simp
 obj:=λi h st b hb=>by
  obtain⟨⟨old,he⟩,o,eo,c,d⟩:=st;rcases wQ.mp hb with rfl | hb
  ·exact⟨_,he,λv z=>by cases (show Data.fields _=Data.cell v from z)⟩
  ·rw[w5.mp hb]
   exact⟨o,eo,λv z=>by rw[d]at z;cases z⟩
 keep:=λi h h' st k=>⟨let ⟨old,he⟩:=st.1;⟨old,k e (by simp) _ he⟩,st.2.at λo eo=>k it (by simp) o eo⟩
 item:=by
  intro X hP hw hK hc i pins s σ H E I hf st hg;subst hP hw hK;obtain⟨⟨old,he⟩,st⟩:=st;obtain⟨xs,x,hq,hx⟩:=hg;obtain⟨its,rv,p,hz⟩:=I.tuple hq;obtain⟨u,hu,ru⟩:=rv.get hx;have p':s.heap.IsTuple a its.toArray:=p
  have hai:a≠it:=λz=>by
   subst z;obtain⟨o,e1,c1,_⟩:=st;obtain⟨o',e2,c2,_⟩:=p';rw[e1]at e2;cases e2;rw[c1]at c2;exact absurd c2 (by decide)
  have hae:e≠a:=λz=>by
   subst z;obtain⟨o',e2,c2,_⟩:=p';rw[he]at e2;cases e2;exact absurd (show Value.type "enumerate"=Value.type "tuple" from c2) (by decide)
  have hlt:i<its.toArray.size:=by
   rcases wz i its.length with z | z
   ·simpa using z
   ·rw[wE z]at hu;cases hu
  refine wpAny_pyNext_enum_itemD (jv (A:=X.A.in1) (I.ok.hd hc) it a hai its.toArray) he ⟨st,p'⟩ hlt hne (by simp[hne,hae]) λv h1 tk hv ho hs1 hT hsz hk=>?_
  have hvu:v=u:=by
   have hv':its[i]? = some v:=by simpa using hv
   rw[hu]at hv';exact(wK hv').symm
  subst hvu
  have I1:Inv X pins σ (upd H s.heap.objs.size (.tup [.int (i:Int),x])) {s with heap:=s.heap.push {cls:=.type "tuple",data:=.seq ([.int (i:Int) tk,v]:List wg).toArray},toks:=tk+1} :=
   I.laid (λb o q=>wn _ q) (wp _) (show dA X.prog X.w _ _ _ (.tup [.int (i:Int),x])from⟨mV (by simp),_,.cons ⟨_,rfl⟩ (.cons ru .nil),QD _ _⟩)
  have lt1:∀b∈[e,it],b<s.heap.objs.size:=λb hb=>by
   rcases wQ.mp hb with rfl | hb
   ·exact wA he
   ·rw[w5.mp hb]
    obtain⟨o,eo,_⟩:=st;exact wA eo
  have hf1:∀b∈[e,it],d9 X pins (upd H s.heap.objs.size (.tup [.int (i:Int),x])) b:=λb hb=>⟨by rw[d7 (wL (lt1 b hb))];exact(hf b hb).1,(hf b hb).2⟩
  refine⟨_,rfl,wpAny_letOwnedTupleGo_enum ho λh2 he2 hs2=>?_⟩;refine⟨.ref s.heap.objs.size,_,Inv.rT (s:={s with heap:=s.heap.push {cls:=.type "tuple",data:=.seq ([.int (i:Int) tk,v]:List wg).toArray},toks:=tk+1}) (ch:=[e,it]) I1 (λb o hb q=>?_) hf1,rfl,⟨_,x,rfl,I.aF.fresh (wp _),λys hy=>by rw[I.AS hy hq];exact hx,rfl⟩,⟨⟨_,by simpa using he2⟩,hs1.1.at λo eo=>(hs2.2 it (Wp hne)).trans eo⟩,λb hb=>(hf1 b hb).1⟩;have hbe:b≠e:=λz=>hb (by simp[z])
  have hbi:b≠it:=λz=>hb (by simp[z])
  refine(hs2.2 b hbe).trans ?_
  by_cases hb2:b=s.heap.objs.size
  ·subst hb2
   rw[wP _ rfl]at q;cases q;exact hT
  ·exact hk b o hbe hbi (by rw[xp _ _ _ hb2]at q;exact q)
 done:=by
  intro X hP hw hK hc i pins s σ H E I hf st hg;subst hP hw hK;obtain⟨⟨old,he⟩,st⟩:=st;obtain⟨xs,hq,hx⟩:=hg;obtain⟨its,rv,p,hz⟩:=I.tuple hq;have p':s.heap.IsTuple a its.toArray:=p
  have hai:a≠it:=λz=>by
   subst z;obtain⟨o,e1,c1,_⟩:=st;obtain⟨o',e2,c2,_⟩:=p';rw[e1]at e2;cases e2;rw[c1]at c2;exact absurd c2 (by decide)
  have hl:=rv.length;have hT:s.TypeIs (.ref e) "enumerate":=⟨_,he,rfl⟩;unfold Vo;refine we (WQ (wpAny_callSpecial?_slot (name:=vW "__next__") hT qI (Wb qI hT xY ?_ (xJ _))))
  show wq _ _ (field (.ref e) 2 >>= _) _ _ _;refine we (vk he rfl (x:=.ref it) rfl ?_)
  refine we (JC (A:=X.A.in1) (I.ok.hd hc) st p' (by simp;lia) λh' y he' hx'=>?_);obtain⟨o,ho,hcl⟩:=hx';refine we (W0 (T:="StopIteration") (b:=true) ⟨o,ho,hcl⟩ V5 (wo ⟨rfl,?_⟩));obtain⟨f0,f1,f2,f3,f4,f5⟩:=hf it (by simp);exact I.turned (t':=s.toks) (λb o hb e=>he' b o hb e) f0 f1 f3 f4 f5
 self:=λ_ _ _ _ _ st h=>let ⟨_,he⟩:=st.1;wpAny_pyIter_enum he h
def Bz(K:wb)(ta:TA):TI:=λσ H R=>ta σ H λvs H1=>∃a,vs=[.ref a]/\(∃xs,aR K H1 a xs)/\R (nQ K a) H1
theorem Md:vU "enumerate"=some (.type "enumerate"):=by decide +kernel
theorem NS{X:Cx}{elts:List Expr}{k1}{tpos p pos:Pos}{l:Expr}{ta:TA}(hg:Gl X "enumerate")(hm:X.mg "enumerate"=none)(ha:PA X [l] ta)(hs:va [l] X.env=[(false,eval l X.env)]:=by rfl) :
  PI X (.Tuple elts k1 tpos) (.Call (.Name "enumerate" p) [l] [] pos) (Bz X.K ta):=by
 intro pins s σ H R I h;refine Call_ (gx I hg hm Md (vD (aJ (ha pos pins s σ H _ I h) λus s1 ⟨vs,H1,I1,r1,q1⟩=>?_) hs rfl));obtain⟨a,rfl,⟨xs,hq⟩,q⟩:=q1;obtain⟨u,rfl,ru⟩:=fT r1;cases ru;obtain⟨its,rv,p,hz⟩:=I1.tuple hq;refine zsG (show s1.heap.IsTuple a its.toArray from p) λh' he hit kp=>?_
 refine wpAny_pyIter_enum he ?_;refine⟨s1.heap.objs.size+1,[s1.heap.objs.size+1,s1.heap.objs.size],_,_,H1,rfl,I1.kept (t':=s1.toks) kp,zsP a (s1.heap.objs.size+1) s1.heap.objs.size (uM _),⟨⟨_,he⟩,hit⟩,λb hb=>?_,q⟩
 have hb':s1.heap.objs.size<=b:=by
  rcases wQ.mp hb with rfl | hb
  ·lia
  ·rw[w5.mp hb];exact wp _
 exact I1.iY hb' (I1.aF.fresh hb')
def Ph(K:wb)(g:TG)(tb:TS)(D:cq)(σ : St)(vs:List V)(H1:Hp):Prop:=∃a,vs=[.ref a]/\(∃xs,aR K H1 a xs) /\
 ∃W:Nat->Nat->St->Hp->Prop,(∃m,W 0 m σ H1) /\ ∀i m σ H,W i m σ H ->
  ((nQ K a).stop i H/\D.nx σ H)\/((nQ K a).go i H /\ ∃M:St->Hp->Prop,(∀σ' H',M σ' H'->∃m',m'<m/\W (i+1) m' σ' H') /\ ∀x H',(nQ K a).fB i H x H'->g x σ H' λσ2 H2=>tb {D with nx:=M,ct:=M,bk:=D.nx} σ2 H2)
section
variable{K:wb}{ta:TA}{g:TG}{tb:TS}{D:cq}{σ : St}{H:Hp}{a:wf}{xs:List V}
theorem zyF(h:ta σ H λvs H1=>Ph K g tb D σ vs H1):kR (Bz K ta) g tb D σ H:=h
theorem zuJ(hx:aR K H a xs)(Pv:Nat->St->Hp->Prop)(h0:Pv 0 σ H)(hl:∀i σ H,i<=xs.length->Pv i σ H->aR K H a xs)
  (hs:∀i x σ H t H',xs[i]? = some x->Pv i σ H->H t=none->ah H H'->H' t=some (.tup [.int (i:Int),x])->g (.ref t) σ H' λσ2 H2=>tb {D with nx:=Pv (i+1),ct:=Pv (i+1),bk:=D.nx} σ2 H2) (hd:∀σ H,Pv xs.length σ H->D.nx σ H):Ph K g tb D σ [.ref a] H:=by
 refine⟨a,rfl,⟨xs,hx⟩,λi m σ H=>i+m=xs.length/\Pv i σ H,⟨xs.length,by lia,h0⟩,?_⟩;rintro i m σ H ⟨him,hp⟩;have hq:=hl i σ H (by lia) hp
 by_cases hm:m=0
 ·have e:i=xs.length:=by lia
  subst e;exact .inl ⟨⟨xs,hq,wp _⟩,hd _ _ hp⟩
 ·have hi:i<xs.length:=by lia
  refine .inr ⟨⟨xs,xs[i],hq,by simp[hi]⟩,λσ' H'=>Pv (i+1) σ' H',λσ' H' h=>⟨m-1,by lia,by lia,h⟩,?_⟩;rintro y H' ⟨t,x,rfl,hn,hx',rfl⟩;exact hs i x σ H t _ (hx' xs hq) hp hn (ah.upd hn) cT
end
structure ZA(z TI TO i1 i2:wf)(f1 f2:List wf):Prop where
 a1:TI≠z
 a2:TO≠z
 a3:i1≠z
 a4:i2≠z
 a5:TI≠TO
 a6:TI≠i1
 a7:TI≠i2
 a8:TO≠i1
 a9:TO≠i2
 b0:i1≠i2
 b1:z ∉ f1
 b2:z ∉ f2
 b3:TO ∉ f1
 b4:TO ∉ f2
 b5:i1 ∉ f2
 b6:i2 ∉ f1
section
variable{prog:wJ}{w:wM}{A:wW}{E:wg->wl->Prop}{s:wl}{z TI TO i1 i2:wf}{f1 f2:List wf}{n1 n2 k:Nat}{P1 P2:Nat->wg->Prop}{S1 S2:Nat->wH->Prop}{a b:wg}
theorem IC{Q:wg->wl->Prop}(D1:Draws prog w A i1 f1 n1 P1 S1)(D2:Draws prog w A i2 f2 n2 P2 S2)(ap:ZA z TI TO i1 i2 f1 f2)(hz:IsZip s.heap z TI TO .none)(hi:WK s.heap TI (.ref i1) (.ref i2))(ho:WK s.heap TO a b)
  (h1:S1 k s.heap) (h2:S2 k s.heap) (l1:k<n1) (l2:k<n2)
  (fin:∀x y h' tk,P1 k x->P2 k y->IsZip h' z TI TO (VY s.heap.objs.size)->WK h' TO x y->S1 (k+1) h'->S2 (k+1) h'->WK h' s.heap.objs.size x y ->
   (∀c o,c≠z->c≠TO->c≠i1->c≠i2->s.heap.get? c=some o->h'.get? c=some o)->Q (.ref s.heap.objs.size) {s with heap:=h',toks:=tk}) :
  wq (model prog w) A (Builtin.«zip.__next__» ⟨[.ref z],[]⟩) (λr s'=>∃v,r=.done (.ret v)/\Q v s') E s:=by
 show wq _ _ (field (.ref z) 2 >>= _) _ _ _;refine we (vk hz rfl (x:=.bool false) rfl ?_)
 show wq _ _ (field (.ref z) 3 >>= _) _ _ _;refine we (vk hz rfl (x:=.ref TI) rfl ?_)
 refine we (Wi hi rfl ?_);show wq _ _ (vK (.ref z) >>= _) _ _ _
 refine we ?_;unfold vK;refine we (vk hz rfl (x:=.none) rfl (wo ?_));simp only[if_true];refine we (qp ?_);refine we (vk hz rfl (x:=.ref TO) rfl ?_);refine we (Vp hz (by simp) λg1 zz1 sb1=>?_);have zz1:IsZip g1 z TI TO .ellipsis:=zz1;refine we ?_;simp only[uN,u7,Qd,QZ];refine we (we (wpAny_onRaise ?_));show wq _ _ (vM (.ref i1) >>= _) _ _ _
 have h1a:S1 k g1:=D1.frame _ _ _ h1 λc hc o e=>sb1.extBut c o (λq=>ap.b1 (q ▸ hc)) e
 have h2a:S2 k g1:=D2.frame _ _ _ h2 λc hc o e=>sb1.extBut c o (λq=>ap.b2 (q ▸ hc)) e
 refine we (D1.item k _ _ _ l1 h1a λx g2 t2 px h1b sb2=>wo ?_);have ho2:WK g2 TO a b:=sb2.extBut _ _ ap.a8 (sb1.extBut _ _ ap.a2 ho);have h2b:S2 k g2:=D2.frame _ _ _ h2a λc hc o e=>sb2.extBut c o (λq=>ap.b5 (q ▸ hc)) e
 refine we (Wi ho2 rfl ?_);refine we (wpAny_updateSeq_pair ho2 λg3 ho3 sb3=>?_);have ho3:WK g3 TO x b:=ho3;have sb3:vn TO g2 g3:=sb3;have h1c:S1 (k+1) g3:=D1.frame _ _ _ h1b λc hc o e=>sb3.extBut c o (λq=>ap.b3 (q ▸ hc)) e
 have h2c:S2 k g3:=D2.frame _ _ _ h2b λc hc o e=>sb3.extBut c o (λq=>ap.b4 (q ▸ hc)) e
 refine we (wpAny_letGo (wo ?_));refine we (we (wpAny_onRaise ?_))
 show wq _ _ (vM (.ref i2) >>= _) _ _ _;refine we (D2.item k _ _ _ l2 h2c λy g4 t4 py h2d sb4=>wo ?_)
 have sb4:vn i2 g3 g4:=sb4;have ho4:WK g4 TO x b:=sb4.extBut _ _ ap.a9 ho3;have h1d:S1 (k+1) g4:=D1.frame _ _ _ h1c λc hc o e=>sb4.extBut c o (λq=>ap.b6 (q ▸ hc)) e
 refine we (Wi ho4 rfl ?_);refine we (wpAny_updateSeq_pair ho4 λg5 ho5 sb5=>?_);have ho5:WK g5 TO x y:=ho5;have sb5:vn TO g4 g5:=sb5;have h1e:S1 (k+1) g5:=D1.frame _ _ _ h1d λc hc o e=>sb5.extBut c o (λq=>ap.b3 (q ▸ hc)) e
 have h2e:S2 (k+1) g5:=D2.frame _ _ _ h2d λc hc o e=>sb5.extBut c o (λq=>ap.b4 (q ▸ hc)) e
 refine we (wpAny_letGo (wo (wo ?_)));refine we (Wi ho5 rfl ?_);refine we (wpAny_newTuple ?_);have sb2:vn i1 g1 g2:=sb2;have sb1:vn z s.heap g1:=sb1;have hsz:g5.objs.size=s.heap.objs.size:=by rw[sb5.1,sb4.1,sb3.1,sb2.1,sb1.1]
 have zz5:IsZip g5 z TI TO .ellipsis:=sb5.extBut _ _ ap.a2.symm (sb4.extBut _ _ ap.a4.symm (sb3.extBut _ _ ap.a2.symm (sb2.extBut _ _ ap.a3.symm zz1)));have kept:∀c o,c≠z->c≠TO->c≠i1->c≠i2->s.heap.get? c=some o->g5.get? c=some o:=λc o c1 c2 c3 c4 e=>sb5.extBut _ _ c2 (sb4.extBut _ _ c4 (sb3.extBut _ _ c2 (sb2.extBut _ _ c3 (sb1.extBut _ _ c1 e))))
 have zlt:z<g5.objs.size:=wA zz5
 show wq _ _ (Ql (.ref z) (.ref g5.objs.size) >>= _) _ _ _;refine we ?_;unfold Ql
 have zz6:IsZip (g5.push {cls:=.type "tuple",data:=.seq #[x,y]}) z TI TO .ellipsis:=wn _ zz5;refine we (Vp zz6 (by simp) λg7 zz7 sb7=>?_);have zz7:IsZip g7 z TI TO (VY g5.objs.size):=zz7;refine Vp zz7 (by simp) λg8 zz8 sb8=>?_
 have zz8:IsZip g8 z TI TO (VY g5.objs.size):=zz8;have sb7:vn z (g5.push {cls:=.type "tuple",data:=.seq #[x,y]}) g7:=sb7;have sb8:vn z g7 g8:=sb8;have up:∀c o,c≠z->g5.get? c=some o->g8.get? c=some o:=λc o c1 e=>sb8.extBut _ _ c1 (sb7.extBut _ _ c1 (wn _ e))
 have new8:WK g8 g5.objs.size x y:=sb8.extBut _ _ (vi zlt) (sb7.extBut _ _ (vi zlt) (wP _ rfl));rw[hsz]at zz8 new8;refine wo ⟨_,rfl,?_⟩
 show Q (.ref g5.objs.size) _
 rw[hsz];exact fin x y g8 _ px py zz8 (up _ _ ap.a2 ho5) (D1.frame _ _ _ h1e λc hc o e=>up c o (λq=>ap.b1 (q ▸ hc)) e) (D2.frame _ _ _ h2e λc hc o e=>up c o (λq=>ap.b2 (q ▸ hc)) e) new8 λc o c1 c2 c3 c4 e=>up c o c1 (kept c o c1 c2 c3 c4 e)
theorem ID{Q:Fin->wl->Prop}(D1:Draws prog w A i1 f1 n1 P1 S1)(D2:Draws prog w A i2 f2 n2 P2 S2)(ap:ZA z TI TO i1 i2 f1 f2)(hz:IsZip s.heap z TI TO .none)(hi:WK s.heap TI (.ref i1) (.ref i2))(ho:WK s.heap TO a b)
  (h1:S1 k s.heap) (h2:S2 k s.heap) (hk:k=n1\/(k<n1/\k=n2))
  (fin:∀h' e tk,(∀c o,c≠z->c≠TO->c≠i1->c≠i2->s.heap.get? c=some o->h'.get? c=some o)->(∃o,h'.get? e=some o/\o.cls=.type "StopIteration")->E (.ref e) {s with heap:=h',toks:=tk}) :
  wq (model prog w) A (Builtin.«zip.__next__» ⟨[.ref z],[]⟩) Q E s:=by
 show wq _ _ (field (.ref z) 2 >>= _) _ _ _;refine we (vk hz rfl (x:=.bool false) rfl ?_)
 show wq _ _ (field (.ref z) 3 >>= _) _ _ _;refine we (vk hz rfl (x:=.ref TI) rfl ?_)
 refine we (Wi hi rfl ?_);show wq _ _ (vK (.ref z) >>= _) _ _ _
 refine we ?_;unfold vK;refine we (vk hz rfl (x:=.none) rfl (wo ?_));simp only[if_true];refine we (qp ?_);refine we (vk hz rfl (x:=.ref TO) rfl ?_);refine we (Vp hz (by simp) λg1 zz1 sb1=>?_);have zz1:IsZip g1 z TI TO .ellipsis:=zz1;have sb1:vn z s.heap g1:=sb1;refine we ?_;simp only[uN,u7,Qd,QZ];refine we (we (wpAny_onRaise ?_));show wq _ _ (vM (.ref i1) >>= _) _ _ _
 have h1a:S1 k g1:=D1.frame _ _ _ h1 λc hc o e=>sb1.extBut c o (λq=>ap.b1 (q ▸ hc)) e
 have h2a:S2 k g1:=D2.frame _ _ _ h2 λc hc o e=>sb1.extBut c o (λq=>ap.b2 (q ▸ hc)) e
 rcases hk with rfl | ⟨l1,rfl⟩
 ·refine we (D1.done _ _ _ h1a λg2 e sb2 he=>?_)
  obtain⟨oe,hoe,hce⟩:=he;have zz2:IsZip g2 z TI TO .ellipsis:=sb2 _ _ ap.a3.symm zz1;have hez:e≠z:=λq=>by subst q;rw[zz2]at hoe;cases hoe;simp at hce
  exact Vp zz2 (by simp) λg3 _ sb3=>fin g3 e _ (λc o c1 _ c3 _ q=>sb3.extBut _ _ c1 (sb2 _ _ c3 (sb1.extBut _ _ c1 q))) ⟨oe,sb3.extBut _ _ hez hoe,hce⟩
 ·refine we (D1.item k _ _ _ l1 h1a λx g2 t2 px h1b sb2=>wo ?_)
  have sb2:vn i1 g1 g2:=sb2;have ho2:WK g2 TO a b:=sb2.extBut _ _ ap.a8 (sb1.extBut _ _ ap.a2 ho);have h2b:S2 k g2:=D2.frame _ _ _ h2a λc hc o e=>sb2.extBut c o (λq=>ap.b5 (q ▸ hc)) e
  refine we (Wi ho2 rfl ?_);refine we (wpAny_updateSeq_pair ho2 λg3 ho3 sb3=>?_);have sb3:vn TO g2 g3:=sb3;have h2c:S2 k g3:=D2.frame _ _ _ h2b λc hc o e=>sb3.extBut c o (λq=>ap.b4 (q ▸ hc)) e
  refine we (wpAny_letGo (wo ?_));refine we (we (wpAny_onRaise ?_))
  show wq _ _ (vM (.ref i2) >>= _) _ _ _;refine we (D2.done _ _ _ h2c λg4 e sb4 he=>?_)
  obtain⟨oe,hoe,hce⟩:=he;have zz4:IsZip g4 z TI TO .ellipsis:=sb4 _ _ ap.a4.symm (sb3.extBut _ _ ap.a2.symm (sb2.extBut _ _ ap.a3.symm zz1));have hez:e≠z:=λq=>by subst q;rw[zz4]at hoe;cases hoe;simp at hce
  exact Vp zz4 (by simp) λg5 _ sb5=>fin g5 e _ (λc o c1 c2 c3 c4 q=>sb5.extBut _ _ c1 (sb4 _ _ c4 (sb3.extBut _ _ c2 (sb2.extBut _ _ c3 (sb1.extBut _ _ c1 q))))) ⟨oe,sb5.extBut _ _ hez hoe,hce⟩
end
def dy(t:Bool)(K:wb)(H:Hp)(a:wf)(xs:List V):Prop:=match t with
 | true=>aR K H a xs
 | false=>aI K H a xs
def jf(t:Bool)(h:wH)(it a:wf)(i:Nat):Prop:=match t with
 | true=>h.IsTupleIter it a i
 | false=>h.IsListIter it a i
def NI(t:Bool)(h:wH)(a:wf)(its:Array wg):Prop:=match t with
 | true=>h.IsTuple a its
 | false=>h.IsList a its
theorem oy{prog:wJ}{w:wM}{A:wW}(t:Bool)(hh:A.handled=none)(it a:wf)(hne:a≠it)(its:Array wg):Draws prog w A it [it,a] its.size (λi v=>its[i]? = some v) (λi h=>jf t h it a i/\NI t h a its):=by
 cases t
 ·exact Draws.list hh it a hne its
 ·exact jv hh it a hne its
theorem Inv.iZ{X:Cx}{pins:List (wf × Obj)}{σ : L2.St}{H:Hp}{s:wl}{t:Bool}{a:wf}{xs:List V}(I:Inv X pins σ H s)(h:dy t X.K H a xs):∃its:List wg,aP xs its/\NI t s.heap a its.toArray:=by
 cases t
 ·obtain⟨its,r,p,_⟩:=I.list h
  exact⟨its,r,p.isList⟩
 ·obtain⟨its,r,p,_⟩:=I.tuple h
  exact⟨its,r,p⟩
theorem Inv.HJ{X:Cx}{pins:List (wf × Obj)}{σ : L2.St}{H:Hp}{s:wl}{t:Bool}{a:wf}{xs ys:List V}(I:Inv X pins σ H s)(h:dy t X.K H a xs)(k:dy t X.K H a ys):xs=ys:=by
 cases t
 ·exact I.rL h k
 ·exact I.AS h k
theorem jf.obj{t:Bool}{h:wH}{it a:wf}{i:Nat}(st:jf t h it a i):∃o,h.get? it=some o /\ ∀v,o.data≠.cell v:=by
 cases t
 ·obtain⟨o,e,_,d⟩:=st
  exact⟨o,e,λv z=>by rw[d]at z;cases z⟩
 ·obtain⟨o,e,_,d⟩:=st
  exact⟨o,e,λv z=>by rw[d]at z;cases z⟩
theorem jf.at{t:Bool}{h h':wH}{it a:wf}{i:Nat}(st:jf t h it a i)(k:∀o,h.get? it=some o->h'.get? it=some o):jf t h' it a i:=by
 cases t
 ·exact Heap.IsListIter.at st k
 ·exact Heap.IsTupleIter.at st k
def yh(t u:Bool)(K:wb)(a b:wf):It :=
 ⟨λi H=>∃xs x ys y,dy t K H a xs/\xs[i]? = some x/\dy u K H b ys/\ys[i]? = some y,
  λi H v H'=>∃(c:wf)(x y:V),v=.ref c/\H c=none/\(∀xs,dy t K H a xs->xs[i]? = some x)/\(∀ys,dy u K H b ys->ys[i]? = some y)/\H'=upd H c (.tup [x,y]),
  λi H=>∃xs ys,dy t K H a xs/\dy u K H b ys/\(xs.length=i\/(i<xs.length/\ys.length=i))⟩
theorem zwf{P:wJ}{w:wM}{K:wb}{elts:List Expr}{k1}{tpos:Pos}{t u:Bool}(a b z TI TO i1 i2:wf)(ap:ZA z TI TO i1 i2 [i1,a] [i2,b])(na:a≠i1)(nb:b≠i2) :
  iH P w K (.Tuple elts k1 tpos) (yh t u K a b) [z,TI,TO,i1,i2] z (λi h=>IsZip h z TI TO .none/\WK h TI (.ref i1) (.ref i2)/\(∃p q,WK h TO p q)/\jf t h i1 a i/\jf u h i2 b i) where
 mem:=by simp
 obj:=λi h st c hc=>by
  obtain⟨hz,hi,⟨p,q,ho⟩,s1,s2⟩:=st;simp only[wQ,qP,or_false]at hc;rcases hc with rfl | rfl | rfl | rfl | rfl
  ·exact⟨_,hz,λv z=>by cases (show Data.fields _=Data.cell v from z)⟩
  ·exact⟨_,hi,λv z=>by cases (show Data.seq _ _=Data.cell v from z)⟩
  ·exact⟨_,ho,λv z=>by cases (show Data.seq _ _=Data.cell v from z)⟩
  ·exact s1.obj
  ·exact s2.obj
 keep:=λi h h' st k=>by
  obtain⟨hz,hi,⟨p,q,ho⟩,s1,s2⟩:=st;exact⟨k z (by simp) _ hz,k TI (by simp) _ hi,⟨p,q,k TO (by simp) _ ho⟩,s1.at λo e=>k i1 (by simp) o e,s2.at λo e=>k i2 (by simp) o e⟩
 item:=by
  intro X hP hw hK hc i pins s σ H E I hf st hg;subst hP hw hK;obtain⟨hz,hi,⟨p,q,ho⟩,s1,s2⟩:=st;obtain⟨xs,x,ys,y,hq1,hx,hq2,hy⟩:=hg;obtain⟨its,r1,p1⟩:=I.iZ hq1;obtain⟨jts,r2,p2⟩:=I.iZ hq2;obtain⟨ux,hux,rux⟩:=r1.get hx;obtain⟨uy,huy,ruy⟩:=r2.get hy
  have lt1:i<its.toArray.size:=by
   rcases wz i its.length with q | q
   ·simpa using q
   ·rw[wE q]at hux;cases hux
  have lt2:i<jts.toArray.size:=by
   rcases wz i jts.length with q | q
   ·simpa using q
   ·rw[wE q]at huy;cases huy
  have hT:s.TypeIs (.ref z) "zip":=⟨_,hz,rfl⟩;unfold Vo
  refine we (WQ (wpAny_callSpecial?_slot (name:=vW "__next__") hT Wz (Wb Wz hT qb
   (IC (oy (A:=X.A.in1) t (I.ok.hd hc) i1 a na its.toArray) (oy (A:=X.A.in1) u (I.ok.hd hc) i2 b nb jts.toArray) ap hz hi ho ⟨s1,p1⟩ ⟨s2,p2⟩ lt1 lt2 λv1 v2 h1 tk e1 e2 hz1 ho1 st1 st2 hT1 hk=>wo ?_) (VW _))))
  have ev1:v1=ux:=by
   have e1':its[i]? = some v1:=by simpa using e1
   rw[hux]at e1';exact(wK e1').symm
  have ev2:v2=uy:=by
   have e2':jts[i]? = some v2:=by simpa using e2
   rw[huy]at e2';exact(wK e2').symm
  subst ev1 ev2
  have I1:Inv X pins σ (upd H s.heap.objs.size (.tup [x,y])) {s with heap:=s.heap.push {cls:=.type "tuple",data:=.seq ([v1,v2]:List wg).toArray},toks:=tk} :=
   I.laid (λc o q=>wn _ q) (wp _) (show dA X.prog X.w _ _ _ (.tup [x,y])from⟨mV (by simp),_,.cons rux (.cons ruy .nil),QD _ _⟩)
  have ltf:∀c∈[z,TI,TO,i1,i2],c<s.heap.objs.size:=λc hc=>by
   simp only[wQ,qP,or_false]at hc;rcases hc with rfl | rfl | rfl | rfl | rfl
   ·exact wA hz
   ·exact wA hi
   ·exact wA ho
   ·obtain⟨o,e,_⟩:=s1.obj;exact wA e
   ·obtain⟨o,e,_⟩:=s2.obj;exact wA e
  have hf1:∀c∈[z,TI,TO,i1,i2],d9 X pins (upd H s.heap.objs.size (.tup [x,y])) c:=λc hc=>⟨by rw[d7 (wL (ltf c hc))];exact(hf c hc).1,(hf c hc).2⟩
  refine⟨_,rfl,wpAny_letOwnedTupleGo_zip hz1 λh2 hz2 hs2=>?_⟩;have hs2:vn z h1 h2:=hs2
  refine⟨.ref s.heap.objs.size,_,Inv.rT (s:={s with heap:=s.heap.push {cls:=.type "tuple",data:=.seq ([v1,v2]:List wg).toArray},toks:=tk}) (ch:=[z,TI,TO,i1,i2]) I1 (λc o hc q=>?_) hf1,rfl,
   ⟨_,x,y,rfl,I.aF.fresh (wp _),λzs hzs=>by rw[I.HJ hzs hq1];exact hx,λzs hzs=>by rw[I.HJ hzs hq2];exact hy,rfl⟩,
   ⟨hz2,hs2.extBut _ _ ap.a1 (hk _ _ ap.a1 ap.a5 ap.a6 ap.a7 hi),⟨_,_,hs2.extBut _ _ ap.a2 ho1⟩,st1.1.at λo e=>hs2.extBut _ _ ap.a3 e,st2.1.at λo e=>hs2.extBut _ _ ap.a4 e⟩,λc hc=>(hf1 c hc).1⟩
  have c1:c≠z:=λq=>hc (by simp[q])
  have c2:c≠TO:=λq=>hc (by simp[q])
  have c3:c≠i1:=λq=>hc (by simp[q])
  have c4:c≠i2:=λq=>hc (by simp[q])
  refine hs2.extBut _ _ c1 ?_
  by_cases hcs:c=s.heap.objs.size
  ·subst hcs
   rw[wP _ rfl]at q;cases q;exact hT1
  ·exact hk c o c1 c2 c3 c4 (by rw[xp _ _ _ hcs]at q;exact q)
 done:=by
  intro X hP hw hK hc i pins s σ H E I hf st hg;subst hP hw hK;obtain⟨hz,hi,⟨p,q,ho⟩,s1,s2⟩:=st;obtain⟨xs,ys,hq1,hq2,hend⟩:=hg;obtain⟨its,r1,p1⟩:=I.iZ hq1;obtain⟨jts,r2,p2⟩:=I.iZ hq2;have e1:=r1.length;have e2:=r2.length;have hT:s.TypeIs (.ref z) "zip":=⟨_,hz,rfl⟩;unfold Vo
  refine we (WQ (wpAny_callSpecial?_slot (name:=vW "__next__") hT Wz (Wb Wz hT qb
   (ID (k:=i) (oy (A:=X.A.in1) t (I.ok.hd hc) i1 a na its.toArray) (oy (A:=X.A.in1) u (I.ok.hd hc) i2 b nb jts.toArray) ap hz hi ho ⟨s1,p1⟩ ⟨s2,p2⟩ (by simp only[wR];lia) λh' y tk hk hx'=>?_) (VW _))))
  obtain⟨o,ho',hcl⟩:=hx';refine we (W0 (T:="StopIteration") (b:=true) ⟨o,ho',hcl⟩ V5 (wo ⟨rfl,?_⟩));exact Inv.rT (ch:=[z,TI,TO,i1,i2]) I (λc o hc e=>hk c o (λq=>hc (by simp[q])) (λq=>hc (by simp[q])) (λq=>hc (by simp[q])) (λq=>hc (by simp[q])) e) hf
 self:=λ_ _ _ _ _ st h=>wpAny_pyIter_zip st.1 h
abbrev zN(h:wH)(a:wf):wH:=h.push {cls:=.type "tuple_iterator",data:=.fields #[.ref a,.int 0 0]}
abbrev Av(h:wH)(a b:wf):wH:=(zN h a).push {cls:=.type "tuple_iterator",data:=.fields #[.ref b,.int 0 0]}
abbrev tN(h:wH)(a b:wf):wH:=(Av h a b).push {cls:=.type "tuple",data:=.seq #[.ref h.objs.size,.ref (zN h a).objs.size]}
abbrev zB(h:wH)(a b:wf):wH:=(tN h a b).push {cls:=.type "tuple",data:=.seq #[.none,.none]}
abbrev mC(h:wH)(a b:wf):wH:=(zB h a b).push {cls:=.type "zip",data:=.fields #[.none,.bool false,.bool false,.ref (Av h a b).objs.size,.ref (tN h a b).objs.size]}
theorem zsR(a b:wf)(xs ys:Array wg):Meets (Builtin.«zip.__new__» ⟨[.type "zip",.ref a,.ref b],[]⟩) (λ_ R s=>s.heap.IsTuple a xs/\s.heap.IsTuple b ys/\R (.ok (.ret (.ref (zB s.heap a b).objs.size))) {s with heap:=mC s.heap a b}) :=
 .of_wp λprog w A R s h=>by
  obtain⟨hp,g,d,tk,os⟩:=s;obtain⟨ha,hb,h⟩:=h;have hsub:=sub_zip;have hA:XT (uu ⟨hp,g,d,tk,os⟩) a xs:=ha;have hB:XT (uu ⟨hp.push {cls:=.type "tuple_iterator",data:=.fields #[.ref a,.int 0 0]},g,d,tk,os⟩) b ys:=hb.at λo e=>wn _ e
  wp_walk using VL hA,VL hB
  exact⟨_,rfl,h⟩
section
variable{prog:wJ}{w:wM}{A:wW}{E:wg->wl->Prop}{s:wl}
theorem LY{a b:wf}{xs ys:Array wg}{Q:wg->wl->Prop}(ha:s.heap.IsTuple a xs)(hb:s.heap.IsTuple b ys)
  (fin:∀h',IsZip h' (s.heap.objs.size+4) (s.heap.objs.size+2) (s.heap.objs.size+3) .none->WK h' (s.heap.objs.size+2) (.ref s.heap.objs.size) (.ref (s.heap.objs.size+1))->WK h' (s.heap.objs.size+3) .none .none ->
   h'.IsTupleIter s.heap.objs.size a 0->h'.IsTupleIter (s.heap.objs.size+1) b 0->(∀c o,s.heap.get? c=some o->h'.get? c=some o)->Q (.ref (s.heap.objs.size+4)) {s with heap:=h'}):wq (model prog w) A (call (.type "zip") [.ref a,.ref b]) Q E s:=by
 refine callType_new F.called_zip (by decide) (F.typeCall_zip_2 _ _) (F.newCall_zip_2 _ _) (λobj=>F.args_object_init_3 obj _ _) F.entry_zip_new (zsR a b xs ys) ⟨ha,hb,?_⟩;have z1:(zN s.heap a).objs.size=s.heap.objs.size+1:=Vl ..;have z2:(Av s.heap a b).objs.size=s.heap.objs.size+2:=by rw[Vl,z1]
 have z3:(tN s.heap a b).objs.size=s.heap.objs.size+3:=by rw[Vl,z2]
 have z4:(zB s.heap a b).objs.size=s.heap.objs.size+4:=by rw[Vl,z3]
 have g5:(mC s.heap a b).get? (zB s.heap a b).objs.size=some _:=wP _ rfl;have g4:(mC s.heap a b).get? (tN s.heap a b).objs.size=some _:=wn _ (wP _ rfl);have g3:(mC s.heap a b).get? (Av s.heap a b).objs.size=some _:=wn _ (wn _ (wP _ rfl));have g2:(mC s.heap a b).get? (zN s.heap a).objs.size=some _:=wn _ (wn _ (wn _ (wP _ rfl)));have g1:(mC s.heap a b).get? s.heap.objs.size=some _:=wn _ (wn _ (wn _ (wn _ (wP _ rfl))))
 show _/\_
 rw[z2,z3,z4]at g5;rw[z1,z2]at g3;rw[z3]at g4;rw[z1]at g2;rw[z4];exact⟨⟨_,g5,rfl⟩,fin _ g5 g3 g4 ⟨_,g1,rfl,rfl⟩ ⟨_,g2,rfl,rfl⟩ λc o x=>wn _ (wn _ (wn _ (wn _ (wn _ x))))⟩
end
def BC(t u:Bool)(K:wb)(ta:TA):TI:=λσ H R=>ta σ H λvs H1=>∃a b,vs=[.ref a,.ref b]/\(∃xs,dy t K H1 a xs)/\(∃ys,dy u K H1 b ys)/\R (yh t u K a b) H1
theorem Dq:vU "zip"=some (.type "zip"):=by decide +kernel
theorem m_{x a b:wf}(h:x≠a)(k:x≠b):x ∉ [a,b]:=by simp[h,k]
theorem OC{n a b:Nat}(la:a<n)(lb:b<n):ZA (n+4) (n+2) (n+3) n (n+1) [n,a] [n+1,b] where
 a1:=wL (by lia)
 a2:=wL (by lia)
 a3:=wL (by lia)
 a4:=wL (by lia)
 a5:=wL (by lia)
 a6:=vi (by lia)
 a7:=vi (by lia)
 a8:=vi (by lia)
 a9:=vi (by lia)
 b0:=wL (by lia)
 b1:=m_ (vi (by lia)) (vi (by lia))
 b2:=m_ (vi (by lia)) (vi (by lia))
 b3:=m_ (vi (by lia)) (vi (by lia))
 b4:=m_ (vi (by lia)) (vi (by lia))
 b5:=m_ (wL (by lia)) (vi (by lia))
 b6:=m_ (vi (by lia)) (vi (by lia))
theorem Ju{X:Cx}{elts:List Expr}{k1}{tpos:Pos}{pins:List (wf × Obj)}{σ : L2.St}{H:Hp}{s:wl}{R:It->Hp->Prop}{h':wH}{E:wg->wl->Prop}{t u:Bool}{a b:wf}(I:Inv X pins σ H s)(la:a<s.heap.objs.size)(lb:b<s.heap.objs.size)
  (hz:IsZip h' (s.heap.objs.size+4) (s.heap.objs.size+2) (s.heap.objs.size+3) .none) (hi:WK h' (s.heap.objs.size+2) (.ref s.heap.objs.size) (.ref (s.heap.objs.size+1))) (ho:WK h' (s.heap.objs.size+3) .none .none)
  (s1:jf t h' s.heap.objs.size a 0) (s2:jf u h' (s.heap.objs.size+1) b 0) (kp:∀c o,s.heap.get? c=some o->h'.get? c=some o) (q:R (yh t u X.K a b) H):wq (model X.prog X.w) X.A (pyIter (.ref (s.heap.objs.size+4))) (B7 X pins σ (.Tuple elts k1 tpos) R) E {s with heap:=h'}:=by
 refine wpAny_pyIter_zip hz ?_;refine⟨s.heap.objs.size+4,[s.heap.objs.size+4,s.heap.objs.size+2,s.heap.objs.size+3,s.heap.objs.size,s.heap.objs.size+1],_,_,H,rfl,I.kept (t':=s.toks) kp,zwf a b _ (s.heap.objs.size+2) (s.heap.objs.size+3) s.heap.objs.size (s.heap.objs.size+1) (OC la lb) (wL la) (wL (W2 lb)),⟨hz,hi,⟨_,_,ho⟩,s1,s2⟩,λc hc=>?_,q⟩
 ·have hb':s.heap.objs.size<=c:=by
   simp only[wQ,qP,or_false]at hc;rcases hc with rfl | rfl | rfl | rfl | rfl
   ·exact WZ _ 4
   ·exact WZ _ 2
   ·exact WZ _ 3
   ·exact wp _
   ·exact WZ _ 1
  exact I.iY hb' (I.aF.fresh hb')
theorem zzm{X:Cx}{elts:List Expr}{k1}{tpos p pos:Pos}{l m:Expr}{ta:TA}(hg:Gl X "zip")(hm:X.mg "zip"=none)(ha:PA X [l,m] ta)(hs:va [l,m] X.env=[(false,eval l X.env),(false,eval m X.env)]:=by rfl)(hs2:va [m] X.env=[(false,eval m X.env)]:=by rfl) :
  PI X (.Tuple elts k1 tpos) (.Call (.Name "zip" p) [l,m] [] pos) (BC true true X.K ta):=by
 intro pins s σ H R I h;refine Call_ (gx I hg hm Dq (vD (aJ (ha pos pins s σ H _ I h) λus s1 ⟨vs,H1,I1,r1,q1⟩=>?_) (by rw[hs,hs2]) (by rw[hs2];rfl)));obtain⟨a,b,rfl,⟨xs,hq1⟩,⟨ys,hq2⟩,q⟩:=q1;obtain⟨u,v,rfl,ru,rv⟩:=j9 r1;cases ru;cases rv;obtain⟨its,_,p1⟩:=I1.iZ hq1;obtain⟨jts,_,p2⟩:=I1.iZ hq2;have la:a<s1.heap.objs.size:=by obtain⟨o,e,_⟩:=(show s1.heap.IsTuple a its.toArray from p1);exact wA e
 have lb:b<s1.heap.objs.size:=by obtain⟨o,e,_⟩:=(show s1.heap.IsTuple b jts.toArray from p2);exact wA e
 exact LY p1 p2 λh' hz hi ho t1 t2 kp=>Ju (t:=true) (u:=true) I1 la lb hz hi ho t1 t2 kp q
theorem zy5{X:Cx}{elts:List Expr}{k1}{tpos p pos:Pos}{l m:Expr}{ta:TA}(hg:Gl X "zip")(hm:X.mg "zip"=none)(ha:PA X [l,m] ta)(hs:va [l,m] X.env=[(false,eval l X.env),(false,eval m X.env)]:=by rfl)(hs2:va [m] X.env=[(false,eval m X.env)]:=by rfl) :
  PI X (.Tuple elts k1 tpos) (.Call (.Name "zip" p) [l,m] [] pos) (BC false false X.K ta):=by
 intro pins s σ H R I h;refine Call_ (gx I hg hm Dq (vD (aJ (ha pos pins s σ H _ I h) λus s1 ⟨vs,H1,I1,r1,q1⟩=>?_) (by rw[hs,hs2]) (by rw[hs2];rfl)));obtain⟨a,b,rfl,⟨xs,hq1⟩,⟨ys,hq2⟩,q⟩:=q1;obtain⟨u,v,rfl,ru,rv⟩:=j9 r1;cases ru;cases rv;obtain⟨its,_,p1⟩:=I1.iZ hq1;obtain⟨jts,_,p2⟩:=I1.iZ hq2;have la:a<s1.heap.objs.size:=by obtain⟨o,e,_⟩:=(show s1.heap.IsList a its.toArray from p1);exact wA e
 have lb:b<s1.heap.objs.size:=by obtain⟨o,e,_⟩:=(show s1.heap.IsList b jts.toArray from p2);exact wA e
 exact call_zip_2 p1 p2 λh' hz hi ho t1 t2 _ kp=>Ju (t:=false) (u:=false) I1 la lb hz hi ho t1 t2 kp q
theorem dy.same{t:Bool}{K:wb}{H H':Hp}{a:wf}{xs:List V}(s:ah H H')(h:dy t K H a xs):dy t K H' a xs:=by
 cases t
 ·exact s.seq h
 ·exact s.iV h
def DD(t u:Bool)(K:wb)(g:TG)(tt:TT)(te:TE)(src:List (Option Nat))(σ : L2.St)(vs:List V)(H1:Hp)(Q:VK):Prop:=∃a b,vs=[.ref a,.ref b]/\(∃xs,dy t K H1 a xs)/\(∃ys,dy u K H1 b ys) /\
 ∀D,H1 D=none->jL g tt te (yh t u K a b) D (dJ src σ) (upd H1 D (.lst [])) (λH'=>Q (.ref D) H')
section
variable{t u:Bool}{K:wb}{ta:TA}{g:TG}{tb:TS}{tt:TT}{te:TE}{D:cq}{σ : L2.St}{H:Hp}{Q:VK}{a b:wf}{xs ys:List V}{src:List (Option Nat)}{o0 o0':Option V}{tl:L2.St}
theorem zwI(h:ta σ H λvs H1=>DD t u K g tt te src σ vs H1 Q):ju src (BC t u K ta) g tt te σ H Q:=h
def fS(H:Hp)(tl:L2.St)(Rel:Nat->V->Hp->Prop)(D:wf)(i:Nat)(zs:List V)(σ':L2.St)(H':Hp):Prop :=
 (∃o1 o2,σ'=o1::o2::tl)/\H D=none/\ah H H'/\H' D=some (.lst zs)/\zs.length=i /\ ∀j y,zs[j]? = some y->Rel j y H'
theorem zr{Rel:Nat->V->Hp->Prop}{D:wf}{i:Nat}{zs:List V}{σ' σ3:L2.St}{H1 H5:Hp}{y:V}(inv:fS H tl Rel D i zs σ' H1)(hi:i<=1000)(hk:∀i v H1 H2,bo H1 H2->Rel i v H1->Rel i v H2)(hσ : ∃o1 o2,σ3=o1::o2::tl)(s:ah H1 H5)(r:Rel i y H5):o_ (fS H tl Rel) D i σ3 y H5:=by
 obtain⟨_,hn,s1,hD,hl,hr⟩:=inv;have hD5:=s _ _ hD;refine ma hD5 (by lia) λH6 E6 e6=>⟨hσ,hn,(s1.trans s).grow hn E6,e6,by simp[hl],λj z hz=>?_⟩
 have k6:bo H5 H6:=E6.keep hD5;rcases wz j zs.length with hj | hj
 ·rw[Wf hj]at hz
  exact hk _ _ _ _ (s.keep.trans k6) (hr j z hz)
 ·have hj':j=zs.length:=by
   rcases wz zs.length j with q | q
   ·rw[wE (by simp;lia)]at hz;cases hz
   ·lia
  subst hj';rw[vH (wp _),Vr]at hz;cases hz;rw[hl];exact hk _ _ _ _ k6 r
theorem zyJ(hx:dy t K H a xs)(hy:dy u K H b ys)(hxy:xs.length=ys.length)(hsrc:dJ src σ = o0::o0'::tl)(Rel:Nat->V->Hp->Prop)(hk:∀i v H1 H2,bo H1 H2->Rel i v H1->Rel i v H2)
  (hs:∀D i x y zs o1 o2 H1 c,xs[i]? = some x->ys[i]? = some y->fS H tl Rel D i zs (o1::o2::tl) H1->H1 c=some (.tup [x,y])->gQ (fS H tl Rel) g tt te D i (.ref c) (o1::o2::tl) H1)
  (hd:∀D zs H',H D=none->ah H H'->H' D=some (.lst zs)->zs.length=xs.length->(∀j y,zs[j]? = some y->Rel j y H')->Q (.ref D) H'):DD t u K g tt te src σ [.ref a,.ref b] H Q:=by
 refine⟨a,b,rfl,⟨xs,hx⟩,⟨ys,hy⟩,λD hD=>⟨λi m σ' H'=>i+m=xs.length /\ ∃zs,fS H tl Rel D i zs σ' H',⟨xs.length,by lia,[],⟨o0,o0',hsrc⟩,hD,ah.upd hD,cT,rfl,λj y z=>by simp at z⟩,?_⟩⟩;rintro i m σ' H' ⟨him,zs,inv⟩;have hq1:=dy.same inv.2.2.1 hx;have hq2:=dy.same inv.2.2.1 hy
 by_cases hm:m=0
 ·have e:i=xs.length:=by lia
  subst e;obtain⟨_,n,s,e,hl,r⟩:=inv;exact .inl ⟨⟨xs,ys,hq1,hq2,.inl rfl⟩,hd D zs H' n s e hl r⟩
 ·have hi:i<xs.length:=by lia
  have hj:i<ys.length:=by lia
  refine .inr ⟨⟨xs,xs[i],ys,ys[i],hq1,by simp[hi],hq2,by simp[hj]⟩,λσ2 H2=>∃zs,fS H tl Rel D (i+1) zs σ2 H2,λσ2 H2 h=>⟨m-1,by lia,by lia,h⟩,?_⟩;rintro v H2 ⟨c,x,y,rfl,hn,hx',hy',rfl⟩;obtain⟨⟨o1,o2,rfl⟩,n,s,e,hl,r⟩:=inv;have su:=ah.upd (o:=.tup [x,y]) hn;exact hs D i x y zs o1 o2 _ c (hx' xs hq1) (hy' ys hq2) ⟨⟨o1,o2,rfl⟩,n,s.trans su,su _ _ e,hl,λj y hy=>hk _ _ _ _ su.keep (r j y hy)⟩ cT
end
def Fy(K:wb):List V->Hp->VK->Prop:=λxs H Q=>∃(p:wf)(ns:List Int),xs=[.ref p]/\aR K H p (ns.map V.int)/\Q (.int ns.sum) H
theorem zA9:vU "sum"=some (.builtin "sum"):=by decide +kernel
open PyProof.V PySem.Calls in
theorem Zu{X:Cx}(hc:X.calm=true):aK X (.builtin "sum") (Fy X.K):=by
 intro pins s σ H xs us Q I r h;obtain⟨p,ns,rfl,hq,q⟩:=h;obtain⟨u,rfl,rx⟩:=fT r;cases rx;obtain⟨its,r',pl,hz⟩:=I.tuple hq;have hI:=Cv r';have hT:s.heap.IsTuple p its.toArray:=pl;obtain⟨zs,hx⟩:=hI.allInts.items;have hn:numsOf its.toArray.toList=ns:=by rw[show its.toArray.toList=its from rfl,hI.numsOf]
 rw[hx]at hT hn;rw[nums_intItems]at hn;refine PySem.W.ktm_sumG (I.ok.hd hc) hT λh' tk t' hk=>?_
 rw[preSum_eq,W7 (by simp),hn];exact⟨.int ns.sum,H,I.kept (t':=tk) hk,⟨_,rfl⟩,q⟩
theorem U9{K:wb}{H:Hp}{Q:VK}{v:V}{ns:List Int}(h:Is K H v (TZ ns))(q:Q (.int ns.sum) H):Fy K [v] H Q:=by
 obtain⟨a,rfl,hs⟩:=nA.mp h;exact⟨a,ns,rfl,hs,q⟩
theorem zxA{α : Type}(xs:List α)(k:Nat)(h:k<=xs.length):iP xs (some (k:Int)) none=xs.drop k:=by
 unfold iP;rw[HT.Tq,HT.Tt,Nat.min_eq_left h];exact W7 (by rw[Wa];lia)
def mF(K:wb):List V->Hp->VK->Prop:=λxs H Q=>∃(p:wf)(bs:List Bool),xs=[.ref p]/\aI K H p (bs.map V.bl)/\Q (.bl (bs.all id)) H
theorem yJ:vU "all"=some (.builtin "all"):=by decide +kernel
theorem Lo{bs:List Bool} : ∀{us:List wg},aP (bs.map V.bl) us->us=bs.map Value.bool:=by
 induction bs with
 | nil=>intro us r;rw[QG]at r;cases r;rfl
 | cons b bs ih =>
  intro us r;rw[vb]at r;cases r with
  | cons r1 r2 =>
   cases r1;rw[vb,ih r2]
theorem zsE(bs:List Bool):((wx bs.length).all λi=>(bs[i]?).getD true)=bs.all id:=by
 rw[vI,WN,WN]
 constructor
 ·intro h b hb
  obtain⟨i,hi,rfl⟩:=wX hb;have:=h i (wI.mpr hi);rw[wc hi]at this;exact this
 ·intro h i hi
  rw[wI]at hi;rw[wc hi];exact h _ (vO hi)
open PyProof.V PySem.Calls in
theorem Ak{X:Cx}(hc:X.calm=true):aK X (.builtin "all") (mF X.K):=by
 intro pins s σ H xs us Q I r h;obtain⟨p,bs,rfl,hq,q⟩:=h;obtain⟨u,rfl,rx⟩:=fT r;cases rx;obtain⟨its,r',pl,hz⟩:=I.list hq;have hi:its=bs.map Value.bool:=Lo r';have hl:s.heap.IsList p its.toArray:=pl.isList;have hlt:p<s.heap.objs.size:=by obtain⟨_,e,_⟩:=hl;exact wA e
 refine call_all_walk (VZ hl ?_)
 refine⟨s.heap.objs.size,[s.heap.objs.size,p],[s.heap.objs.size],its.toArray.size,_,_,λi=>(bs[i]?).getD true,rfl,u8 (A:=X.A.in1) (I.ok.hd hc) _ p (wL hlt) its.toArray,
  ⟨⟨_,wP _ rfl,rfl,rfl⟩,hl.push _⟩,λi v s' Q' E' hP hQ=>?_,λh' tk hk=>?_⟩
 ·have hP:its.toArray[i]? = some v:=hP
  rw[hi]at hP;simp only[Xg,wu,VC]at hP;obtain⟨b,e,rfl⟩:=hP;simp only[e,QC]at hQ;exact WE hQ
 ·have e:((wx its.toArray.size).all λi=>(bs[i]?).getD true)=bs.all id:=by
   rw[wR,hi,wm];exact zsE bs
  rw[e];exact⟨.bl (bs.all id),H,I.kept (t':=tk) (λb x e=>hk b x (λhm=>by rw[w5.mp hm]at e;exact VR _ (wA e)) (wn _ e)),rfl,q⟩
theorem pG{K:wb}{H:Hp}{Q:VK}{p:wf}{bs:List Bool}(h:aI K H p (bs.map V.bl))(q:Q (.bl (bs.all id)) H):mF K [.ref p] H Q:=⟨p,bs,rfl,h,q⟩
section
variable{t u:Bool}{K:wb}{g:TG}{tt:TT}{te:TE}{σ : L2.St}{H:Hp}{Q:VK}{a b:wf}{xs ys:List V}{src:List (Option Nat)}{o0 o0':Option V}{tl:L2.St}
theorem Y8(hx:dy t K H a xs)(hy:dy u K H b ys)(hxy:ys.length<xs.length)(hsrc:dJ src σ = o0::o0'::tl)(Rel:Nat->V->Hp->Prop)(hk:∀i v H1 H2,bo H1 H2->Rel i v H1->Rel i v H2)
  (hs:∀D i x y zs o1 o2 H1 c,xs[i]? = some x->ys[i]? = some y->fS H tl Rel D i zs (o1::o2::tl) H1->H1 c=some (.tup [x,y])->gQ (fS H tl Rel) g tt te D i (.ref c) (o1::o2::tl) H1)
  (hd:∀D zs H',H D=none->ah H H'->H' D=some (.lst zs)->zs.length=ys.length->(∀j y,zs[j]? = some y->Rel j y H')->Q (.ref D) H'):DD t u K g tt te src σ [.ref a,.ref b] H Q:=by
 refine⟨a,b,rfl,⟨xs,hx⟩,⟨ys,hy⟩,λD hD=>⟨λi m σ' H'=>i+m=ys.length /\ ∃zs,fS H tl Rel D i zs σ' H',⟨ys.length,by lia,[],⟨o0,o0',hsrc⟩,hD,ah.upd hD,cT,rfl,λj y z=>by simp at z⟩,?_⟩⟩;rintro i m σ' H' ⟨him,zs,inv⟩;have hq1:=dy.same inv.2.2.1 hx;have hq2:=dy.same inv.2.2.1 hy
 by_cases hm:m=0
 ·have e:i=ys.length:=by lia
  subst e;obtain⟨_,n,s,e,hl,r⟩:=inv;exact .inl ⟨⟨xs,ys,hq1,hq2,.inr ⟨hxy,rfl⟩⟩,hd D zs H' n s e hl r⟩
 ·have hi:i<xs.length:=by lia
  have hj:i<ys.length:=by lia
  refine .inr ⟨⟨xs,xs[i],ys,ys[i],hq1,by simp[hi],hq2,by simp[hj]⟩,λσ2 H2=>∃zs,fS H tl Rel D (i+1) zs σ2 H2,λσ2 H2 h=>⟨m-1,by lia,by lia,h⟩,?_⟩;rintro v H2 ⟨c,x,y,rfl,hn,hx',hy',rfl⟩;obtain⟨⟨o1,o2,rfl⟩,n,s,e,hl,r⟩:=inv;have su:=ah.upd (o:=.tup [x,y]) hn;exact hs D i x y zs o1 o2 _ c (hx' xs hq1) (hy' ys hq2) ⟨⟨o1,o2,rfl⟩,n,s.trans su,su _ _ e,hl,λj y hy=>hk _ _ _ _ su.keep (r j y hy)⟩ cT
end
def Og(g:TG)(tb:TS)(D:cq)(σ : L2.St)(vs:List V)(H1:Hp):Prop:=∃i j:Int,vs=[.int i,.int j]/\(-(2^62)<=i/\i<2^62 /\ -(2^62)<=j/\j<2^62) /\
 ∃W:Nat->Nat->L2.St->Hp->Prop,(∃m,W 0 m σ H1) /\ ∀k m σ H,W k m σ H ->
  ((fW i (j-i).toNat).stop k H/\D.nx σ H)\/((fW i (j-i).toNat).go k H /\ ∃M:L2.St->Hp->Prop,(∀σ' H',M σ' H'->∃m',m'<m/\W (k+1) m' σ' H') /\ ∀x H',(fW i (j-i).toNat).fB k H x H'->g x σ H' λσ2 H2=>tb {D with nx:=M,ct:=M,bk:=D.nx} σ2 H2)
theorem Yz{ta:TA}{g:TG}{tb:TS}{D:cq}{σ : L2.St}{H:Hp}(h:ta σ H λvs H1=>Og g tb D σ vs H1):kR (Pr ta) g tb D σ H:=h
theorem zr6{g:TG}{tb:TS}{D:cq}{σ : L2.St}{H:Hp}{lo hi:Int}(h0 : -1000000000<=lo)(h1:lo<1000000000)(h2 : -1000000000<=hi)(h3:hi<1000000000)(Pv:Nat->L2.St->Hp->Prop)(p:Pv 0 σ H)
  (hs:∀(i:Nat) σ H,i<(hi-lo).toNat->Pv i σ H->g (.int (lo+(i:Int))) σ H λσ2 H2=>tb {D with nx:=Pv (i+1),ct:=Pv (i+1),bk:=D.nx} σ2 H2)
  (hd:∀σ H,Pv (hi-lo).toNat σ H->D.nx σ H):Og g tb D σ [.int lo,.int hi] H :=
 ⟨lo,hi,rfl,⟨by lia,by lia,by lia,by lia⟩,MZ (lo:=lo) Pv p hs hd⟩
def Fx(K:wb):List V->Hp->VK->Prop:=λxs H Q=>∃x tp S T d b,xs=[x,.ref tp]/\aR K H tp [.ty S,.ty T]/\Is K H x d/\Ul K (.type (kindOf d)) [.type S,.type T]=some b/\Q (.bl b) H
theorem zta{X:Cx} : aK X (.builtin "isinstance") (Fx X.K):=by
 intro pins s σ H xs us Q I r h;obtain⟨x,tp,S,T,d,b,rfl,ht,hd,e,q⟩:=h;obtain⟨u,w',rfl,rx,rt⟩:=j9 r;cases (show w'=Value.ref tp from rt);obtain⟨tts,rv,⟨ot,ht1,ht2,n,ht3⟩,_⟩:=I.tuple ht;obtain⟨t1,t2,rfl,r1,r2⟩:=j9 rv;cases (show t1=Value.type S from r1);cases (show t2=Value.type T from r2);obtain⟨c,dd,da,sl⟩:=ot;cases ht2;cases ht3;have fin:∀tk,EP X pins σ Q (.bool b) {s with toks:=tk}:=λtk=>⟨.bl b,H,I.tok _,rfl,q⟩
 cases d with
 | none =>
  cases mO.mp hd;cases (show u=Value.none from rx);exact VO X9 I.cW True.intro ht1 e (λz=>nomatch z) fin
 | bool y =>
  cases lq.mp hd;cases (show u=Value.bool y from rx);exact VO ua I.cW True.intro ht1 e (λz=>nomatch z) fin
 | int i =>
  cases cb.mp hd;obtain⟨t,q⟩:=(show ∃t,u=Value.int i t from rx);cases q;exact VO uH I.cW True.intro ht1 e (λz=>nomatch z) fin
 | str y =>
  cases eK.mp hd;obtain⟨t,q⟩:=(show ∃t,u=Value.str y t from rx);cases q;exact VO uI I.cW True.intro ht1 e (λz=>nomatch z) fin
 | tuple ds =>
  obtain⟨a,xs,e1,hq,_⟩:=bW.mp hd;subst e1;cases (show u=Value.ref a from rx);obtain⟨its,_,⟨o,h1,h2,_⟩,_⟩:=I.tuple hq;exact VO XR I.cW ⟨o,h1,h2⟩ ht1 e (λz=>nomatch z) fin
 | list ds =>
  obtain⟨a,xs,e1,hq,_⟩:=cu.mp hd;subst e1;cases (show u=Value.ref a from rx);obtain⟨its,_,⟨o,n,h1,h2,_⟩,_⟩:=I.list hq;exact VO ub I.cW ⟨o,h1,h2⟩ ht1 e (λz=>nomatch z) fin
 | dict kv =>
  obtain⟨a,kvs,e1,hq⟩:=yP.mp hd;subst e1;cases (show u=Value.ref a from rx);obtain⟨_,_,vs,_,o,es,ep,h1,h2,_⟩:=(show dA X.prog X.w H s.heap a (.dK kvs)from I.aF a _ hq);exact VO uc I.cW ⟨o,h1,h2.1⟩ ht1 e (λz=>nomatch z) fin
theorem zzl{K:wb}(d:wF):Ul K (.type (kindOf d)) [.type "list",.type "tuple"]=some (pD d || iQ d):=by cases d<;>rfl
theorem CG{K:wb}{H:Hp}{Q:VK}{v:V}{tp:wf}{d:wF}(h:Is K H v d)(t:H tp=some (.tup [.ty "list",.ty "tuple"]))(q:Q (.bl (pD d || iQ d)) H):Fx K [v,.ref tp] H Q :=
 ⟨v,tp,"list","tuple",d,_,rfl,.of t,h,zzl d,q⟩
section
variable{X:Cx}{tg:Expr}
def BY(K:wb)(tl:TE):TI:=λσ H R=>tl σ H λx H1=>(∃a,x=.ref a/\(∃xs,aI K H1 a xs)/\R (iK K a) H1)\/(∃a,x=.ref a/\(∃xs,aR K H1 a xs)/\R (jn K a) H1)
theorem Jk{l:Expr}{tl:TE}(hl:PE X l tl):PI X tg l (BY X.K tl):=by
 intro pins s σ H R I h;refine aJ (hl pins s σ H _ I h) λv s1 ⟨x,H1,I1,r1,q1⟩=>?_
 rcases q1 with⟨a,e,⟨xs,hq⟩,q⟩ | ⟨a,e,⟨xs,hq⟩,q⟩
 ·subst e
  cases r1;obtain⟨its,rv,p,hz⟩:=I1.list hq;refine VZ p.isList ?_;refine⟨s1.heap.objs.size,[s1.heap.objs.size],_,_,H1,rfl,I1.kept (t':=s1.toks) λb o e=>wn _ e,B_ a _,⟨_,wP _ rfl,rfl,rfl⟩,λb hb=>?_,q⟩;have e:b=s1.heap.objs.size:=by simpa using hb
  subst e;exact I1.iY (wp _) (I1.aF.fresh (wp _))
 ·subst e
  cases r1;obtain⟨its,rv,p,hz⟩:=I1.tuple hq;refine VL (show s1.heap.IsTuple a its.toArray from p) ?_;refine⟨s1.heap.objs.size,[s1.heap.objs.size],_,_,H1,rfl,I1.kept (t':=s1.toks) λb o e=>wn _ e,Pw a _,⟨_,wP _ rfl,rfl,rfl⟩,λb hb=>?_,q⟩;have e:b=s1.heap.objs.size:=by simpa using hb
  subst e;exact I1.iY (wp _) (I1.aF.fresh (wp _))
end
section
variable{K:wb}{g:TG}{tt:TT}{te ta tb' tc:TE}{tb:TS}{D:cq}{src:List (Option Nat)}{σ : St}{H:Hp}{Q:VK}{r r':R2}
theorem zwp(h:ta σ H λx H1=>rA K g tt te src σ x H1 Q\/zU K g tt te src σ x H1 Q):ju src (BY K ta) g tt te σ H Q:=h
theorem YG(h:te σ H λx H1=>Fw K g tb D σ x H1\/Ff K g tb D σ x H1):kR (BY K te) g tb D σ H:=h
theorem zwB(h:ta σ H λx H1=>tb' σ H1 λy H2=>r x y H2 λz H3=>∃k,z=.bl k/\(if k=true then tc σ H3 λw' H4=>r' y w' H4 Q else Q (.bl false) H3)):JD r r' ta tb' tc σ H Q:=h
theorem zA8{b:Bool}{P:Bool->Prop}(h:P b):∃k,V.bl b=.bl k/\P k:=⟨b,rfl,h⟩
end
def bA(a b:Rat)(xs:List Rat):wF:=.tuple [R a b,TN xs]
theorem zzO(a b:Rat)(xs:List Rat):cO (bA a b xs)=true:=by rw[bA,cO,b7,b7,b7,Bs,tI];rfl
theorem zCZ{x y:Rat}(h:N x=N y):x=y:=by
 have h':PyData.tuple [.int x.num,.int (x.den:Int)]=PyData.tuple [.int y.num,.int (y.den:Int)]:=h
 injection h' with h1
 injection h1 with h2 h3
 injection h2 with h4
 injection h3 with h5 _
 injection h5 with h6
 exact Uk h4 (by lia)
theorem nN{K:wb}{H:Hp}{us:List V}{ds:List wF}{i:Nat}{x:V}(t:ao K H us ds)(h:us[i]? = some x):i<ds.length/\Is K H x (ds.getD i .none):=by
 have hl:=t.length
 have hi:i<ds.length:=by
  rcases wz i ds.length with z | z
  ·exact z
  ·rw[wE (by lia)]at h;cases h
 obtain⟨y,e,k⟩:=t.get (i:=i) (d:=ds.getD i .none) (by rw[wa,wc hi];rfl);rw[e]at h;cases h;exact⟨hi,k⟩
def C6:List V->Hp->VK->Prop:=λxs H Q=>∃i j,xs=[.int i,.int j]/\Q (.int (if j<i then j else i)) H
theorem zuP{X:Cx}(hc:X.calm=true):aK X (.builtin "min") C6:=zvP hc
theorem zBu:vU "min"=some (.builtin "min"):=by decide +kernel
theorem zzh{i j:Int}{H:Hp}{Q:VK}(q:∀m:Int,m<=i->m<=j->(m=i\/m=j)->Q (.int m) H):C6 [.int i,.int j] H Q:=⟨i,j,rfl,by
 split
 ·exact q j (by lia) (by lia) (.inr rfl)
 ·exact q i (by lia) (by lia) (.inl rfl)⟩
def Fu(K:wb)(a:wf):It :=
 ⟨λi H=>∃xs x,aI K H a xs/\xs[i]? = some x,λi H y H'=>∃t x,y=.ref t/\H t=none/\(∀xs,aI K H a xs->xs[i]? = some x)/\H'=upd H t (.tup [.int (i:Int),x]),λi H=>∃xs,aI K H a xs/\xs.length<=i⟩
theorem V_{P:wJ}{w:wM}{K:wb}{elts:List Expr}{k1}{tpos:Pos}(a e it:wf)(hne:e≠it):iH P w K (.Tuple elts k1 tpos) (Fu K a) [e,it] e (λi h=>(∃old,IsEnum h e it (i:Int) old)/\h.IsListIter it a i) where
 mem:=by simp
 obj:=λi h st b hb=>by
  obtain⟨⟨old,he⟩,o,eo,c,d⟩:=st;rcases wQ.mp hb with rfl | hb
  ·exact⟨_,he,λv z=>by cases (show Data.fields _=Data.cell v from z)⟩
  ·rw[w5.mp hb]
   exact⟨o,eo,λv z=>by rw[d]at z;cases z⟩
 keep:=λi h h' st k=>⟨let ⟨old,he⟩:=st.1;⟨old,k e (by simp) _ he⟩,st.2.at λo eo=>k it (by simp) o eo⟩
 item:=by
  intro X hP hw hK hc i pins s σ H E I hf st hg;subst hP hw hK;obtain⟨⟨old,he⟩,st⟩:=st;obtain⟨xs,x,hq,hx⟩:=hg;obtain⟨its,rv,p,hz⟩:=I.list hq;obtain⟨u,hu,ru⟩:=rv.get hx;have p':s.heap.IsList a its.toArray:=p.isList
  have hai:a≠it:=λz=>by
   subst z;obtain⟨o,e1,c1,_⟩:=st;obtain⟨o',e2,c2,_⟩:=p';rw[e1]at e2;cases e2;rw[c1]at c2;exact absurd c2 (by decide)
  have hae:e≠a:=λz=>by
   subst z;obtain⟨o',e2,c2,_⟩:=p';rw[he]at e2;cases e2;exact absurd (show Value.type "enumerate"=Value.type "list" from c2) (by decide)
  have hlt:i<its.toArray.size:=by
   rcases wz i its.length with z | z
   ·simpa using z
   ·rw[wE z]at hu;cases hu
  refine wpAny_pyNext_enum_itemD (Draws.list (A:=X.A.in1) (I.ok.hd hc) it a hai its.toArray) he ⟨st,p'⟩ hlt hne (by simp[hne,hae]) λv h1 tk hv ho hs1 hT hsz hk=>?_
  have hvu:v=u:=by
   have hv':its[i]? = some v:=by simpa using hv
   rw[hu]at hv';exact(wK hv').symm
  subst hvu
  have I1:Inv X pins σ (upd H s.heap.objs.size (.tup [.int (i:Int),x])) {s with heap:=s.heap.push {cls:=.type "tuple",data:=.seq ([.int (i:Int) tk,v]:List wg).toArray},toks:=tk+1} :=
   I.laid (λb o q=>wn _ q) (wp _) (show dA X.prog X.w _ _ _ (.tup [.int (i:Int),x])from⟨mV (by simp),_,.cons ⟨_,rfl⟩ (.cons ru .nil),QD _ _⟩)
  have lt1:∀b∈[e,it],b<s.heap.objs.size:=λb hb=>by
   rcases wQ.mp hb with rfl | hb
   ·exact wA he
   ·rw[w5.mp hb]
    obtain⟨o,eo,_⟩:=st;exact wA eo
  have hf1:∀b∈[e,it],d9 X pins (upd H s.heap.objs.size (.tup [.int (i:Int),x])) b:=λb hb=>⟨by rw[d7 (wL (lt1 b hb))];exact(hf b hb).1,(hf b hb).2⟩
  refine⟨_,rfl,wpAny_letOwnedTupleGo_enum ho λh2 he2 hs2=>?_⟩;refine⟨.ref s.heap.objs.size,_,Inv.rT (s:={s with heap:=s.heap.push {cls:=.type "tuple",data:=.seq ([.int (i:Int) tk,v]:List wg).toArray},toks:=tk+1}) (ch:=[e,it]) I1 (λb o hb q=>?_) hf1,rfl,⟨_,x,rfl,I.aF.fresh (wp _),λys hy=>by rw[I.rL hy hq];exact hx,rfl⟩,⟨⟨_,by simpa using he2⟩,hs1.1.at λo eo=>(hs2.2 it (Wp hne)).trans eo⟩,λb hb=>(hf1 b hb).1⟩;have hbe:b≠e:=λz=>hb (by simp[z])
  have hbi:b≠it:=λz=>hb (by simp[z])
  refine(hs2.2 b hbe).trans ?_
  by_cases hb2:b=s.heap.objs.size
  ·subst hb2
   rw[wP _ rfl]at q;cases q;exact hT
  ·exact hk b o hbe hbi (by rw[xp _ _ _ hb2]at q;exact q)
 done:=by
  intro X hP hw hK hc i pins s σ H E I hf st hg;subst hP hw hK;obtain⟨⟨old,he⟩,st⟩:=st;obtain⟨xs,hq,hx⟩:=hg;obtain⟨its,rv,p,hz⟩:=I.list hq;have p':s.heap.IsList a its.toArray:=p.isList;have hl:=rv.length;have hT:s.TypeIs (.ref e) "enumerate":=⟨_,he,rfl⟩;unfold Vo;refine we (WQ (wpAny_callSpecial?_slot (name:=vW "__next__") hT qI (Wb qI hT xY ?_ (xJ _))))
  show wq _ _ (field (.ref e) 2 >>= _) _ _ _;refine we (vk he rfl (x:=.ref it) rfl ?_)
  refine we (wpAny_nextOf_list_end (A:=X.A.in1) (I.ok.hd hc) st p' (by simp;lia) λh' y he' hx'=>?_);obtain⟨o,ho,hcl⟩:=hx';refine we (W0 (T:="StopIteration") (b:=true) ⟨o,ho,hcl⟩ V5 (wo ⟨rfl,?_⟩));obtain⟨f0,f1,f2,f3,f4,f5⟩:=hf it (by simp);exact I.turned (t':=s.toks) (λb o hb e=>he' b o hb e) f0 f1 f3 f4 f5
 self:=λ_ _ _ _ _ st h=>let ⟨_,he⟩:=st.1;wpAny_pyIter_enum he h
def PH(K:wb)(ta:TA):TI:=λσ H R=>ta σ H λvs H1=>∃a,vs=[.ref a]/\(∃xs,aI K H1 a xs)/\R (Fu K a) H1
theorem ZN{X:Cx}{elts:List Expr}{k1}{tpos p pos:Pos}{l:Expr}{ta:TA}(hg:Gl X "enumerate")(hm:X.mg "enumerate"=none)(ha:PA X [l] ta)(hs:va [l] X.env=[(false,eval l X.env)]:=by rfl) :
  PI X (.Tuple elts k1 tpos) (.Call (.Name "enumerate" p) [l] [] pos) (PH X.K ta):=by
 intro pins s σ H R I h;refine Call_ (gx I hg hm Md (vD (aJ (ha pos pins s σ H _ I h) λus s1 ⟨vs,H1,I1,r1,q1⟩=>?_) hs rfl));obtain⟨a,rfl,⟨xs,hq⟩,q⟩:=q1;obtain⟨u,rfl,ru⟩:=fT r1;cases ru;obtain⟨its,rv,p,hz⟩:=I1.list hq;refine call_enumerate_list p.isList λh' he hit _ kp=>?_
 refine wpAny_pyIter_enum he ?_;refine⟨s1.heap.objs.size+1,[s1.heap.objs.size+1,s1.heap.objs.size],_,_,H1,rfl,I1.kept (t':=s1.toks) kp,V_ a (s1.heap.objs.size+1) s1.heap.objs.size (uM _),⟨⟨_,he⟩,hit⟩,λb hb=>?_,q⟩
 have hb':s1.heap.objs.size<=b:=by
  rcases wQ.mp hb with rfl | hb
  ·lia
  ·rw[w5.mp hb];exact wp _
 exact I1.iY hb' (I1.aF.fresh hb')
def Nf(K:wb)(g:TG)(tt:TT)(te:TE)(src:List (Option Nat))(σ : St)(vs:List V)(H1:Hp)(Q:VK):Prop:=∃a,vs=[.ref a]/\(∃xs,aI K H1 a xs) /\
 ∀D,H1 D=none->jL g tt te (Fu K a) D (dJ src σ) (upd H1 D (.lst [])) (λH'=>Q (.ref D) H')
section
variable{K:wb}{ta:TA}{g:TG}{tb:TS}{tt c:TT}{te:TE}{D:cq}{σ : St}{H:Hp}{Q:VK}{a:wf}{xs:List V}{src:List (Option Nat)}{o0 o0':Option V}{tl:St}
theorem zvh(h:ta σ H λvs H1=>Nf K g tt te src σ vs H1 Q):ju src (PH K ta) g tt te σ H Q:=h
theorem zwW(hx:aI K H a xs)(hsrc:dJ src σ = o0::o0'::tl)(Rel:Nat->V->Hp->Prop)(hk:∀i v H1 H2,bo H1 H2->Rel i v H1->Rel i v H2)
  (hs:∀D i x zs o1 o2 H1 c,xs[i]? = some x->fS H tl Rel D i zs (o1::o2::tl) H1->H1 c=some (.tup [.int (i:Int),x])->gQ (fS H tl Rel) g tt te D i (.ref c) (o1::o2::tl) H1)
  (hd:∀D zs H',H D=none->ah H H'->H' D=some (.lst zs)->zs.length=xs.length->(∀j y,zs[j]? = some y->Rel j y H')->Q (.ref D) H'):Nf K g tt te src σ [.ref a] H Q:=by
 refine⟨a,rfl,⟨xs,hx⟩,λD hD=>⟨λi m σ' H'=>i+m=xs.length /\ ∃zs,fS H tl Rel D i zs σ' H',⟨xs.length,by lia,[],⟨o0,o0',hsrc⟩,hD,ah.upd hD,cT,rfl,λj y z=>by simp at z⟩,?_⟩⟩;rintro i m σ' H' ⟨him,zs,inv⟩;have hq1:=inv.2.2.1.seq hx
 by_cases hm:m=0
 ·have e:i=xs.length:=by lia
  subst e;obtain⟨_,n,s,e,hl,r⟩:=inv;exact .inl ⟨⟨xs,hq1,wp _⟩,hd D zs H' n s e hl r⟩
 ·have hi:i<xs.length:=by lia
  refine .inr ⟨⟨xs,xs[i],hq1,by simp[hi]⟩,λσ2 H2=>∃zs,fS H tl Rel D (i+1) zs σ2 H2,λσ2 H2 h=>⟨m-1,by lia,by lia,h⟩,?_⟩;rintro v H2 ⟨c,x,rfl,hn,hx',rfl⟩;obtain⟨⟨o1,o2,rfl⟩,n,s,e,hl,r⟩:=inv;have su:=ah.upd (o:=.tup [.int (i:Int),x]) hn;exact hs D i x zs o1 o2 _ c (hx' xs hq1) ⟨⟨o1,o2,rfl⟩,n,s.trans su,su _ _ e,hl,λj y hy=>hk _ _ _ _ su.keep (r j y hy)⟩ cT
def LU(Pv:Nat->St->Hp->Prop)(m:Nat)(tb:TS)(D:cq)(σ':St)(H1:Hp):Prop :=
 ∃M:St->Hp->Prop,(∀σ2 H2,M σ2 H2->∃m',m'<m/\Pv m' σ2 H2)/\tb {D with nx:=M,ct:=M,bk:=D.nx} σ' H1
theorem tK(Pv:Nat->St->Hp->Prop)(m0:Nat)(h0:Pv m0 σ H)(hs:∀m σ' H',Pv m σ' H'->c σ' H' λb H1=>if b=true then LU Pv m tb D σ' H1 else D.nx σ' H1):Cc c tb D σ H:=⟨Pv,⟨m0,h0⟩,hs⟩
theorem yQ{Pv:Nat->St->Hp->Prop}{m:Nat}{σ':St}{H1:Hp}(h:tb {D with nx:=λσ2 H2=>∃m',m'<m/\Pv m' σ2 H2,ct:=λσ2 H2=>∃m',m'<m/\Pv m' σ2 H2,bk:=D.nx} σ' H1):LU Pv m tb D σ' H1:=⟨_,λ_ _ q=>q,h⟩
def yL(K:wb)(x:V)(H:Hp)(Q:Bool->Hp->Prop):Prop:=∃k,ER K x H k/\Q k H
def Jn(K:wb)(te:TE):TT:=λσ H Q=>te σ H λx H'=>yL K x H' Q
theorem BM{X:Cx}{e:Expr}{t:TE}(h:PE X e t)(he:∀whole,isTrue e X.env whole=(do let v <- whole;standAt e.pos;holding [v] (truthy v)):=by intro _;rfl):PT X e (Jn X.K t):=YT h he
theorem zBS{QB:Bool->Hp->Prop}(h:te σ H λx H'=>yL K x H' QB):Jn K te σ H QB:=h
theorem zzP{QB:Bool->Hp->Prop}{v:V}{ds:List wF}(h:Is K H v (.tuple ds))(q:QB (!ds.isEmpty) H):yL K v H QB:=by
 obtain⟨p,us,rfl,hs,t⟩:=bW.mp h;have hl:=t.length;refine⟨_,.inr (.inl ⟨us,hs,rfl⟩),?_⟩
 have e:us.isEmpty=ds.isEmpty:=by
  cases us<;>cases ds<;>simp_all
 rw[e];exact q
theorem O5{QB:Bool->Hp->Prop}{v:V}{ds:List wF}(h:Is K H v (.list ds))(q:QB (!ds.isEmpty) H):yL K v H QB:=by
 obtain⟨p,us,rfl,hs,t⟩:=cu.mp h;have hl:=t.length;refine⟨_,.inl ⟨us,hs,rfl⟩,?_⟩
 have e:us.isEmpty=ds.isEmpty:=by
  cases us<;>cases ds<;>simp_all
 rw[e];exact q
end
theorem Mp:∀(ys:List V)(us:List wg),ys.length=us.length->(∀(i:Nat) y u,ys[i]? = some y->us[i]? = some u->aY y u)->aP ys us
 | [],[],_,_=>.nil
 | [],_::_,h,_=>by simp at h
 | _::_,[],h,_=>by simp at h
 | y::ys,u::us,h,r=>.cons (r 0 y u rfl rfl) (Mp ys us (by simpa using h) λi y u h1 h2=>r (i+1) y u h1 h2)
def vz(l:List Nat):List V:=l.map λ(w:Nat)=>V.int (w:Int)
theorem jQ(l:List Nat):(vz l).length=l.length:=wm ..
def Ex(vs:List V)(H1:Hp)(Q:VK):Prop:=∃j:Int,vs=[.int j]/\0<=j/\j<=1000 /\ ∀l,H1 l=none->Q (.ref l) (upd H1 l (.lst (vz (wx j.toNat))))
def Q_(ta:TA):TE:=λσ H Q=>ta σ H λvs H1=>Ex vs H1 Q
theorem UY{X:Cx}{a:Expr}{ta:TA}{p p2 pos pos2:Pos}(hc:X.calm=true)(hg:Gl X "list")(hm:X.mg "list"=none)(hg2:Gl X "range")(hm2:X.mg "range"=none)(ha:PA X [a] ta)(hs:va [a] X.env=[(false,eval a X.env)]:=by rfl)
  (hs2:va [Expr.Call (.Name "range" p2) [a] [] pos2] X.env=[(false,eval (.Call (.Name "range" p2) [a] [] pos2) X.env)]:=by rfl):PE X (.Call (.Name "list" p) [.Call (.Name "range" p2) [a] [] pos2] [] pos) (Q_ ta):=by
 intro pins s σ H Q I h;refine Call_ (gx I hg hm rB ?_);refine vD ?_ hs2 rfl;rw[hs2]
 show wq _ _ (spliced ((false,eval _ X.env)::Vs pos [])) _ _ s
 refine Q3 ?_;refine Call_ (gx I hg2 hm2 boot_range (vD (aJ (ha pos2 pins s σ H _ I h) λus s1 ⟨vs,H1,I1,r1,q1⟩=>?_) hs rfl));obtain⟨j,e,j0,j1,q⟩:=q1;subst e;obtain⟨u,rfl,ru⟩:=fT r1;obtain⟨t,rfl⟩:=ru;refine call_range_1 ?_;refine xn ?_;have I2:Inv X pins σ H1 {s1 with heap:=s1.heap.push {cls:=.type "range",data:=.fields #[.int 0 s1.toks,.int j t,.int 1 (s1.toks+1)]},toks:=s1.toks+1+1}:=I1.kept λb o e=>wn _ e
 refine call_list_range (n:=j.toNat) (I1.ok.hd hc) (UJ ..) (small_one (by lia) (by lia) (by lia) (by lia)) (by rw[rangeSize_one];split<;>lia) (by lia) λh' tk acc c hk hD hI=>?_
 refine⟨.ref _,_,I2.laid (t':=tk) hk (wp _) ?_,rfl,q _ (I2.aF.fresh (wp _))⟩;refine⟨mV (by rw[jQ,vy];lia),acc.toList,c,Mp _ _ (by rw[jQ,vy,wO,hI.1]) λi y u hy hu=>?_,by simpa using hD⟩;have hu':acc[i]? = some u:=by simpa using hu
 obtain⟨t',e'⟩:=hI.2 i u hu'
 have hi:i<j.toNat:=by
  have:=(Va.mp hu').1;rw[hI.1]at this;exact this
 have hy':y=V.int (i:Int):=by
  unfold vz at hy;rw[wu,vZ hi]at hy;exact(wK hy).symm
 subst hy';exact⟨t',by rw[e'];congr 1;lia⟩
theorem zpq{ta:TA}{σ : St}{H:Hp}{Q:VK}(h:ta σ H λvs H1=>Ex vs H1 Q):Q_ ta σ H Q:=h
theorem zvs{n:Nat}{H:Hp}{Q:VK}(hn:n<=1000)(q:∀l H',H l=none->ah H H'->H' l=some (.lst (vz (wx n)))->Q (.ref l) H'):Ex [V.int (n:Int)] H Q :=
 ⟨_,rfl,by lia,by lia,λl hl=>q l _ hl (ah.upd hl) (by rw[wT];exact cT)⟩
theorem IP(w:Nat)(l:List Nat):yS (.int (w:Int)) (vz l)=decide (w∈l):=by
 unfold yS vz
 induction l with
 | nil=>rfl
 | cons x l ih =>
  rw[vb,qQ,ih]
  show((x:Int) == (w:Int) || _)=_
  by_cases h:w=x
  ·subst h;simp
  ·have h':¬ (x:Int)=(w:Int):=λz=>h (by lia)
   simp[h,h']
theorem Ni(l:List Nat):(vz l).all j4=true:=by
 unfold vz;rw[WN];intro y hy;obtain⟨w,_,rfl⟩:=wS.mp hy
 rfl
section
variable{K:wb}{H H':Hp}{Q:VK}{v:V}{p:wf}{l:List Nat}{w:Nat}
theorem YW(h:aR K H p (vz l))(q:Q (.bl (!decide (w∈l))) H):kD K true (.int (w:Int)) (.ref p) H Q:=⟨p,vz l,rfl,.inr h,rfl,Ni l,by rw[IP];exact q⟩
theorem zy1(h:aI K H p (vz l))(q:Q (.bl (decide (w∈l))) H):kD K false (.int (w:Int)) (.ref p) H Q:=⟨p,vz l,rfl,.inl h,rfl,Ni l,by rw[IP];exact q⟩
def TW(l:List Nat):wF:=TZ (l.map λ(w:Nat)=>(w:Int))
theorem Dl:Is K H v (TW l) ↔ ∃a,v=.ref a/\aR K H a (vz l):=by
 unfold TW vz;rw[nA,WH];exact Iff.rfl
theorem DT(l:List Nat):cO (TW l)=true:=zAQ _
def og(ws:List (List Nat)):wF:=.tuple (ws.map TW)
theorem tH:∀ws:List (List Nat),b7 (ws.map TW)=true
 | []=>rfl
 | w::ws=>by rw[vb,b7,DT,tH ws];rfl
theorem zzv(ws:List (List Nat)):cO (og ws)=true:=by rw[og,cO];exact tH ws
theorem Bg{i:Nat}{x:V}(h:(vz l)[i]? = some x):∃hi:i<l.length,x=.int ((l[i]:Nat):Int):=by
 have hi:i<l.length:=by
  rcases wz i l.length with z | z
  ·exact z
  ·rw[wE (by rw[jQ];exact z)]at h;cases h
 refine⟨hi,?_⟩;unfold vz at h;rw[wu,wc hi]at h;exact(wK h).symm
def GD(a b:Rat)(xs:List Rat):wF:=.tuple [N (1-bX xs),og (cf a b xs),bA a b (cV a b xs)]
def pS(h:Rat)(ws:List (List Nat))(xs:List Rat):wF:=.tuple [N h,og ws,TN xs]
theorem Nr(h:Rat)(ws:List (List Nat))(xs:List Rat):cO (pS h ws xs)=true:=by rw[pS,cO,b7,b7,b7,b7,lz,zzv,tI];rfl
def zD(a b:Rat)(xs:List Rat)(k:Nat):wF:=pS (aS a b xs (k+1)) (cf a b (aj a b xs k)) (aj a b xs (k+1))
def fR(a b:Rat)(xs:List Rat)(n:Nat):List wF:=(wx n).map (zD a b xs)
theorem rg{α : Type}(f : α -> wF)(hf:∀x,cO (f x)=true):∀l:List α,b7 (l.map f)=true
 | []=>rfl
 | x::l=>by rw[vb,b7,hf,rg f hf l];rfl
theorem ao.snoc{vs:List V}{ds:List wF}{d:wF}(h:ao K H vs ds)(k:Is K H v d):ao K H (vs++[v]) (ds++[d]):=h.append (.cons k .nil)
theorem q_{l:List Nat}{i:Nat}(h:i<l.length):l.take (i+1)=l.take i++[l[i]]:=by
 rw[qx,wc h];rfl
theorem R0(h:Is K H v (TW l))(q:Q (.int (l.length:Int)) H):cP K [v] H Q:=yY h (by rw[wm];exact q)
end
theorem Bf(a b:Rat)(xs:List Rat)(n:Nat):(fR a b xs n).length=n:=by simp[fR]
theorem Z0{a b:Rat}{xs:List Rat}{n k:Nat}(h:k<n):(fR a b xs n)[k]? = some (zD a b xs k):=by
 unfold fR;rw[wu,vZ h];rfl
theorem yl(a b:Rat)(xs:List Rat)(n:Nat):fR a b xs (n+1)=fR a b xs n++[zD a b xs n]:=by
 unfold fR;rw[QM,vx];rfl
theorem zoU(a b:Rat)(xs:List Rat)(n:Nat):b7 (fR a b xs n)=true:=rg _ (λk=>Nr _ _ _) _
theorem Yy{ps:List Rat}{l:List Nat}{w:Nat}(h:¬ ps.getD w 0<1):aC ps (l++[w])=aC ps l++[w]:=by
 unfold aC;rw[Vm,WX,decide_eq_false h];rfl
theorem zu4{ps:List Rat}{l:List Nat}{w:Nat}(h:ps.getD w 0<1):aC ps (l++[w])=aC ps l:=by
 unfold aC;rw[Vm,WX,decide_eq_true h];exact Wl _
theorem zvD{wave l:List Nat}{w:Nat}(h:¬ w∈wave):bQ (l++[w]) wave=bQ l wave++[w]:=by
 unfold bQ;rw[Vm];simp[WX,h]
theorem ztn{wave l:List Nat}{w:Nat}(h:w∈wave):bQ (l++[w]) wave=bQ l wave:=by
 unfold bQ;rw[Vm];simp[WX,h]
theorem BN(l:List Nat)(w:Nat):vz (l++[w])=vz l++[V.int (w:Int)]:=by unfold vz;rw[vx];rfl
theorem ZM{xs:List Rat}{j:Nat}(h:j<xs.length):(bE xs).getD j 0=xs.getD j 0+(1-bX xs):=by
 unfold bE;rw[wa,wu,wc h,wa,wc h];rfl
theorem Ny:∀ds:List wF,(∀d∈ds,wV d d=true)->WP ds ds=true
 | [],_=>by simp[WP]
 | d::ds,h=>by rw[WP,h d (wC ..),Ny ds λe he=>h e (wy _ he)];rfl
theorem Ys{ds:List wF}(h:∀d∈ds,wV d d=true):wV (.tuple ds) (.tuple ds)=true:=by rw[wV];exact Ny ds h
theorem pI{P:wF->Prop}{a b:wF}(ha:P a)(hb:P b):∀d∈[a,b],P d:=λd hd=>by
 simp only[wQ,qP,or_false]at hd;rcases hd with rfl | rfl
 ·exact ha
 ·exact hb
def Sh(n:Nat)(d:wF):Prop:=d.canLay0=true/\d.depth<=n
theorem Ck{n:Nat} : ∀ds:List wF,(∀d∈ds,Sh n d)->Wn ds=true/\Wy ds<=n
 | [],_=>by simp[Wn,Wy]
 | d::ds,h=>by
  have h1:=h d (wC ..);have h2:=Ck ds λe he=>h e (wy _ he)
  rw[Wn,Wy,h1.1,h2.1];exact⟨rfl,by have:=h1.2;have:=h2.2;lia⟩
theorem tU{n:Nat}{ds:List wF}(h:∀d∈ds,Sh n d):Sh (n+1) (.tuple ds):=by
 have:=Ck ds h;unfold Sh;rw[vR,W8];exact⟨this.1,by have:=this.2;lia⟩
theorem OY{n:Nat}{ds:List wF}(h:∀d∈ds,Sh n d):Sh (n+1) (.list ds):=by
 have:=Ck ds h;unfold Sh;rw[vR,W8];exact⟨this.1,by have:=this.2;lia⟩
theorem Sh.mono{m n:Nat}{d:wF}(h:Sh m d)(e:m<=n):Sh n d:=⟨h.1,Wk h.2 e⟩
theorem Sh.shaped{n:Nat}{d:wF}(h:Sh n d)(e:n<=64):vQ d=true:=by
 unfold vQ;rw[h.1,Qz];exact decide_eq_true (Wk h.2 e)
theorem yF(i:Int):Sh 1 (.int i):=⟨by simp[vR],by simp[W8]⟩
theorem zC5(x:Rat):Sh 2 (N x):=tU (pI (yF _) (yF _))
theorem O4{K:wb}{H:Hp}{Q:VK}{v w:V}{d:wF}{n:Nat}(h:Is K H v d)(k:Is K H w d)(s:Sh n d)(e:n<=64)(r:wV d d=true)(q:Q (.bl false) H):eD K v w H Q:=nY h k (s.shaped e) (s.shaped e) (by rw[r];exact q)
section
variable{K:wb}{H H':Hp}{Q:VK}{D:cq}{σ : St}{td ty tv:TE}{a:wf}{kvs:List (Key × V)}{k:Int}{v:V}
end
theorem Pg:∀{ts:List Int}{ys:List V},ys.length=ts.length->(∀(j:Nat)(y:V),ys[j]? = some y->y=V.int (ts.getD j 0))->ys=ts.map V.int
 | [],[],_,_=>rfl
 | [],_::_,h,_=>by simp at h
 | _::_,[],h,_=>by simp at h
 | t::ts,y::ys,h,e=>by
  rw[vb,e 0 y rfl,Pg (ts:=ts) (ys:=ys) (by simpa using h) λj z hz=>e (j+1) z hz]
  rfl
theorem Bo{α : Type}{f : α -> Int}{xs:List α}{i:Nat}{d : α}(h:i<xs.length):(xs.map f).getD i 0=f (xs.getD i d):=by
 rw[wa,wu,wc h,wa,wc h];rfl
theorem M4{n:Nat}(p:Nat->Bool)(i:Nat):(wx (i+1)).filter p=(wx i).filter p++(if p i then [i]else []):=by
 rw[QM,Vm];cases h:p i<;>simp[h]
def O9(K:wb)(g:TG)(tt:TT)(te:TE)(src:List (Option Nat))(σ : St)(vs:List V)(H1:Hp)(Q:VK):Prop:=∃a,vs=[.ref a]/\(∃xs,aR K H1 a xs) /\
 ∀D,H1 D=none->jL g tt te (nQ K a) D (dJ src σ) (upd H1 D (.lst [])) (λH'=>Q (.ref D) H')
section
variable{K:wb}{ta:TA}{g:TG}{tt:TT}{te:TE}{σ : St}{H:Hp}{Q:VK}{a:wf}{xs:List V}{src:List (Option Nat)}
theorem zvO(h:ta σ H λvs H1=>O9 K g tt te src σ vs H1 Q):ju src (Bz K ta) g tt te σ H Q:=h
theorem zrk(hx:aR K H a xs)(Pv:wf->Nat->List V->St->Hp->Prop)(h0:∀D H',H D=none->ah H H'->H' D=some (.lst [])->Pv D 0 [] (dJ src σ) H')(hl:∀D i ys σ' H',Pv D i ys σ' H'->aR K H' a xs)
  (hs:∀D i x ys σ' H1 c H2,xs[i]? = some x->Pv D i ys σ' H1->H1 c=none->ah H1 H2->H2 c=some (.tup [.int (i:Int),x])->gQ Pv g tt te D i (.ref c) σ' H2) (hd:∀D ys σ' H',Pv D xs.length ys σ' H'->Q (.ref D) H'):O9 K g tt te src σ [.ref a] H Q:=by
 refine⟨a,rfl,⟨xs,hx⟩,λD hD=>⟨λi m σ' H'=>i+m=xs.length /\ ∃ys,Pv D i ys σ' H',⟨xs.length,by lia,[],h0 D _ hD (ah.upd hD) cT⟩,?_⟩⟩;rintro i m σ' H' ⟨him,ys,inv⟩;have hq:=hl _ _ _ _ _ inv
 by_cases hm:m=0
 ·have e:i=xs.length:=by lia
  subst e;exact .inl ⟨⟨xs,hq,wp _⟩,hd _ _ _ _ inv⟩
 ·have hi:i<xs.length:=by lia
  refine .inr ⟨⟨xs,xs[i],hq,by simp[hi]⟩,λσ2 H2=>∃ys,Pv D (i+1) ys σ2 H2,λσ2 H2 h=>⟨m-1,by lia,by lia,h⟩,?_⟩;rintro v H2 ⟨c,x,rfl,hn,hx',rfl⟩;exact hs D i x ys σ' H' c _ (hx' xs hq) inv hn (ah.upd hn) cT
end
def CM(K:wb):R2:=λx y H Q=>∃d ds,Is K H x d/\Is K H y (.tuple ds)/\Sh 60 d/\vR (.tuple ds)=true/\Q (.bl (ds.any λe=>wV e d)) H
theorem US{X:Cx}(hu:X.A.units+64<WF):aM X (wY .In) (CM X.K):=by
 intro pins s σ H x y v u Q I rx ry h;obtain⟨d,ds,hd,he,sd,se,q⟩:=h;obtain⟨as,h1⟩:=I.reads d x v sd.1 hd rx;obtain⟨bs,h2⟩:=I.reads (.tuple ds) y u se he ry;have sd2:=sd.2;have hm:=xA (Wy ds) d.depth;exact SeqAt.in_tuple_reads h2 h1 (by rw[vR]at se;exact se) sd.1 (by lia) ⟨.bl _,H,I,rfl,q⟩
theorem zCX(xs:List Rat)(x:Rat):((xs.map N).any λe=>wV e (N x))=decide (x∈xs):=by
 induction xs with
 | nil=>rfl
 | cons y xs ih =>
  rw[vb,qQ,ih,zg]
  by_cases h:x=y
  ·subst h;simp
  ·have h':¬ y=x:=λz=>h z.symm
   simp[h,h']
theorem zyD{K:wb}{H:Hp}{Q:VK}{v w:V}{xs:List Rat}{x:Rat}(h:Is K H v (N x))(k:Is K H w (TN xs))(q:Q (.bl (decide (x∈xs))) H):CM K v w H Q :=
 ⟨N x,xs.map N,h,k,(zC5 x).mono (by decide),by rw[vR];exact sj xs,by rw[zCX];exact q⟩
def jY(xs:List Rat)(v:Rat):wF:=.tuple [N v,TW (eQ xs v)]
theorem PF(xs:List Rat)(v:Rat):cO (jY xs v)=true:=by rw[jY,cO,b7,b7,b7,lz,DT];rfl
theorem YF(xs:List Rat)(l:List Rat):b7 (l.map (jY xs))=true:=rg _ (PF xs) l
theorem Z5(ds:List wF):wV (.list ds) (.list [])=ds.isEmpty:=by cases ds<;>simp[wV,WP]
theorem zB9(ns:List Int):Sh 2 (TZ ns):=tU λd hd=>by
 obtain⟨n,_,rfl⟩:=wS.mp hd;exact yF n
theorem zCY(ns:List Int):wV (TZ ns) (TZ ns)=true:=Ys λd hd=>by
 obtain⟨n,_,rfl⟩:=wS.mp hd;rw[zyT];exact decide_eq_true rfl
section
variable{K:wb}{H:Hp}{Q:VK}{v w:V}{ds:List wF}{n:Nat}{l b:wf}{xs zs:List V}
theorem zwc(h:Is K H v (.list ds))(k:Is K H w (.list []))(s:Sh n (.list ds))(e:n<=64)(q:Q (.bl (!ds.isEmpty)) H):eD K v w H Q :=
 nY h k (s.shaped e) ((OY (n:=1) (ds:=[]) (by simp)).shaped (by decide)) (by rw[Z5];exact q)
end
theorem oh{K:wb}{H:Hp}{Q:VK}{v:V}{ds:List wF}{d:wF}(h:Is K H v (.list (ds++[d])))(q:∀x,Is K H x d->Q x H):dB K v (.int (-1)) H Q:=by
 obtain⟨a,xs,rfl,hs,t⟩:=cu.mp h;have hl:=t.length;rw[wZ,Wm]at hl;obtain⟨x,e1,hx⟩:=t.get (i:=ds.length) (d:=d) (by rw[vH (wp _),Vr];rfl);exact jo hs (DK (by rw[hl];exact e1)) (q x hx)
def Df(K:wb):List V->Hp->VK->Prop:=λxs H Q=>∃(p:wf)(bs:List Bool),xs=[.ref p]/\aI K H p (bs.map V.bl)/\Q (.bl (bs.any id)) H
theorem zBT:vU "any"=some (.builtin "any"):=by decide +kernel
theorem Z3(bs:List Bool):((wx bs.length).any λi=>(bs[i]?).getD true)=bs.any id:=by
 rw[vI,uO,uO]
 constructor
 ·rintro ⟨i,hi,h⟩
  rw[wI]at hi;rw[wc hi]at h;exact⟨bs[i],vO hi,h⟩
 ·rintro ⟨b,hb,h⟩
  obtain⟨i,hi,rfl⟩:=wX hb;exact⟨i,wI.mpr hi,by rw[wc hi];exact h⟩
open PyProof.V PySem.Calls in
theorem zvj{X:Cx}(hc:X.calm=true):aK X (.builtin "any") (Df X.K):=by
 intro pins s σ H xs us Q I r h;obtain⟨p,bs,rfl,hq,q⟩:=h;obtain⟨u,rfl,rx⟩:=fT r;cases rx;obtain⟨its,r',pl,hz⟩:=I.list hq;have hi:its=bs.map Value.bool:=Lo r';have hl:s.heap.IsList p its.toArray:=pl.isList;have hlt:p<s.heap.objs.size:=by obtain⟨_,e,_⟩:=hl;exact wA e
 refine call_any_walk (VZ hl ?_)
 refine⟨s.heap.objs.size,[s.heap.objs.size,p],[s.heap.objs.size],its.toArray.size,_,_,λi=>(bs[i]?).getD true,rfl,u8 (A:=X.A.in1) (I.ok.hd hc) _ p (wL hlt) its.toArray,
  ⟨⟨_,wP _ rfl,rfl,rfl⟩,hl.push _⟩,λi v s' Q' E' hP hQ=>?_,λh' tk hk=>?_⟩
 ·have hP:its.toArray[i]? = some v:=hP
  rw[hi]at hP;simp only[Xg,wu,VC]at hP;obtain⟨b,e,rfl⟩:=hP;simp only[e,QC]at hQ;exact WE hQ
 ·have e:((wx its.toArray.size).any λi=>(bs[i]?).getD true)=bs.any id:=by
   rw[wR,hi,wm];exact Z3 bs
  rw[e];exact⟨.bl (bs.any id),H,I.kept (t':=tk) (λb x e=>hk b x (λhm=>by rw[w5.mp hm]at e;exact VR _ (wA e)) (wn _ e)),rfl,q⟩
theorem zzg{K:wb}{H:Hp}{Q:VK}{p:wf}{bs:List Bool}(h:aI K H p (bs.map V.bl))(q:Q (.bl (bs.any id)) H):Df K [.ref p] H Q:=⟨p,bs,rfl,h,q⟩
section
open PyProof.V PySem.Calls PySem.W
variable{prog:wJ}{w:wM}{A:wW}{E:wg->wl->Prop}{s:wl}
end
abbrev Kb(h:wH)(a:wf):wH:=h.push {cls:=.type "tuple_iterator",data:=.fields #[.ref a,.int 0 0]}
abbrev PQ(h:wH)(a b:wf):wH:=(Kb h a).push {cls:=.type "list_iterator",data:=.fields #[.ref b,.int 0 0]}
abbrev IY(h:wH)(a b:wf):wH:=(PQ h a b).push {cls:=.type "tuple",data:=.seq #[.ref h.objs.size,.ref (Kb h a).objs.size]}
abbrev U6(h:wH)(a b:wf):wH:=(IY h a b).push {cls:=.type "tuple",data:=.seq #[.none,.none]}
abbrev zM5(h:wH)(a b:wf):wH:=(U6 h a b).push {cls:=.type "zip",data:=.fields #[.none,.bool false,.bool false,.ref (PQ h a b).objs.size,.ref (IY h a b).objs.size]}
section
variable{prog:wJ}{w:wM}{A:wW}{E:wg->wl->Prop}{s:wl}
end
section
variable{X:Cx}{x:Str}{G:wg}{b₀ : vj}{body suite:List vj}{np hpos pos:Pos}{tb:(St->XK)->TS}{th:TS}
end
theorem ik{K:wb}{H:Hp}{Q:VK}(s t:String)(r:Bool)(e:wV (.str (vW s)) (.str (vW t))=r)(q:Q (.bl r) H):df K (.str (vW s)) (.str (vW t)) H Q :=
 ES (d:=.str (vW s)) (e:=.str (vW t)) (eK.mpr rfl) (eK.mpr rfl) (IL s) (IL t) (by rw[e];exact q)
theorem DC:vU "set"=some (.type "set"):=by decide +kernel
section
variable{K:wb}{H:Hp}{Q:VK}{p:wf}{ns:List Int}
end
abbrev Pk(h:wH)(a:wf):wH:=h.push {cls:=.type "list_iterator",data:=.fields #[.ref a,.int 0 0]}
abbrev Ku(h:wH)(a b:wf):wH:=(Pk h a).push {cls:=.type "tuple_iterator",data:=.fields #[.ref b,.int 0 0]}
abbrev Oe(h:wH)(a b:wf):wH:=(Ku h a b).push {cls:=.type "tuple",data:=.seq #[.ref h.objs.size,.ref (Pk h a).objs.size]}
abbrev zN4(h:wH)(a b:wf):wH:=(Oe h a b).push {cls:=.type "tuple",data:=.seq #[.none,.none]}
abbrev zN5(h:wH)(a b:wf):wH:=(zN4 h a b).push {cls:=.type "zip",data:=.fields #[.none,.bool false,.bool false,.ref (Ku h a b).objs.size,.ref (Oe h a b).objs.size]}
section
variable{prog:wJ}{w:wM}{A:wW}{E:wg->wl->Prop}{s:wl}
end
end L2
namespace TB
open PySem
def jP(xs:Array Nat):Prop:=∀i j,i<j->j<xs.size->xs.getD i 0<xs.getD j 0
theorem YN{xs:Array Nat}{i:Nat}(h:i<xs.size)(d e:Nat):xs.getD i d=xs.getD i e:=by
 simp[u9,h]
theorem Cb(xs:Array Nat)(j:Nat)(R:jP xs):∀(fuel lo hi:Nat),hi<=xs.size->lo<=hi->hi-lo<=fuel->(∀k,k<lo->xs.getD k 0<j)->(∀k,hi<=k->k<xs.size->j<=xs.getD k 0) ->
  (Qw xs j fuel lo hi<=xs.size/\(∀k,k<Qw xs j fuel lo hi->xs.getD k 0<j)/\(∀k,Qw xs j fuel lo hi<=k->k<xs.size->j<=xs.getD k 0))
 | 0,lo,hi,h1,h2,h3,a,b=>by
  have:lo=hi:=by lia
  subst this;exact⟨h1,a,b⟩
 | fuel+1,lo,hi,h1,h2,h3,a,b=>by
  unfold Qw
  by_cases c:lo<hi
  ·rw[if_pos c]
   have m1:(lo+hi) / 2<hi:=by lia
   have m2:lo<=(lo+hi) / 2:=by lia
   dsimp only;rw[YN (wU m1 h1) j 0]
   by_cases d:xs.getD ((lo+hi) / 2) 0<j
   ·rw[if_pos d]
    refine Cb xs j R fuel _ hi h1 m1 (by lia) (λk hk=>?_) b;rcases wz k ((lo+hi) / 2)with q | q
    ·exact XN (R k _ q (by lia)) d
    ·have:k=(lo+hi) / 2:=by lia
     rw[this];exact d
   ·rw[if_neg d]
    refine Cb xs j R fuel lo _ (by lia) m2 (by lia) a (λk hk hk'=>?_);rcases Vn hk with q | q
    ·rw[<- q];lia
    ·have:=R _ k q hk';lia
  ·rw[if_neg c]
   have:lo=hi:=by lia
   subst this;exact⟨h1,a,b⟩
theorem Jj{xs:Array Nat}(R:jP xs)(j:Nat):WR xs j<=xs.size/\(∀k,k<WR xs j->xs.getD k 0<j)/\(∀k,WR xs j<=k->k<xs.size->j<=xs.getD k 0) :=
 Cb xs j R xs.size 0 xs.size (wp _) (Wu _) (by lia) (λk h=>absurd h (WV k)) (λk h h'=>absurd h' (by lia))
theorem zDf{xs:Array Nat}{i:Nat}(h:i<xs.size):xs[i]? = some (xs.getD i 0):=by simp[u9,h]
theorem JW{t:WD}(R:jP t.place)(D:t.dummies = #[])(j:Nat) :
  (∃i,i<t.place.size/\t.place.getD i 0=j/\t.slot j=.live i)\/((∀i,i<t.place.size->t.place.getD i 0≠j)/\t.slot j=.empty):=by
 obtain⟨h1,h2,h3⟩:=Jj R j;unfold SetTable.slot;dsimp only;have hd:XU t.dummies j=false:=by rw[D];rfl
 rw[hd];rcases wz (WR t.place j) t.place.size with q | q
 ·rw[zDf q]
  by_cases e:t.place.getD (WR t.place j) 0=j
  ·exact .inl ⟨_,q,e,by simp[e]⟩
  ·refine .inr ⟨λi hi he=>?_,by generalize t.place.getD (WR t.place j) 0=z at e;simp[e]⟩
   rcases wz i (WR t.place j)with a | a
   ·have:=h2 i a;lia
   ·rcases Vn a with b | b
    ·rw[<- b]at he;exact e he
    ·have:=R _ i b hi
     have:=h3 _ (wp _) q
     lia
 ·have:t.place[WR t.place j]? = none:=VE q
  rw[this];refine .inr ⟨λi hi he=>?_,by simp⟩;have:=h2 i (by lia);lia
def g(x:Nat):Nat:=x*5+1
def it(n x:Nat):Nat:=match n with | 0=>x | n+1=>g (it n x)
def s:Nat->Nat | 0=>0 | n+1=>5*s n+1
theorem MW(n:Nat):5^n=4*s n+1:=by
 induction n with
 | zero=>rfl
 | succ n ih=>rw[W5,ih];show _=4*(5*s n+1)+1;lia
theorem zCJ(n x:Nat):it n x=5^n*x+s n:=by
 induction n with
 | zero=>show x=5^0*x+0;simp
 | succ n ih =>
  show g (it n x)=5^(n+1)*x+(5*s n+1)
  rw[ih,W5];unfold g;rw[Vb,ue (5^n) 5 x];lia
theorem YJ(m n x:Nat):it (m+n) x=it m (it n x):=by
 induction m with
 | zero=>rw[Nat.zero_add];rfl
 | succ m ih=>rw[Nat.succ_add];show g (it (m+n) x)=g (it m (it n x));rw[ih]
theorem Zc(m n:Nat):s (m+n)=5^m*s n+s m:=by
 induction m with
 | zero=>simp[s]
 | succ m ih =>
  rw[Nat.succ_add]
  show 5*s (m+n)+1=5^(m+1)*s n+(5*s m+1)
  rw[ih,W5,Vb,ue (5^m) 5];lia
theorem zCr(k:Nat):∃o,s (2^k)=2^k*(2*o+1):=by
 induction k with
 | zero=>exact⟨0,rfl⟩
 | succ k ih =>
  obtain⟨o,ho⟩:=ih
  have e:s (2^(k+1))=2^(k+1)*((2*o+1)*(2*s (2^k)+1)):=by
   have:2^(k+1)=2^k+2^k:=by rw[W5];lia
   rw[this,Zc,MW];generalize hs:s (2^k)=S at *
   have h2:(2^k+2^k)*((2*o+1)*(2*S+1))=2*(2^k*(2*o+1))*(2*S+1):=by
    rw[<- Nat.two_mul,<- Vb,Vb 2]
   rw[h2,<- ho];generalize S*S=z at *;have:(4*S+1)*S=4*(S*S)+S:=by rw[uv,Vb,uw]
   rw[this]
   have:2*S*(2*S+1)=4*(S*S)+2*S:=by
    rw[xV,Nat.mul_one,Nat.mul_mul_mul_comm]
   rw[this];lia
  refine⟨o*(2*s (2^k)+1)+s (2^k),?_⟩;rw[e]
  congr 1
  rw[uv,uw,Vb]
  lia
theorem zCq(M c a:Nat):(4*(M*c)+1)*a+M*c=a+M*(c*(4*a+1)):=by
 rw[uv,uw,xV c,Nat.mul_one,xV M];have:4*(M*c)*a=M*(c*(4*a)):=by rw[Qm 4,Vb,Vb]
 lia
theorem ZQ(k:Nat):∀x y:Nat,∃n,n<2^k/\it n x % 2^k=y % 2^k:=by
 induction k with
 | zero=>intro x y;exact⟨0,by decide,by simp[Nat.mod_one]⟩
 | succ k ih =>
  intro x y;obtain⟨n,hn,e⟩:=ih x y;have hp:0<2^k:=Nat.pow_pos (by decide);have h2:2^(k+1)=2^k*2:=W5 ..;obtain⟨o,ho⟩:=zCr k;generalize hM:2^k=M at *;rw[h2]
  by_cases c:it n x / M % 2=y / M % 2
  ·refine⟨n,by lia,?_⟩
   rw[xZ,xZ,e,c]
  ·refine⟨M+n,by lia,?_⟩
   rw[YJ,zCJ,MW,ho];generalize it n x=a at *;rw[zCq,xZ,xZ,Nat.add_mul_mod_self_left,e,Nat.add_mul_div_left _ _ hp]
   have:(2*o+1)*(4*a+1) % 2=1:=by
    rw[uz];have h1:(2*o+1) % 2=1:=by lia
    have h2:(4*a+1) % 2=1:=by lia
    rw[h1,h2]
   congr 2
   lia
open SetTable (Probe leap runEnd bits turns)
def hW(mask:Nat)(p:Probe):Probe :=
 if p.more > 0 then {p with j:=p.j+1,more:=p.more-1}else
 {p with j:=(leap mask p.i p.perturb).1,more:=runEnd mask (leap mask p.i p.perturb).1-(leap mask p.i p.perturb).1,i:=(leap mask p.i p.perturb).1,perturb:=(leap mask p.i p.perturb).2}
def way(mask:Nat)(p:Probe):Nat->Probe | 0=>p | n+1=>hW mask (way mask p n)
def gP(mask i b:Nat):Probe:={j:=i,more:=runEnd mask i-i,i:=i,perturb:=b,dummy:=none}
def start(mask:Nat)(h:Int):Probe:=gP mask (bits h % (mask+1)) (bits h)
def lp(mask i b:Nat):Nat->Nat × Nat | 0=>(i,b) | n+1=>leap mask (lp mask i b n).1 (lp mask i b n).2
theorem sC(mask:Nat)(p:Probe)(m:Nat):∀n,way mask p (m+n)=way mask (way mask p m) n
 | 0=>rfl
 | n+1=>by show hW mask (way mask p (m+n))=hW mask (way mask (way mask p m) n);rw[sC mask p m n]
theorem Ki(mask:Nat)(p:Probe):∀n,(way mask p n).dummy=p.dummy
 | 0=>rfl
 | n+1=>by
  show(hW mask (way mask p n)).dummy=p.dummy
  rw[<- Ki mask p n];unfold hW;split<;>rfl
theorem rC(mask i b:Nat):∀n,n<=runEnd mask i-i->way mask (gP mask i b) n = {j:=i+n,more:=runEnd mask i-i-n,i:=i,perturb:=b,dummy:=none}
 | 0,_=>rfl
 | n+1,h=>by
  show hW mask (way mask (gP mask i b) n)=_
  rw[rC mask i b n (by lia)];unfold hW;dsimp only;rw[if_pos (by lia)]
  congr 1
theorem CN(mask i b:Nat):way mask (gP mask i b) (runEnd mask i-i+1)=gP mask (leap mask i b).1 (leap mask i b).2:=by
 show hW mask (way mask (gP mask i b) (runEnd mask i-i))=_
 rw[rC mask i b _ (wp _)];unfold hW;dsimp only;rw[if_neg (by lia)]
 rfl
theorem YA(mask i:Nat):runEnd mask i-i<=9:=by unfold runEnd;split<;>lia
theorem M8(mask i b:Nat):∀m,∃n,n<=10*m/\way mask (gP mask i b) n=gP mask (lp mask i b m).1 (lp mask i b m).2
 | 0=>⟨0,wp _,rfl⟩
 | m+1=>by
  obtain⟨n,hn,e⟩:=M8 mask i b m;have:=YA mask (lp mask i b m).1;refine⟨n+(runEnd mask (lp mask i b m).1-(lp mask i b m).1+1),by lia,?_⟩;rw[sC,e,CN];rfl
theorem Rg(mask i b:Nat):∀n,(lp mask i b n).2=b / 32^n
 | 0=>by simp[lp]
 | n+1=>by
  show(lp mask i b n).2 / 32=_
  rw[Rg mask i b n,W5,x6]
theorem MC(mask i b c:Nat)(h:b / 32^c=0):∀n,(lp mask i b (c+1+n)).1=it n (lp mask i b (c+1)).1 % (mask+1)
 | 0=>by
  show(lp mask i b (c+1)).1=(lp mask i b (c+1)).1 % (mask+1)
  show _ % _=_ % _ % _
  rw[Nat.mod_mod]
 | n+1=>by
  show((lp mask i b (c+1+n)).1*5+1+(lp mask i b (c+1+n)).2 / 32) % (mask+1)=g (it n _) % _
  have:(lp mask i b (c+1+n)).2 / 32=0:=by
   rw[Rg]
   have:b / 32^(c+1+n)=0:=by
    rw[Vt,Q2,<- x6,h,Nat.zero_div]
   rw[this]
  rw[this,MC mask i b c h n];unfold g;rw[XQ,Nat.add_mod,uz,Nat.mod_mod,<- uz,<- Nat.add_mod]
theorem RX(h:Int):bits h<2^64:=by unfold bits;lia
theorem Mr{mask k:Nat}(hm:mask+1=2^k){i b:Nat}(hb:b<2^64){j:Nat}(hj:j<=mask):∃m,m<=mask+14/\(lp mask i b m).1=j:=by
 have h0:b / 32^13=0:=Nat.div_eq_of_lt (wU hb (by decide));obtain⟨n,hn,e⟩:=ZQ k (lp mask i b 14).1 j;refine⟨13+1+n,by lia,?_⟩;rw[MC mask i b 13 h0,hm,e,xE (by lia)]
theorem zu1{mask k:Nat}(hm:mask+1=2^k){i b:Nat}(hb:b<2^64){j:Nat}(hj:j<=mask):∃n,n<10*turns mask/\(way mask (gP mask i b) n).j=j:=by
 obtain⟨m,hm',e⟩:=Mr hm (i:=i) hb hj;obtain⟨n,hn,e'⟩:=M8 mask i b m;refine⟨n,by unfold turns;lia,?_⟩;rw[e'];exact e
theorem Bt{mask i:Nat}(h:i<=mask):i<=runEnd mask i/\runEnd mask i<=mask:=by unfold runEnd;split<;>lia
theorem LQ{mask:Nat}{p:Probe}(h:p.j+p.more<=mask):∀n,(way mask p n).j+(way mask p n).more<=mask
 | 0=>h
 | n+1=>by
  have ih:=LQ h n
  show(hW mask (way mask p n)).j+(hW mask (way mask p n)).more<=mask
  unfold hW
  split
  ·dsimp only;lia
  ·dsimp only
   have:(leap mask (way mask p n).i (way mask p n).perturb).1<=mask:=by
    unfold leap;dsimp only;exact VX (qN _ (QL _))
   have:=Bt this
   lia
theorem YU(mask:Nat)(h:Int)(n:Nat):(way mask (start mask h) n).j<=mask:=by
 have h1:bits h % (mask+1)<=mask:=VX (qN _ (QL _));have h2:=Bt h1;have:=LQ (mask:=mask) (p:=start mask h) (by unfold start gP;dsimp only;lia) n
 lia
def In(t:WD)(j:Nat):Prop:=∃i,i<t.place.size/\t.place.getD i 0=j
structure Tb(t:WD)(hs:List Int):Prop where
 jd:jP t.place
 size:t.place.size=hs.length
 mU:t.dummies = #[]
 two:∃k,3<=k/\t.mask+1=2^k
 le:∀i,i<t.place.size->t.place.getD i 0<=t.mask
 room:t.place.size<=t.mask
 path:∀i,i<t.place.size->∃n,(way t.mask (start t.mask (hs.getD i 0)) n).j=t.place.getD i 0 /\ ∀m,m<n->In t (way t.mask (start t.mask (hs.getD i 0)) m).j
theorem Z6{P:Nat->Prop}{n:Nat}(h:P n):∃m,m<=n/\P m /\ ∀k,k<m->¬ P k:=by
 induction n using Nat.strongRecOn with
 | _ n ih =>
  by_cases c:∃k,k<n/\P k
  ·obtain⟨k,hk,hp⟩:=c
   obtain⟨m,h1,h2,h3⟩:=ih k hk hp;exact⟨m,by lia,h2,h3⟩
  ·exact⟨n,wp _,h,λk hk hp=>c ⟨k,hk,hp⟩⟩
theorem B9{xs:Array Nat}(R:jP xs){i j:Nat}(hi:i<xs.size)(hj:j<xs.size)(e:xs.getD i 0=xs.getD j 0):i=j:=by
 rcases WS i j with q | q | q
 ·have:=R i j q hj;lia
 ·exact q
 ·have:=R j i q hi;lia
theorem J4{t:WD}(R:jP t.place):∀j,(∀j',j'<=j->In t j')->∃i,i<t.place.size/\t.place.getD i 0=j/\j<=i
 | 0,h=>by obtain⟨i,hi,e⟩:=h 0 (wp _);exact⟨i,hi,e,Wu _⟩
 | j+1,h=>by
  obtain⟨i,hi,e,hle⟩:=J4 R j λj' hj'=>h j' (by lia)
  obtain⟨i',hi',e'⟩:=h (j+1) (wp _);refine⟨i',hi',e',?_⟩;rcases WS i i' with q | q | q
  ·lia
  ·subst q;lia
  ·have:=R i' i q hi;lia
theorem Tb.gap{t:WD}{hs:List Int}(b:Tb t hs):∃j,j<=t.mask /\ ¬ In t j:=by
 refine V2 λc=>?_
 obtain⟨i,hi,e,hle⟩:=J4 b.jd t.place.size λj' hj'=>V2 λd=>c ⟨j',Wk hj' b.room,d⟩
 lia
theorem Tb.free{t:WD}{hs:List Int}(b:Tb t hs)(h:Int):∃n,n<10*turns t.mask /\ ¬ In t (way t.mask (start t.mask h) n).j /\ ∀m,m<n->In t (way t.mask (start t.mask h) m).j:=by
 obtain⟨j,hj,hn⟩:=b.gap;obtain⟨k,_,hk⟩:=b.two;obtain⟨n,hn',e⟩:=zu1 hk (i:=bits h % (t.mask+1)) (RX h) hj;obtain⟨m,h1,h2,h3⟩:=Z6 (P:=λn=>¬ In t (way t.mask (start t.mask h) n).j) (n:=n) (by show ¬ In t _;unfold start;rw[e];exact hn);exact⟨m,by lia,h2,λk hk=>V2 (h3 k hk)⟩
theorem Mc{t:WD}(R:jP t.place)(D:t.dummies = #[])(hashAt:Nat->Int)(h:Int){p:Probe}(dm:p.dummy=none){n0:Nat}(hE:¬ In t (way t.mask p n0).j)(hF:∀m,m<n0->In t (way t.mask p m).j) :
  ∀fuel n,n<=n0->n0-n<fuel ->
   (∃m i,n<=m/\m<n0/\i<t.place.size/\t.place.getD i 0=(way t.mask p m).j/\hashAt i=h/\(∀k,n<=k->k<m->∀i',i'<t.place.size->t.place.getD i' 0=(way t.mask p k).j->hashAt i'≠h) /\
    xq t hashAt h fuel (way t.mask p n)=some (.candidate (way t.mask p m).j i (way t.mask p (m+1)))) \/
   ((∀k,n<=k->k<n0->∀i',i'<t.place.size->t.place.getD i' 0=(way t.mask p k).j->hashAt i'≠h) /\
    xq t hashAt h fuel (way t.mask p n)=some (.empty (way t.mask p n0).j none))
 | 0,n,_,hf=>absurd hf (WV _)
 | fuel+1,n,hn,hf=>by
  unfold xq;rcases JW R D (way t.mask p n).j with⟨i,hi,e,es⟩ | ⟨no,es⟩
  ·rw[es]
   dsimp only
   have hlt:n<n0:=by
    rcases wz n n0 with q | q
    ·exact q
    ·have:n=n0:=by lia
     subst this;exact absurd ⟨i,hi,e⟩ hE
   by_cases c:hashAt i=h
   ·rw[if_pos (by simpa using c)]
    exact .inl ⟨n,i,wp _,hlt,hi,e,c,λk h1 h2=>absurd h1 (by lia),rfl⟩
   ·rw[if_neg (by simpa using c)]
    have here:∀i',i'<t.place.size->t.place.getD i' 0=(way t.mask p n).j->hashAt i'≠h:=λi' hi' e'=>by
     rw[B9 R hi' hi (e'.trans e.symm)];exact c
    rcases Mc R D hashAt h dm hE hF fuel (n+1) hlt (by lia)with⟨m,i2,a1,a2,a3,a4,a5,a6,a7⟩ | ⟨a1,a2⟩
    ·refine .inl ⟨m,i2,by lia,a2,a3,a4,a5,λk h1 h2 i' hi' e'=>?_,a7⟩
     rcases Vn h1 with q | q
     ·subst q;exact here i' hi' e'
     ·exact a6 k q h2 i' hi' e'
    ·refine .inr ⟨λk h1 h2 i' hi' e'=>?_,a2⟩
     rcases Vn h1 with q | q
     ·subst q;exact here i' hi' e'
     ·exact a1 k q h2 i' hi' e'
  ·rw[es]
   dsimp only
   have:n=n0:=by
    rcases wz n n0 with q | q
    ·obtain⟨i,hi,e⟩:=hF n q
     exact absurd e (no i hi)
    ·lia
   subst this;refine .inr ⟨λk h1 h2=>absurd h1 (by lia),?_⟩;rw[Ki,dm]
def d6{α : Type}(l:List α)(p:Nat)(x : α):List α:=l.take p++x::l.drop p
theorem yc{α : Type}{l:List α}{p:Nat}(x : α)(hp:p<=l.length)(i:Nat):(d6 l p x)[i]? = if i<p then l[i]? else if i=p then some x else l[i-1]?:=by
 unfold d6;have hl:(l.take p).length=p:=by rw[Ws];lia
 by_cases a:i<p
 ·rw[if_pos a,Wf (by lia),xz a]
 ·rw[if_neg a,vH (by lia),hl]
  by_cases b:i=p
  ·rw[if_pos b,b,Vr];rfl
  ·rw[if_neg b]
   have:i-p=(i-1-p)+1:=by lia
   rw[this,xK,Q7]
   congr 1;lia
theorem pj{α : Type}{l:List α}{p:Nat}(x : α)(hp:p<=l.length):(d6 l p x).length=l.length+1:=by
 unfold d6;rw[wZ,Ws,vo,Wa];lia
theorem pR{α : Type}(xs:Array α)(p:Nat)(x : α):(Wv xs p x).toList=d6 xs.toList p x:=by
 unfold Wv d6;simp;exact W7 (by simp)
theorem mS{xs:Array Nat}{p:Nat}(x:Nat)(hp:p<=xs.size)(i:Nat):(Wv xs p x).getD i 0=if i<p then xs.getD i 0 else if i=p then x else xs.getD (i-1) 0:=by
 rw[vE,<- WJ,pR,yc x (by simpa using hp)]
 split
 ·rw[vE,<- WJ]
 ·split
  ·rfl
  ·rw[vE,<- WJ]
theorem RE{xs:Array Nat}{p:Nat}(x:Nat)(hp:p<=xs.size):(Wv xs p x).size=xs.size+1:=by
 rw[<- wO,pR,pj x (by simpa using hp),wO]
theorem ZF{l:List Int}{p:Nat}(x:Int)(hp:p<=l.length)(i:Nat):(d6 l p x).getD i 0=if i<p then l.getD i 0 else if i=p then x else l.getD (i-1) 0:=by
 rw[wa,yc x hp]
 split
 ·rw[wa]
 ·split
  ·rfl
  ·rw[wa]
theorem Tb.put{t:WD}{hs:List Int}(b:Tb t hs){h:Int}{n:Nat}(hE:¬ In t (way t.mask (start t.mask h) n).j)(hF:∀m,m<n->In t (way t.mask (start t.mask h) m).j)(hr:t.place.size+1<=t.mask) :
  (t.put (way t.mask (start t.mask h) n).j).2<=hs.length/\Tb (t.put (way t.mask (start t.mask h) n).j).1 (d6 hs (t.put (way t.mask (start t.mask h) n).j).2 h):=by
 generalize hj:(way t.mask (start t.mask h) n).j=j at *;have hjm:j<=t.mask:=by rw[<- hj];exact YU t.mask h n
 obtain⟨q1,q2,q3⟩:=Jj b.jd j;have hd:XU t.dummies j=false:=by rw[b.mU];rfl
 have e2:(t.put j).2=WR t.place j:=rfl;have ep:(t.put j).1.place=Wv t.place (WR t.place j) j:=rfl;have em:(t.put j).1.mask=t.mask:=rfl
 have edm:(t.put j).1.dummies = #[]:=by
  show(if XU t.dummies j=true then _ else t.dummies)=_
  rw[hd];exact b.mU
 rw[e2];generalize WR t.place j=p at *;have hp:p<=hs.length:=by rw[<- b.size];exact q1
 have inn:∀x,In t x->In (t.put j).1 x:=λx ⟨i,hi,e⟩=>by
  unfold In;rw[ep,RE j q1];rcases wz i p with a | a
  ·exact⟨i,by lia,by rw[mS j q1,if_pos a];exact e⟩
  ·exact⟨i+1,by lia,by rw[mS j q1,if_neg (by lia),if_neg (by lia)];exact e⟩
 have ns:(t.put j).1.place.size=t.place.size+1:=by rw[ep,RE j q1]
 have gt:∀k,p<=k->k<t.place.size->j<t.place.getD k 0:=λk h1 h2=>by
  have:=q3 k h1 h2;have:t.place.getD k 0≠j:=λe=>hE ⟨k,h2,e⟩
  lia
 refine⟨hp,⟨?_,?_,edm,em ▸ b.two,?_,?_,?_⟩⟩
 ·intro i k hik hk
  rw[ns]at hk;rw[ep,mS j q1,mS j q1]
  by_cases a:k<p
  ·rw[if_pos (by lia),if_pos a];exact b.jd i k hik (by lia)
  ·rw[if_neg a]
   by_cases c:k=p
   ·rw[if_pos c,if_pos (by lia)];exact q2 i (by lia)
   ·rw[if_neg c]
    by_cases d:i<p
    ·rw[if_pos d];exact XN (q2 i d) (gt (k-1) (by lia) (by lia))
    ·rw[if_neg d]
     by_cases f:i=p
     ·rw[if_pos f];exact gt (k-1) (by lia) (by lia)
     ·rw[if_neg f];exact b.jd (i-1) (k-1) (by lia) (by lia)
 ·rw[ns,pj h hp,b.size]
 ·intro i hi
  rw[ns]at hi;rw[ep,mS j q1,em]
  split
  ·exact b.le i (by lia)
  ·split
   ·exact hjm
   ·exact b.le (i-1) (by lia)
 ·rw[ns,em];exact hr
 ·intro i hi
  rw[ns]at hi;rw[ep,mS j q1,em,ZF h hp]
  split
  ·obtain⟨m,h1,h2⟩:=b.path i (by lia)
   exact⟨m,h1,λk hk=>inn _ (h2 k hk)⟩
  ·split
   ·exact⟨n,hj,λk hk=>inn _ (hF k hk)⟩
   ·obtain⟨m,h1,h2⟩:=b.path (i-1) (by lia)
    exact⟨m,h1,λk hk=>inn _ (h2 k hk)⟩
structure Ow(mask:Nat)(ow:Array (Option Nat))(hs:List Int):Prop where
 size:ow.size=mask+1
 cnt:ow.toList.countP Uv=hs.length
 inj:∀j j' k,ow.getD j none=some k->ow.getD j' none=some k->j=j'
 lt:∀j k,ow.getD j none=some k->k<hs.length
 has:∀k,k<hs.length->∃j,ow.getD j none=some k
 path:∀k j,ow.getD j none=some k->∃n,(way mask (start mask (hs.getD k 0)) n).j=j /\ ∀m,m<n->ow.getD (way mask (start mask (hs.getD k 0)) m).j none≠none
theorem NP(mask i b:Nat):∀m,lp mask i b (m+1)=lp mask (leap mask i b).1 (leap mask i b).2 m
 | 0=>rfl
 | m+1=>by
  show leap mask (lp mask i b (m+1)).1 (lp mask i b (m+1)).2=leap mask (lp mask (leap mask i b).1 (leap mask i b).2 m).1 _
  rw[NP mask i b m]
theorem Ee{ow:Array (Option Nat)}{j:Nat}(h:j<ow.size)(d e:Option Nat):ow.getD j d=ow.getD j e:=by simp[u9,h]
theorem I_{mask:Nat}{ow:Array (Option Nat)}(hz:ow.size=mask+1):∀fuel i b,i<=mask->(∃m,m<fuel/\ow.getD (lp mask i b m).1 none=none/\(lp mask i b m).1<=mask) ->
  ∃j n,W9 mask ow fuel i b=some j/\(way mask (gP mask i b) n).j=j/\j<=mask/\ow.getD j none=none /\ ∀m,m<n->ow.getD (way mask (gP mask i b) m).j none≠none
 | 0,i,b,_,⟨m,h,_⟩=>absurd h (WV _)
 | fuel+1,i,b,hi,⟨m,hm,hn,hle⟩=>by
  unfold W9;have hr:=Bt hi;cases hf:(wx (runEnd mask i+1-i)).find? λk=>(ow.getD (i+k) (some 0)).isNone with
  | some k =>
   rw[List.find?_range_eq_some]at hf;obtain⟨h1,h2,h3⟩:=hf;have h2:k<runEnd mask i+1-i:=by simpa using h2
   refine⟨i+k,k,rfl,?_,by lia,?_,λm hm=>?_⟩
   ·rw[rC mask i b k (by lia)]
   ·rw[Ee (by lia) none (some 0)];simpa using h1
   ·rw[rC mask i b m (by lia)]
    have:=h3 m hm
    show ow.getD (i+m) none≠none
    rw[Ee (by lia) none (some 0)];intro e;rw[e]at this;exact absurd this (by decide)
  | none =>
   rw[List.find?_range_eq_none]at hf
   have all:∀k,k<=runEnd mask i-i->ow.getD (i+k) none≠none:=λk hk e=>by
    have:=hf k (by lia);rw[Ee (by lia) (some 0) none,e]at this;exact absurd this (by decide)
   cases m with
   | zero=>exact absurd hn (all 0 (Wu _))
   | succ m =>
    rw[NP]at hn hle;have hi':(leap mask i b).1<=mask:=by unfold leap;dsimp only;exact VX (qN _ (QL _))
    obtain⟨j,n,e1,e2,e3,e4,e5⟩:=I_ hz fuel (leap mask i b).1 (leap mask i b).2 hi' ⟨m,by lia,hn,hle⟩;refine⟨j,runEnd mask i-i+1+n,e1,by rw[sC,CN];exact e2,e3,e4,λm' hm'=>?_⟩;rcases wz m' (runEnd mask i-i+1)with q | q
    ·rw[rC mask i b m' (by lia)];exact all m' (by lia)
    ·have:m'=runEnd mask i-i+1+(m'-(runEnd mask i-i+1)):=by lia
     rw[this,sC,CN];exact e5 _ (by lia)
theorem Ow.gap{mask:Nat}{ow:Array (Option Nat)}{hs:List Int}(o:Ow mask ow hs)(h:hs.length<=mask):∃j,j<=mask/\ow.getD j none=none:=by
 refine V2 λc=>?_
 have:ow.toList.countP Uv=ow.toList.length:=List.countP_eq_length.mpr λa ha=>by
  obtain⟨j,hj,e⟩:=wX ha;rw[wO,o.size]at hj;cases a with
  | some _=>rfl
  | none =>
   refine absurd ⟨j,by lia,?_⟩ c;rw[vE,<- WJ,wc (by rw[wO,o.size];exact hj),e]
   rfl
 have h2:ow.toList.length=mask+1:=by rw[wO,o.size]
 have:=o.cnt
 lia
theorem zxK{ow:Array (Option Nat)}{j:Nat}(h:j<ow.size)(v:Option Nat)(x:Nat):(ow.setIfInBounds j v).getD x none=if x=j then v else ow.getD x none:=by
 rw[vE,Array.getElem?_setIfInBounds]
 by_cases e:j=x
 ·subst e;rw[if_pos rfl,if_pos rfl,if_pos h];rfl
 ·rw[if_neg e,if_neg (λq=>e q.symm),vE]
theorem Ow.step{mask k:Nat}(hm:mask+1=2^k){ow:Array (Option Nat)}{hs:List Int}(o:Ow mask ow hs)(hl:hs.length<=mask)(h:Int) :
  ∃j,W9 mask ow (turns mask) (bits h % (mask+1)) (bits h)=some j/\Ow mask (ow.setIfInBounds j (some hs.length)) (hs++[h]):=by
 obtain⟨j0,hj0,e0⟩:=o.gap hl;obtain⟨m,hm',em⟩:=Mr hm (i:=bits h % (mask+1)) (RX h) hj0;obtain⟨j,n,e1,e2,e3,e4,e5⟩:=I_ o.size (turns mask) (bits h % (mask+1)) (bits h) (VX (qN _ (QL _))) ⟨m,by unfold turns;lia,by rw[em];exact e0,by rw[em];exact hj0⟩;have hjs:j<ow.size:=by rw[o.size];lia
 have G:=zxK hjs (some hs.length);have hlen:(hs++[h]).length=hs.length+1:=by simp
 have old:∀k,k<hs.length->(hs++[h]).getD k 0=hs.getD k 0:=λk hk=>by
  rw[wa,wa,Wf hk]
 refine⟨j,e1,⟨by simpa using o.size,?_,?_,?_,?_,?_⟩⟩
 ·rw[Array.toList_setIfInBounds,List.countP_set (by simpa using hjs),o.cnt,hlen]
  have:ow.toList[j]'(by simpa using hjs)=none:=by
   rw[vE,Wg hjs]at e4
   simpa using e4
  simp[this]
 ·intro x x' k h1 h2
  rw[G]at h1 h2
  split at h1
  ·split at h2
   ·rename_i a b;rw[a,b]
   ·have:=o.lt _ _ h2;have:=wK h1;lia
  ·split at h2
   ·have:=o.lt _ _ h1;have:=wK h2;lia
   ·exact o.inj _ _ _ h1 h2
 ·intro x k h1
  rw[G]at h1;rw[hlen]
  split at h1
  ·have:=wK h1;lia
  ·have:=o.lt _ _ h1;lia
 ·intro k hk
  rw[hlen]at hk;rcases wz k hs.length with q | q
  ·obtain⟨x,hx⟩:=o.has k q
   refine⟨x,?_⟩;rw[G,if_neg]
   ·exact hx
   ·intro e;rw[e,e4]at hx;cases hx
  ·refine⟨j,?_⟩
   rw[G,if_pos rfl];congr 1;lia
 ·intro k x h1
  rw[G]at h1
  have keep:∀y,ow.getD y none≠none->(ow.setIfInBounds j (some hs.length)).getD y none≠none:=λy hy=>by
   rw[G];split
   ·exact λz=>nomatch z
   ·exact hy
  split at h1
  ·rename_i ex
   have ek:k=hs.length:=(wK h1).symm;have:(hs++[h]).getD k 0=h:=by rw[ek,wa,vH (wp _),Vr];rfl
   rw[this,ex];exact⟨n,e2,λm hm=>keep _ (e5 m hm)⟩
  ·rw[old k (o.lt _ _ h1)]
   obtain⟨n',a1,a2⟩:=o.path k x h1;exact⟨n',a1,λm hm=>keep _ (a2 m hm)⟩
theorem Ow.nil(mask:Nat):Ow mask (Ua (mask+1) none) []:=by
 have G:∀j,(Ua (mask+1) (none:Option Nat)).getD j none=none:=λj=>by
  rw[vE,Array.getElem?_replicate];split<;>rfl
 refine⟨by simp,?_,λj j' k h=>?_,λj k h=>?_,λk h=>absurd h (WV _),λk j h=>?_⟩
 ·rw[Array.toList_replicate,List.countP_replicate];rfl
 all_goals(rw[G]at h;cases h)
theorem Pu{mask k:Nat}(hm:mask+1=2^k):∀(l:List Int)(ow:Array (Option Nat))(hs:List Int),Ow mask ow hs->hs.length+l.length<=mask+1 ->
  ∃ow',(l.foldl (init:=some (ow,hs.length)) λ(acc:Option (Array (Option Nat) × Nat)) h=>do
   let (owner,k) <- acc
   let j <- W9 mask owner (turns mask) (bits h % (mask+1)) (bits h)
   pure (owner.setIfInBounds j (some k),k+1))=some (ow',hs.length+l.length)/\Ow mask ow' (hs++l)
 | [],ow,hs,o,_=>⟨ow,rfl,by rw[Wl];exact o⟩
 | h::l,ow,hs,o,hl=>by
  rw[vo]at hl;obtain⟨j,e,o'⟩:=o.step hm (by lia) h;have hlen:(hs++[h]).length=hs.length+1:=by simp
  obtain⟨ow',e',o''⟩:=Pu hm l _ _ o' (by lia);refine⟨ow',?_,by rw[qy]at o'';exact o''⟩;rw[List.foldl_cons]
  have:(do
   let (owner,k) <- some (ow,hs.length)
   let j <- W9 mask owner (turns mask) (bits h % (mask+1)) (bits h)
   pure (owner.setIfInBounds j (some k),k+1):Option (Array (Option Nat) × Nat))=some (ow.setIfInBounds j (some hs.length),hs.length+1):=by
   show(W9 mask ow (turns mask) (bits h % (mask+1)) (bits h) >>= _)=_
   rw[e];rfl
  rw[this,<- hlen,e',hlen,vo]
  congr 2;lia
theorem zAP{mask k:Nat}(hm:mask+1=2^k){hs:Array Int}(hl:hs.size<=mask+1):∃ow,uf mask hs=some ow/\Ow mask ow hs.toList:=by
 obtain⟨ow,e,o⟩:=Pu hm hs.toList _ [] (Ow.nil mask) (by simpa using hl);refine⟨ow,?_,by simpa using o⟩;unfold uf;rw[<- Array.foldl_toList];have:=congrArg (UK (·.1)) e;exact this
def live(mask:Nat)(ow:Array (Option Nat)):List (Nat × Nat):=(wx (mask+1)).filterMap λj=>(ow.getD j none).map (j,·)
theorem oF{mask:Nat}{ow:Array (Option Nat)}(hz:ow.size=mask+1){j k:Nat} : (j,k)∈live mask ow ↔ ow.getD j none=some k:=by
 unfold live;rw[Qg]
 constructor
 ·rintro ⟨x,_,e⟩
  cases h:ow.getD x none with
  | none=>rw[h]at e;cases e
  | some y=>rw[h]at e;cases e;exact h
 ·intro h
  refine⟨j,?_,by rw[h];rfl⟩;rw[wI];rcases wz j (mask+1)with q | q
  ·exact q
  ·rw[vE,VE (by lia)]at h;cases h
theorem MO{mask:Nat}{ow:Array (Option Nat)}{hs:List Int}(o:Ow mask ow hs):(live mask ow).Pairwise λx y=>x.1<y.1/\x.2≠y.2:=by
 unfold live;rw[List.pairwise_filterMap];refine UH ?_ List.pairwise_lt_range;intro a b _ _ hab x hx y hy;cases h1:ow.getD a none with
 | none=>rw[h1]at hx;cases hx
 | some u =>
  cases h2:ow.getD b none with
  | none=>rw[h2]at hy;cases hy
  | some v =>
   rw[h1]at hx;rw[h2]at hy;cases hx;cases hy;refine⟨hab,λe=>?_⟩;have:u=v:=e;subst this;have:=o.inj _ _ _ h1 h2
   lia
theorem zsC{mask:Nat}{ow:Array (Option Nat)}{hs:List Int}(o:Ow mask ow hs):((live mask ow).map (·.2)).Perm (wx hs.length):=by
 refine(List.perm_ext_iff_of_nodup ?_ Vc).mpr λk=>?_
 ·show xh _ _
  rw[qz];exact(MO o).imp λh=>h.2
 ·rw[wI,wS]
  constructor
  ·rintro ⟨⟨j,k'⟩,h,rfl⟩
   exact o.lt _ _ ((oF o.size).mp h)
  ·intro h
   obtain⟨j,hj⟩:=o.has k h;exact⟨(j,k),(oF o.size).mpr hj,rfl⟩
theorem zyA{mask k:Nat}(k3:3<=k)(hm:mask+1=2^k)(finger moves:Nat)(led plain:Bool){hs:Array Int}(hl:hs.size<=mask) :
  ∃(t:WD)(ord:Array Nat),Uw mask finger moves led plain hs=some (t,ord)/\t.mask=mask/\t.led=led/\t.plain=plain/\t.moves=moves/\ord.toList.Perm (wx hs.size)/\Tb t (ord.toList.map λk=>hs.toList.getD k 0):=by
 obtain⟨ow,e,o⟩:=zAP hm (hs:=hs) (by lia);have op:=zsC o;rw[wO]at op;have ll:(live mask ow).length=hs.size:=by have:=op.length_eq;simpa using this
 refine⟨{mask,place:=((live mask ow).map (·.1)).toArray,dummies:=#[],finger,led,moves,plain},((live mask ow).map (·.2)).toArray,?_,rfl,rfl,rfl,rfl,by simpa using op,?_⟩
 ·unfold Uw
  rw[e];rfl
 ·have pz:(((live mask ow).map (·.1)).toArray).size=(live mask ow).length:=by simp
  have pg:∀i (h:i<(live mask ow).length),(((live mask ow).map (·.1)).toArray).getD i 0=((live mask ow)[i]).1:=λi h=>by
   rw[vE];simp[h]
  have inn:∀x,ow.getD x none≠none->In {mask,place:=((live mask ow).map (·.1)).toArray,dummies:=#[],finger,led,moves,plain} x:=λx hx=>by
   cases hy:ow.getD x none with
   | none=>exact absurd hy hx
   | some y =>
    obtain⟨i,hi,ei⟩:=wX ((oF o.size).mpr hy);exact⟨i,by show i<(((live mask ow).map (·.1)).toArray).size;rw[pz];exact hi,by show(((live mask ow).map (·.1)).toArray).getD i 0=x;rw[pg i hi,ei]⟩
  refine⟨?_,?_,rfl,⟨k,k3,hm⟩,?_,?_,?_⟩
  ·intro i j hij hj
   have hj:j<(live mask ow).length:=by rw[<- pz];exact hj
   show(((live mask ow).map (·.1)).toArray).getD i 0<(((live mask ow).map (·.1)).toArray).getD j 0
   rw[pg i (by lia),pg j hj];exact(vY.mp (MO o) i j (by lia) hj hij).1
  ·show(((live mask ow).map (·.1)).toArray).size=_
   rw[pz];simp
  ·intro i hi
   have hi:i<(live mask ow).length:=by rw[<- pz];exact hi
   show(((live mask ow).map (·.1)).toArray).getD i 0<=mask
   rw[pg i hi];have:=(oF o.size).mp (show(((live mask ow)[i]).1,((live mask ow)[i]).2)∈live mask ow from vO hi);rcases wz ((live mask ow)[i]).1 (mask+1)with q | q
   ·lia
   ·rw[vE,VE (by rw[o.size];lia)]at this;cases this
  ·show(((live mask ow).map (·.1)).toArray).size<=mask
   rw[pz,ll];exact hl
  ·intro i hi
   have hi:i<(live mask ow).length:=by rw[<- pz];exact hi
   have hm':=(oF o.size).mp (show(((live mask ow)[i]).1,((live mask ow)[i]).2)∈live mask ow from vO hi)
   have eh:(((live mask ow).map (·.2)).toArray.toList.map λk=>hs.toList.getD k 0).getD i 0=hs.toList.getD ((live mask ow)[i]).2 0:=by
    rw[wa];simp[hi]
   obtain⟨n,a1,a2⟩:=o.path _ _ hm'
   show ∃n,(way mask (start mask (_)) n).j=(((live mask ow).map (·.1)).toArray).getD i 0/\_
   rw[pg i hi,eh];exact⟨n,a1,λm hm=>inn _ (a2 m hm)⟩
theorem Kd(n:Nat):∀(fuel size:Nat),∃m,Wt n fuel size=size*2^m/\(n<size*2^fuel->n<Wt n fuel size)/\(Wt n fuel size<=size\/Wt n fuel size<=2*n)
 | 0,size=>⟨0,by simp[Wt],λh=>by simpa [Wt] using h,.inl (by simp[Wt])⟩
 | fuel+1,size=>by
  unfold Wt
  by_cases c:size<=n
  ·rw[if_pos c]
   obtain⟨m,h1,h2,h3⟩:=Kd n fuel (size*2);refine⟨m+1,?_,λh=>h2 ?_,?_⟩
   ·rw[h1,W5,Qm (2^m) 2,Vb]
   ·rw[W5,Qm (2^fuel) 2,<- Vb]at h;exact h
   ·rcases h3 with h3 | h3<;>right<;>lia
  ·rw[if_neg c]
   exact⟨0,by simp,λ_=>by lia,.inl (wp _)⟩
theorem zC0{n:Nat}(h1:1<=n)(h:n<=4000):∃k,3<=k/\qm (4*n)-1+1=2^k/\4*n<=qm (4*n)-1/\qm (4*n)<=8*n:=by
 obtain⟨m,e1,e2,e3⟩:=Kd (4*n) 64 8;have e0:qm (4*n)=Wt (4*n) 64 8:=rfl
 have lt := e2 (by have : (8 * 2 ^ 64 : Nat) = 147573952589676412928 := by decide
                   lia)
 rw[e0];refine⟨m+3,by lia,?_,by lia,by lia⟩;rw[Nat.sub_add_cancel (by lia),e1,Q2,Qm]
section
variable{prog:wJ}{w:wM}{K:Type}[DecidableEq K]{knd:KeyKind prog w K}{U:wf->List K->Prop}{A:wW}{E:wg->wl->Prop}{s:wl}
def Ent(knd:KeyKind prog w K)(U:wf->List K->Prop)(h:wH)(e:Int × wg)(k:List K):Prop:=∃a,e.2=.ref a/\vL knd h k a/\e.1=vc knd k/\U a k
theorem zny(n:Nat){v:wg}(h:carriedByValue v=true):qC n v=pure false:=by
 cases v with
 | ref a=>simp[carriedByValue]at h
 | _=>first | rfl | simp[qC] | (unfold qC;rfl)
theorem JF{x:wf}{k:List K}(hx:vL knd s.heap k x){Q:Bool->wl->Prop}(q:Q false s):wq (model prog w) A (qC 8 (.ref x)) Q E s:=by
 have hT:=hx.typeIs;obtain⟨o,items,n,ho,hc,hd,hi⟩:=hx;unfold qC;refine we (wpAny_typeOf hT ?_);dsimp only;rw[if_pos (by decide)];refine we (wo ?_);simp only[WG,w6,if_false];refine we (Wi ho hd ?_);refine we ?_
 show wq _ _ (forIn items _ _) _ _ s
 rw[<- VI];refine qd _ (λck r s'=>r.1=none/\s'=s /\ ∀v∈ck,carriedByValue v=true) _ ?_ ?_ _ _ ⟨rfl,rfl,hi.byValue⟩
 ·rintro v ck r s' ⟨hr,rfl,hall⟩
  rw[zny _ (hall v wC)];refine we (wo ?_);simp only[w6,if_false];exact wo ⟨rfl,rfl,λu hu'=>hall u (wy _ hu')⟩
 ·rintro ⟨r1,r2⟩ s' ⟨hr,rfl,_⟩
  simp only at hr;subst hr;exact wo q
theorem U0{x:wf}{k:List K}(hx:vL knd s.heap k x):∀(l:List wg),(∀v∈l,∃y k',v=.ref y/\vL knd s.heap k' y)->∀{Q:Bool->wl->Prop},Q false s->wq (model prog w) A (searchCouldBeSeen (.ref x) l) Q E s:=by
 intro l hl Q q;unfold searchCouldBeSeen;refine we ?_;refine qd _ (λck r s'=>r.1=none/\s'=s /\ ∀v∈ck,∃y k',v=.ref y/\vL knd s.heap k' y) _ ?_ ?_ _ _ ⟨rfl,rfl,hl⟩
 ·rintro v ck r s' ⟨hr,rfl,hall⟩
  obtain⟨y,k',rfl,hy⟩:=hall v wC;have rst:∀v∈ck,∃y k',v=.ref y/\vL knd s'.heap k' y:=λu hu'=>hall u (wy _ hu')
  dsimp only
  split
  ·exact wo ⟨rfl,rfl,rst⟩
  ·refine we (wpAny_eqIsQuiet_tuple hx ?_)
   simp only[WG,w6,if_false];refine we (wpAny_eqIsQuiet_tuple hy ?_);simp only[WG,w6,if_false];refine we (JF hx ?_);simp only[WG,w6,if_false];refine we (JF hy ?_);simp only[WG,w6,if_false];exact wo ⟨rfl,rfl,rst⟩
 ·rintro ⟨r1,r2⟩ s' ⟨hr,rfl,_⟩
  simp only at hr;subst hr;exact wo q
theorem zy9{t:WD}(R:jP t.place)(D:t.dummies = #[]){i j:Nat}(hi:i<t.place.size)(e:t.place.getD i 0=j):t.slot j=.live i:=by
 rcases JW R D j with⟨i',h1,h2,h3⟩ | ⟨no,_⟩
 ·rw[h3,B9 R h1 hi (h2.trans e.symm)]
 ·exact absurd e (no i hi)
theorem Ent.inj{h:wH}{e:Int × wg}{k k':List K}(a:Ent knd U h e k)(b:Ent knd U h e k'):k=k':=by
 obtain⟨x,h1,h2,_⟩:=a;obtain⟨y,h3,h4,_⟩:=b;rw[h1]at h3;cases h3;exact h2.inj h4
theorem Tb.fits{t:WD}{hs:List Int}(b:Tb t hs):t.fits hs.length=true:=by
 unfold SetTable.fits Ux;rw[b.mU,b.size];have:=b.room;rw[b.size]at this
 simpa using this
theorem Tb.Tw{t:WD}{hs:List Int}(b:Tb t hs):t.gaveWay=false:=by
 obtain⟨k',h3,e⟩:=b.two;unfold SetTable.gaveWay;have:2^k'=2*2^(k'-1):=by rw[<- Nat.pow_succ'];congr 1;lia
 have:t.mask % 2=1:=by lia
 rw[this];rfl
theorem L9{a xa:wf}{k:List K}{o:Obj}{es:Array (Int × wg)}{ep:Nat}{t:WD}(hu:A.units<WF)(hx:vL knd s.heap k xa)
  (ho:s.heap.get? a=some o) (hd:o.data=.set es ep t) (b:Tb t (es.toList.map (·.1))) (he:∀i (h:i<es.size),∃k',Ent knd U s.heap es[i] k') (n0:Nat) (hE:¬ In t (way t.mask (start t.mask (vc knd k)) n0).j) (hF:∀m,m<n0->In t (way t.mask (start t.mask (vc knd k)) m).j) (hf0:n0<10*Xh t.mask)
  {Q:SetFound->wl->Prop} (yes:(∃i,∃h:i<es.size,Ent knd U s.heap es[i] k)->Q (.there none) s) (no:(∀i (h:i<es.size),¬ Ent knd U s.heap es[i] k)->Q (.free (way t.mask (start t.mask (vc knd k)) n0).j false) s) :
  ∀(fuel n:Nat)(st:Option SetTable.Probe),n<=n0->n0-n<fuel->st.getD (t.probeStart (vc knd k))=way t.mask (start t.mask (vc knd k)) n ->
   (∀m,m<n->∀i (h:i<es.size),t.place.getD i 0=(way t.mask (start t.mask (vc knd k)) m).j->¬ Ent knd U s.heap es[i] k) ->
   wq (model prog w) A (setSearchFrom a (.ref xa) (vc knd k) true fuel st) Q E s
 | 0,n,st,_,hlt,_,_=>absurd hlt (WV _)
 | fuel+1,n,st,hn,hlt,hst,hno=>by
  have hsz:t.place.size=es.size:=by rw[b.size,wm,wO]
  have hfit:t.fits es.size=true:=by have:=b.fits;rwa[wm,wO]at this
  unfold setSearchFrom;refine we (V0 ho hd hfit ?_);dsimp only;rw[b.Tw,hst];simp only[w6,if_false];have hp:=Mc b.jd b.mU (λi=>(es[i]?.map (·.1)).getD 0) (vc knd k) (p:=start t.mask (vc knd k)) rfl hE hF (10*Xh t.mask) n hn (by lia);rcases hp with⟨m,i,m1,m2,i1,i2,i3,i4,e⟩ | ⟨a1,e⟩
  ·generalize hP:t.probe _ (vc knd k) (way t.mask (start t.mask (vc knd k)) n)=P
   have eP:=hP.symm.trans e;rw[eP];clear eP hP P e;dsimp only;have ies:i<es.size:=by rw[<- hsz];exact i1
   obtain⟨k',a',e1,e2,e3,e4⟩:=he i ies;have eg:es[i]? = some es[i]:=Wg ies;have hent:Ent knd U s.heap es[i] k':=⟨a',e1,e2,e3,e4⟩
   have next:k'≠k->wq (model prog w) A (setSearchFrom a (.ref xa) (vc knd k) true fuel (some (way t.mask (start t.mask (vc knd k)) (m+1)))) Q E s:=λc=>by
    refine L9 hu hx ho hd b he n0 hE hF hf0 yes no fuel (m+1) _ m2 (by lia) rfl λm' hm' i' hi' ep' hent'=>?_
    rcases wz m' n with q | q
    ·exact hno m' q i' hi' ep' hent'
    ·rcases Vn (VX hm')with q' | q'
     ·subst q'
      have:i'=i:=B9 b.jd (by rw[hsz];exact hi') i1 (ep'.trans i2.symm);subst this;exact c (hent.inj hent')
     ·refine i4 m' q q' i' (by rw[hsz];exact hi') ep' ?_
      show(es[i']?.map (·.1)).getD 0=_
      rw[Wg hi'];obtain⟨_,_,_,e5,_⟩:=hent';exact e5
   have hsl:t.slot (way t.mask (start t.mask (vc knd k)) m).j=.live i:=zy9 b.jd b.mU i1 i2;have hsm:t.sameMemory t.moves t.mask=some true:=by unfold SetTable.sameMemory;rw[if_pos (by simp)]
   have unseen:∀v∈(es.filter λx=>x.1 == vc knd k).toList.map (λx=>x.2),∃y k',v=.ref y/\vL knd s.heap k' y:=λv hv=>by
    obtain⟨e0,h0,rfl⟩:=wS.mp hv;rw[Array.toList_filter,ve]at h0;obtain⟨j,hj,ej⟩:=wX h0.1;obtain⟨k2,y2,f1,f2,_⟩:=he j (by simpa using hj);refine⟨y2,k2,?_,f2⟩;rw[<- ej,<- f1,Array.getElem_toList]
   have eg':es[i]? = some (es[i].1,.ref a'):=by rw[eg,<- e1]
   clear eg;generalize es[i].1=h' at *;have tail:k'=k->Q (.there none) s:=λc=>yes ⟨i,ies,c ▸ hent⟩
   cases hl:t.led
   ·simp only[QW,if_true]
    refine we (U0 hx _ unseen ?_);simp only[w6,if_false];rw[eg'];dsimp only;refine we (vC (wpAny_eqBool_tuple hu e2 hx ?_));refine we (V0 ho hd hfit ?_);dsimp only
    by_cases c:k'=k
    ·rw[decide_eq_true c]
     exact wo (tail c)
    ·rw[decide_eq_false c,hsm]
     simp only[Q0,w6,if_false,if_true];rw[hsl];dsimp only;rw[eg'];dsimp only;refine we (wpAny_isSame_ref_self ?_);refine we (wo ?_);simp only[if_true];exact next c
   ·simp only[WG,w6,if_false]
    rw[eg'];dsimp only;refine we (vC (wpAny_eqBool_tuple hu e2 hx ?_));refine we (V0 ho hd hfit ?_);dsimp only
    by_cases c:k'=k
    ·rw[decide_eq_true c]
     exact wo (tail c)
    ·rw[decide_eq_false c,hsm]
     simp only[Q0,w6,if_false,if_true];rw[hsl];dsimp only;rw[eg'];dsimp only;refine we (wpAny_isSame_ref_self ?_);refine we (wo ?_);simp only[if_true];exact next c
  ·generalize hP:t.probe _ (vc knd k) (way t.mask (start t.mask (vc knd k)) n)=P
   have eP:=hP.symm.trans e;rw[eP];dsimp only;refine wo (no λi hi hent=>?_);have hi':i<t.place.size:=by rw[hsz];exact hi
   obtain⟨m,p1,p2⟩:=b.path i hi'
   have hh:(es.toList.map (·.1)).getD i 0=vc knd k:=by
    obtain⟨_,_,_,e3,_⟩:=hent;rw[wa,wu,WJ,Wg hi];exact e3
   rw[hh]at p1 p2;rcases wz m n0 with q | q
   ·rcases wz m n with q' | q'
    ·exact hno m q' i hi p1.symm hent
    ·refine a1 m q' q i hi' p1.symm ?_
     show(es[i]?.map (·.1)).getD 0=_
     rw[Wg hi];obtain⟨_,_,_,e3,_⟩:=hent;exact e3
   ·rcases Vn q with q' | q'
    ·subst q';exact hE ⟨i,hi',p1.symm⟩
    ·exact hE (p2 n0 q')
theorem zvR{α : Type}(l:List α)(p:Nat)(x : α):(d6 l p x).Perm (x::l):=by
 unfold d6;refine List.perm_middle.trans (List.Perm.cons x ?_);rw[Xb]
theorem s_{h g:wH}{k:List K}{a:wf}(x:vL knd h k a)(e:∀o,h.get? a=some o->g.get? a=some o):vL knd g k a:=by
 obtain⟨o,its,n,h1,r⟩:=x;exact⟨o,its,n,e o h1,r⟩
theorem RB{h g:wH}{k:List K}{a d:wf}{o:Obj}{es:Array (Int × wg)}{ep:Nat}{t:WD}(x:vL knd h k a)(ho:h.get? d=some o)(hd:o.data=.set es ep t)(hs:vn d h g):vL knd g k a:=by
 refine s_ x λu eu=>(hs.2 a λad=>?_).trans eu
 obtain⟨u',_,_,e1,_,e2,_⟩:=x;rw[ad,ho]at e1;cases e1;rw[hd]at e2;cases e2
def fX(knd:KeyKind prog w K)(U:wf->List K->Prop)(h:wH)(es:List (Int × wg))(ks:List (List K)):Prop:=es.length=ks.length /\ ∀(i:Nat)(e:Int × wg)(k:List K),es[i]? = some e->ks[i]? = some k->Ent knd U h e k
def TS(knd:KeyKind prog w K)(U:wf->List K->Prop)(h:wH)(a:wf)(led:Bool)(ks:List (List K)):Prop :=
 ∃o es ep t,h.get? a=some o/\o.ExactSet/\o.data=.set es ep t/\Tb t (es.toList.map (·.1))/\es.size*5<t.mask*3/\(t.mask<=7\/t.mask<=8*es.size)/\t.led=led/\t.plain=true/\fX knd U h es.toList ks/\ks.Nodup
theorem zuS(hv:∀k v,knd.is k v=true->∃i t,v=.int i t){x:wf}{k:List K}(hx:vL knd s.heap k x){Q:Bool->wl->Prop}(q:Q true s):wq (model prog w) A (hashByValue 8 (.ref x)) Q E s:=by
 have hT:=hx.typeIs;obtain⟨o,items,n,ho,hc,hd,hi⟩:=hx
 have hints:∀{ks:List K}{vs:List wg},ItemsAre knd ks vs->∀v∈vs,∃i t,v=.int i t:=λh=>by
  induction h with
  | nil=>intro v hv;simp at hv
  | cons h1 _ ih =>
   intro v hm;rcases wQ.mp hm with rfl | hm
   ·exact hv _ _ h1
   ·exact ih v hm
 unfold hashByValue;refine we (qr hT qA.lookup ?_);dsimp only;refine we (Wi ho hd ?_);refine we ?_
 show wq _ _ (forIn items _ _) _ _ s
 rw[<- VI];refine qd _ (λck r s'=>r.1=none/\s'=s /\ ∀v∈ck,∃i t,v=.int i t) _ ?_ ?_ _ _ ⟨rfl,rfl,hints hi⟩
 ·rintro v ck r s' ⟨hr,rfl,hall⟩
  obtain⟨i,t,rfl⟩:=hall v wC
  show wq _ _ (pure true >>= _) _ _ _
  refine we (wo ?_);simp only[WG,w6,if_false];exact wo ⟨rfl,rfl,λu hu'=>hall u (wy _ hu')⟩
 ·rintro ⟨r1,r2⟩ s' ⟨hr,rfl,_⟩
  simp only at hr;subst hr;exact wo q
theorem zwY{α β : Type}(f : α -> β)(l:List α)(p:Nat)(x : α):(d6 l p x).map f=d6 (l.map f) p (f x):=by
 unfold d6;rw[vx,vb,Ut,Xw]
theorem LR{α : Type}(d : α)(es:Array α):∀l:List Nat,(∀i∈l,i<es.size)->l.filterMap (λi=>es[i]?)=l.map λi=>es.toList.getD i d
 | [],_=>rfl
 | i::l,h=>by
  have hi:=h i (wC ..);rw[qY,Wg hi,vb,LR d es l λj hj=>h j (wy _ hj)];dsimp only;rw[wa,WJ,Wg hi]
  rfl
theorem zvQ{α : Type}(d : α)(l:List α):(wx l.length).map (λi=>l.getD i d)=l:=by
 refine WM (by simp) λi h1 h2=>?_
 rw[WY,List.getElem_range,wa,wc h2]
 rfl
theorem fX.keeps{h h':wH}{es:List (Int × wg)}{ks:List (List K)}{d:wf}{o:Obj}{es0:Array (Int × wg)}{ep:Nat}{t:WD}(x:fX knd U h es ks)(ho:h.get? d=some o)(hd:o.data=.set es0 ep t)(hs:vn d h h'):fX knd U h' es ks :=
 ⟨x.1,λi e k h1 h2=>by obtain⟨a,e1,e2,e3⟩:=x.2 i e k h1 h2;exact⟨a,e1,RB e2 ho hd hs,e3⟩⟩
theorem fX.ins{h:wH}{es:List (Int × wg)}{ks:List (List K)}(x:fX knd U h es ks){p:Nat}(hp:p<=ks.length){e:Int × wg}{k:List K}(c:Ent knd U h e k):fX knd U h (d6 es p e) (d6 ks p k):=by
 have hp':p<=es.length:=by rw[x.1];exact hp
 refine⟨by rw[pj e hp',pj k hp,x.1],λi e' k' h1 h2=>?_⟩;rw[yc e hp']at h1;rw[yc k hp]at h2
 split at h1
 ·rename_i a;rw[if_pos a]at h2;exact x.2 i e' k' h1 h2
 ·rename_i a;rw[if_neg a]at h2
  split at h1
  ·rename_i b;rw[if_pos b]at h2
   cases h1;cases h2;exact c
  ·rename_i b;rw[if_neg b]at h2;exact x.2 (i-1) e' k' h1 h2
theorem fX.ord{h:wH}{es:List (Int × wg)}{ks:List (List K)}(x:fX knd U h es ks){l:List Nat}(hl:∀i∈l,i<es.length):fX knd U h (l.map λi=>es.getD i (0,.none)) (l.map λi=>ks.getD i []):=by
 refine⟨by simp,λi e' k' h1 h2=>?_⟩;rw[wu]at h1 h2;cases hi:l[i]? with
 | none=>rw[hi]at h1;cases h1
 | some j =>
  rw[hi]at h1 h2;cases h1;cases h2;have hj:j<es.length:=hl j (Xl hi);have hj':j<ks.length:=by rw[<- x.1];exact hj
  refine x.2 j _ _ ?_ ?_
  ·dsimp only;rw[wa,wc hj];rfl
  ·dsimp only;rw[wa,wc hj'];rfl
theorem NK{h:wH}{a:wf}{o:Obj}{es:Array (Int × wg)}{ep:Nat}{t:WD}(ho:h.get? a=some o)(hd:o.data=.set es ep t)(es':Array (Int × wg))(t':WD) :
  (h.update a (xx es' t')).get? a=some {o with data:=.set es' (ep+1) t'}:=by
 have:=Vh (xx es' t') ho (by rw[putSet_of es' t' hd];rfl);rw[putSet_of es' t' hd]at this;exact this
theorem zwj{a:wf}{o:Obj}{es:Array (Int × wg)}{ep:Nat}{t:WD}{ks:List (List K)}(ho:s.heap.get? a=some o)(hex:o.ExactSet)(hd:o.data=.set es ep t)(b:Tb t (es.toList.map (·.1)))(hpl:t.plain=true)
  (hk:fX knd U s.heap es.toList ks) (hnd:ks.Nodup) (h1:1<=es.size) (hz:es.size<=1000) {Q:Unit->wl->Prop} (q:∀h' ks',vn a s.heap h'->TS knd U h' a t.led ks'->ks'.Perm ks->Q () {s with heap:=h'}) :
  wq (model prog w) A (setRelay a (Xi es.size)) Q E s:=by
 have hfit:t.fits es.size=true:=by have:=b.fits;rwa[wm,wO]at this
 have hg:Xi es.size=4*es.size:=by unfold Xi;rw[if_neg (by lia),Qm]
 obtain⟨k2,k3,s1,s2,s3⟩:=zC0 (n:=es.size) h1 (by lia);unfold setRelay;rw[hg];refine we (V0 ho hd hfit ?_);dsimp only;rw[if_neg (by rw[qW];lia)];obtain⟨t2,ord,e2,m2,l2,p2,_,op,b2⟩:=zyA k3 s1 t.finger (t.movedTo (qm (4*es.size)-1)) t.led t.plain (hs:=es.map (·.1)) (by rw[Um];lia);rw[Um]at op;have olt:∀i∈ord.toList,i<es.size:=λi hi=>wI.mp (op.mem_iff.mp hi)
 have e2':t.relaid (es.map (·.1)) (4*es.size)=some (t2,ord):=e2;rw[e2']
 have fe:(ord.filterMap (λi=>es[i]?)).toList=ord.toList.map λi=>es.toList.getD i (0,.none):=by
  rw[Array.toList_filterMap];exact LR _ es _ olt
 have fz:(ord.filterMap (λi=>es[i]?)).size=es.size:=by
  rw[<- wO,fe,wm,op.length_eq,vy]
 refine we ?_
 show wq _ _ (if((ord.filterMap (λi=>es[i]?)).size != es.size)=true then(unsupported "internal:set-table-lost-an-element" >>= λ_=>pure (ord.filterMap (λi=>es[i]?),t2))else pure (ord.filterMap (λi=>es[i]?),t2)) _ _ _
 rw[if_neg (by rw[fz];simp)];refine wo ?_;refine wpAny_storeSet_of ho hd ?_ (by rw[fz,qW];lia);have hsb:=qZ s.heap a (xx (ord.filterMap (λi=>es[i]?)) t2);have hkk:fX knd U s.heap (ord.filterMap (λi=>es[i]?)).toList (ord.toList.map λi=>ks.getD i []):=by rw[fe];exact hk.ord λi hi=>by rw[wO];exact olt i hi
 have pm:(ord.toList.map λi=>ks.getD i []).Perm ks:=by
  have:=op.map (λi=>ks.getD i []);have hl:es.size=ks.length:=by rw[<- wO];exact hk.1
  rw[hl,zvQ]at this;exact this
 refine q _ (ord.toList.map λi=>ks.getD i []) hsb ⟨_,_,_,t2,NK ho hd _ t2,hex,rfl,?_,?_,?_,l2,p2.trans hpl,hkk.keeps ho hd hsb,pm.nodup_iff.mpr hnd⟩ pm
 ·rw[fe,WH]
  have:(ord.toList.map ((λx:Int × wg=>x.1) ∘ λi=>es.toList.getD i (0,.none)))=ord.toList.map λk=>(es.map (·.1)).toList.getD k 0:=by
   refine qf λi hi=>?_
   have:=olt i hi
   show(es.toList.getD i (0,.none)).1=_
   rw[wa,wa,Array.toList_map,wu,WJ,Wg this]
   rfl
  rw[this];exact b2
 ·rw[fz,m2];lia
 ·right;rw[fz,m2];lia
theorem YS(hv:∀k v,knd.is k v=true->∃i t,v=.int i t){a xa:wf}{k:List K}{led:Bool}{ks:List (List K)}(hu:A.units<WF)(hS:TS knd U s.heap a led ks)(hx:vL knd s.heap k xa)(hU:U xa k)(hz:ks.length+1<=1000)
  {Q:Bool->wl->Prop} (q:∀h' ks',vn a s.heap h'->TS knd U h' a led ks'->(k∈ks->ks'=ks)->(k ∉ ks->ks'.Perm (k::ks))->∀b,Q b {s with heap:=h'}) :
  wq (model prog w) A (setAddHashed a (.ref xa) (vc knd k)) Q E s:=by
 obtain⟨o,es,ep,t,ho,hex,hd,b,hfew,hmask,hled,hpl,⟨hkl,hke⟩,hnd⟩:=hS;rw[wO]at hkl;have hfit:t.fits es.size=true:=by have:=b.fits;rwa[wm,wO]at this
 have hsz:t.place.size=es.size:=by rw[b.size,wm,wO]
 have hent:∀i (h:i<es.size),Ent knd U s.heap es[i] (ks[i]'(by lia)):=λi h=>hke i _ _ (by rw[WJ,Wg h]) (wc _)
 unfold setAddHashed setAddHashedIn;refine vC (we (V0 ho hd hfit ?_));dsimp only;rw[show byScan (.ref xa) es=false from rfl];simp only[w6,if_false];obtain⟨n0,hf0,hE,hF⟩:=b.free (vc knd k);have hmm:t.mask<=8000:=by lia
 refine we (L9 hu hx ho hd b (λi h=>⟨_,hent i h⟩) n0 hE hF hf0 (λhy=>?yes) (λhn=>?no) 100000 0 none (Wu _) (by unfold Xh at hf0;lia) rfl (λm hm=>absurd hm (WV _)))
 case yes =>
  dsimp only;obtain⟨i,hi,he⟩:=hy;have hk:k∈ks:=by rw[he.inj (hent i hi)];exact vO _
  exact wo (q s.heap ks (ug a s.heap) ⟨o,es,ep,t,ho,hex,hd,b,hfew,hmask,hled,hpl,⟨by rw[wO];exact hkl,hke⟩,hnd⟩ (λ_=>rfl) (λh=>absurd hk h) _)
 case no =>
  dsimp only
  have hk:k ∉ ks:=λhm=>by
   obtain⟨i,hi,e⟩:=wX hm;exact hn i (by lia) (e ▸ hent i (by lia))
  refine we (V0 ho hd hfit ?_);dsimp only;obtain⟨k8,k3,kk⟩:=b.two
  have m7:7<=t.mask:=by
   have:2^3<=2^k8:=Xn (by decide) k3
   lia
  obtain⟨hp,tb⟩:=b.put hE hF (by rw[hsz];lia);rw[wm,wO,hkl]at hp;have q1:(t.put (way t.mask (start t.mask (vc knd k)) n0).j).1.plain=t.plain:=rfl;have q2:(t.put (way t.mask (start t.mask (vc knd k)) n0).j).1.led=t.led:=rfl;have q3:(t.put (way t.mask (start t.mask (vc knd k)) n0).j).1.mask=t.mask:=rfl;generalize (t.put (way t.mask (start t.mask (vc knd k)) n0).j).2=p at *;generalize (t.put (way t.mask (start t.mask (vc knd k)) n0).j).1=t1 at *;rw[if_pos (q1.trans hpl)];refine we (zuS hv hx ?_);simp only[if_true];have en:Ent knd U s.heap (vc knd k,.ref xa) k:=⟨xa,rfl,hx,rfl,hU⟩
  have hkk:fX knd U s.heap (Wv es p (vc knd k,.ref xa)).toList (d6 ks p k):=by
   rw[pR];exact fX.ins ⟨by rw[wO];exact hkl,hke⟩ hp en
  have tb':Tb t1 ((Wv es p (vc knd k,.ref xa)).toList.map (·.1)):=by
   rw[pR,zwY];exact tb
  have z1:(Wv es p (vc knd k,.ref xa)).size=es.size+1:=by
   rw[<- wO,pR,pj _ (by rw[wO,hkl];exact hp),wO]
  have pm:(d6 ks p k).Perm (k::ks):=zvR ks p k;have nd:(d6 ks p k).Nodup:=pm.nodup_iff.mpr (W3.mpr ⟨hk,hnd⟩);refine we (wpAny_storeSet_of ho hd ?_ (by rw[z1,qW];lia));have hsb:=qZ s.heap a (xx (Wv es p (vc knd k,.ref xa)) t1);have ho1:=NK ho hd (Wv es p (vc knd k,.ref xa)) t1
  have pz:t1.fill=es.size+1:=by
   unfold Ux;rw[tb'.mU,tb'.size,wm,wO,z1];rfl
  split
  ·refine we ?_
   have:=zwj (A:=A) (E:=E) (knd:=knd) (s:={s with heap:=s.heap.update a (xx (Wv es p (vc knd k,.ref xa)) t1)}) (ks:=d6 ks p k) ho1 hex rfl tb' (q1.trans hpl) (hkk.keeps ho hd hsb) nd (by rw[z1];lia) (by rw[z1];lia)
    (Q:=λ_ s'=>wq (model prog w) A (pure true) Q E s') λh' ks' sb ts pm'=>wo (q h' ks' (hsb.trans sb) (by rw[q2,hled]at ts;exact ts) (λh=>absurd h hk) (λ_=>pm'.trans pm) _)
   rw[z1]at this;exact this
  ·rename_i c
   have c:¬ t1.tooFull=true:=by simpa using c
   unfold SetTable.tooFull at c;rw[pz]at c;refine wo (q _ (d6 ks p k) hsb ⟨_,_,_,t1,ho1,hex,rfl,tb',?_,?_,q2.trans hled,q1.trans hpl,hkk.keeps ho hd hsb,nd⟩ (λh=>absurd h hk) (λ_=>pm) _)
   ·rw[z1]
    have:¬ t1.mask*3<=(es.size+1)*5:=by simpa using c
    lia
   ·rw[z1,q3];lia
end
section
variable{prog:wJ}{w:wM}{K:Type}[DecidableEq K]{knd:KeyKind prog w K}{U:wf->List K->Prop}
theorem TS.same{h g:wH}{S:wf}{led:Bool}{ks:List (List K)}(x:TS knd U h S led ks)(e:∀o,h.get? S=some o->g.get? S=some o)(f:∀k a,vL knd h k a->vL knd g k a):TS knd U g S led ks:=by
 obtain⟨o,es,ep,t,c1,c2,c3,c4,c5,c6,c7,c8,⟨d1,d2⟩,c9⟩:=x;refine⟨o,es,ep,t,e o c1,c2,c3,c4,c5,c6,c7,c8,⟨d1,λi y k y1 y2=>?_⟩,c9⟩;obtain⟨a,z1,z2,z3⟩:=d2 i y k y1 y2;exact⟨a,z1,f k a z2,z3⟩
theorem TS.new{h:wH}{S:wf}{led:Bool}(e:h.get? S=some {cls:=.type "set",dict:=none,data:=.set #[] 0 (.fresh 0 0 led)}):TS knd U h S led [] :=
 ⟨_,#[],0,_,e,⟨rfl,rfl,rfl⟩,rfl,⟨λi j _ hj=>absurd hj (WV _),rfl,rfl,⟨3,wp _,rfl⟩,λi hi=>absurd hi (WV _),Wu _,λi hi=>absurd hi (WV _)⟩,(by show 0*5<7*3;decide),.inl (wp _),rfl,rfl,⟨rfl,λi y k y1=>by simp at y1⟩,List.nodup_nil⟩
variable{A:wW}{R:Result->wl->Prop}{I:wf}{fp wr:List wf}{G:Array GenState->Array GenState->Prop}{n:Nat}{P:Nat->wg->Prop}{St:Nat->wl->Prop}
theorem zCz(hv:∀k v,knd.is k v=true->∃i t,v=.int i t)(W:WalksS prog w A.in1 I fp wr G n P St){S:wf}(hSf:S ∉ fp)(hu:A.units+1<WF){led:Bool}{key:Nat->List K}{ad:Nat->wf}
  (hval:∀i v,P i v->v=.ref (ad i)) (hI:∀i s a k,St i s->vL knd s.heap k a->a ∉ wr) (hn:n<=999) (hU:∀j,j<n->U (ad j) (key j)) :
  ∀(c i:Nat)(s:wl)(ks:List (List K)),n-i=c->i<=n->St i s->(∀j,j<n->vL knd s.heap (key j) (ad j))->TS knd U s.heap S led ks->(∀x,x∈ks ↔ ∃j,j<i/\key j=x)->ks.length<=i ->
   (∀s' ks',Moved (S::wr) G s s'->(∀k a,vL knd s.heap k a->vL knd s'.heap k a)->TS knd U s'.heap S led ks'->(∀x,x∈ks' ↔ ∃j,j<n/\key j=x)->R (.ok (.ret .none)) s') ->
   codeAny (model prog w) A (.builtin "set.update.loop" ⟨[.ref S,.ref I],[]⟩) R s:=by
 have nw:S ∉ wr:=λx=>hSf (W.sub _ x)
 intro c
 induction c with
 | zero =>
  intro i s ks ec ei st ht hs hx hl r;obtain rfl:i=n:=by lia
  refine VQ Qn ?_;rw[V3 VJ _];refine we (m:=Vo (.ref I)) (W.done s _ _ st λs' mv=>?_);have f:∀k a,vL knd s.heap k a->vL knd s'.heap k a:=λk a x=>s_ x λo eo=>mv.heap a o (hI i s a k st x) eo
  exact wo (r s' ks (mv.mono λ_ q=>.tail _ q) f (hs.same (λo eo=>mv.heap S o nw eo) f) hx)
 | succ c ih =>
  intro i s ks ec ei st ht hs hx hl r;have lt:i<n:=by lia
  refine VQ Qn ?_;rw[V3 VJ _];refine we (m:=Vo (.ref I)) (W.item i s _ _ lt st λv s' pv st' mv=>?_);obtain rfl:=hval i v pv;have f:∀k a,vL knd s.heap k a->vL knd s'.heap k a:=λk a x=>s_ x λo eo=>mv.heap a o (hI i s a k st x) eo
  have hs':=hs.same (λo eo=>mv.heap S o nw eo) f;refine we (m:=holding [Value.ref (ad i)] (setAdd S (.ref (ad i)))) (vC ?_);unfold setAdd;refine vC (we (wpAny_pyHash_tuple (by exact hu) (f _ _ (ht i lt)) ?_));refine YS hv (s:={s' with toks:=s'.toks+((key i).length+1)}) (by exact hu) hs' (f _ _ (ht i lt)) (hU i lt) (by lia) λh2 ks2 sb ts2 y1 y2 b=>?_
  have so:=hs';obtain⟨o9,_,_,_,g1,_,g2,_⟩:=so;have f2:∀k a,vL knd s'.heap k a->vL knd h2 k a:=λk a x=>RB x g1 g2 sb
  have pI:∀x,x∈ks2 ↔ ∃j,j<i+1/\key j=x:=λx=>by
   have old:x∈ks2 ↔ x=key i\/x∈ks:=by
    by_cases d:key i∈ks
    ·rw[y1 d];exact⟨.inr,λq=>q.elim (λe=>e ▸ d) id⟩
    ·rw[(y2 d).mem_iff,wQ]
   rw[old,hx]
   constructor
   ·rintro (rfl | ⟨j,j1,j2⟩)
    ·exact⟨i,by lia,rfl⟩
    ·exact⟨j,by lia,j2⟩
   ·rintro ⟨j,j1,j2⟩
    rcases Vn (VX j1)with e | e
    ·subst e;exact .inl j2.symm
    ·exact .inr ⟨j,e,j2⟩
  have len2:ks2.length<=i+1:=by
   by_cases d:key i∈ks
   ·rw[y1 d];lia
   ·rw[(y2 d).length_eq,vo];lia
  refine wo ⟨plainId_quiet VJ _,ih (i+1) _ ks2 (by lia) lt (W.frame _ s' _ _ st' (WZ _ _) λz hz o e=>?_) (λj hj=>f2 _ _ (f _ _ (ht j hj))) ts2 pI len2 λs3 ks3 mv3 f3 ts3 m3=>?_⟩
  ·rw[sb.2 z (λq=>hSf (q ▸ hz))];exact e
  ·refine r s3 ks3 (Moved.trans W.gtrans ((mv.mono λ_ q=>.tail _ q).then_heap (WZ _ _) λz o hz e=>?_) mv3) (λk a x=>f3 k a (f2 k a (f k a x))) ts3 m3
   rw[sb.2 z (λq=>hz (q ▸ .head _))];exact e
end
def iL(led:Bool):Obj:={cls:=.type "set",dict:=none,data:=.set #[] 0 (.fresh 0 0 led)}
def fG(w:wM):Bool:=!(w.params.followText "set-order")
section
variable{prog:wJ}{w:wM}{K:Type}[DecidableEq K]{knd:KeyKind prog w K}{U:wf->List K->Prop}{A:wW}{E:wg->wl->Prop}{s:wl}
theorem Y3(x:wg){Q:wg->wl->Prop}(q:Q (.ref s.heap.objs.size) {s with heap:=s.heap.push (iL (fG w))}) :
  codeAny (model prog w) A (.call (.builtin "set.__new__") ⟨[.type "set",x],[]⟩) (wants Q E) s:=by
 refine codeAny_of_tree ?_;refine we (m:=checkBuiltinCall "set.__new__" ⟨[.type "set",x],[]⟩) (wpAny_of_eq (F.newCall_set_1 x) (wo ?_));refine⟨plainId_quiet Ub _,VQ F.entry_set_new ?_⟩;rw[V3 Ub _];unfold Builtin.«set.__new__» Uy;have sub:=sub_set_self;obtain⟨z1,z2,z3,z4,z5⟩:=s;dsimp only
 wp_walk
 refine wpAny_askSetting (wo ?_);dsimp only;simp only[newObj];exact we (wpAny_alloc (wo (wo q)))
set_option maxHeartbeats 3200000 in
theorem Th(hv:∀k v,knd.is k v=true->∃i t,v=.int i t){l:wf}{its:List wg}{key:Nat->List K}{ad:Nat->wf}(hh:A.handled=none)(hu:A.units+64<WF)(hl:s.heap.IsList l its.toArray)
  (hi:∀(i:Nat) v,its[i]? = some v->v=.ref (ad i)) (hk:∀i,i<its.length->vL knd s.heap (key i) (ad i)) (hn:its.length<=999) (hU:∀j,j<its.length->U (ad j) (key j)) {Q:wg->wl->Prop}
  (q:∀(g:wH)(tk:Nat)(ks:List (List K)),TS knd U g s.heap.objs.size (fG w) ks->(∀x,x∈ks ↔ ∃j,j<its.length/\key j=x)->(∀b o,s.heap.get? b=some o->g.get? b=some o)->Q (.ref s.heap.objs.size) {s with heap:=g,toks:=tk}) :
  wq (model prog w) A (call (.type "set") [.ref l]) Q E s:=by
 obtain⟨c1,c2,mro⟩:=qc.mro;have f1:=qc.made;have f2:=qc.sub;have f3:=qc.notType;have f4:=qc.canCreate;have f5:=F.typeCall_set_1 (.ref l);refine wpAny_call (codeAny_of_tree (show wq _ _ (callAny (.type "set") _) _ _ _ from ?_));refine wo ⟨Code.quiet_builtin _ (by decide +kernel),VQ F.entry_type_call ?_⟩;rw[Around.under_plain (weight_type_call_type "set" [.ref l] []) rfl]
 repeat(any_goals(first | assumption | wp_step))
 have nd:=Y3 (prog:=prog) (w:=w) (A:=A.in1) (E:=E) (s:=s) (.ref l) (Q:=λv s1=>v=.ref s.heap.objs.size/\s1 = {s with heap:=s.heap.push (iL (fG w))}) ⟨rfl,rfl⟩;refine qJ nd λr s1 hr=>?_
 cases r with
 | error e=>exact hr
 | ok fl =>
  cases fl with
  | ret obj =>
   obtain⟨rfl,rfl⟩:=hr;have gS:(s.heap.push (iL (fG w))).get? s.heap.objs.size=some (iL (fG w)):=wP _ rfl;have tS:Shared.TypeIs {s with heap:=s.heap.push (iL (fG w))} (.ref s.heap.objs.size) "set":=⟨_,gS,rfl⟩;have g1:=qc.init.lookup;have g2:=qc.init.bind (.ref s.heap.objs.size)
   repeat(any_goals(first | assumption | wp_step))
   refine qJ (codeAny_call_builtin (R:=wants (λv s2=>v=.none /\ ∃g tk ks,s2 = {s with heap:=g,toks:=tk}/\TS knd U g s.heap.objs.size (fG w) ks/\(∀x,x∈ks ↔ ∃j,j<its.length/\key j=x) /\ ∀b o,s.heap.get? b=some o->g.get? b=some o) E)
    qc.init.plain F.entry_set_init (check_set_init_1 tS ?_)) λr2 s2 hr2=>?_
   ·obtain⟨ol,e1,e2,nl,e3⟩:=hl
    obtain⟨y1,y2,y3,y4⟩:=ol;dsimp only at e2 e3;subst e2;subst e3;have gl:(s.heap.push (iL (fG w))).get? l=some {cls:=.type "list",dict:=y2,data:=.seq its.toArray nl,slots:=y4}:=wn _ e1;have n1:=F.sub_list_set;have n2:=F.sub_list_frozenset;have n3:(Value.type "list" == Value.type "dict")=false:=by decide
    have il:(s.heap.push (iL (fG w))).IsList l its.toArray:=⟨_,gl,rfl,nl,rfl⟩;unfold Builtin.«set.__init__» noKeywords Uo;generalize hPI:pyIter=PI
    wp_walk
    subst hPI;refine VZ il ?_;refine we (wpAny_runValue ?_);have ls:l<s.heap.objs.size:=wA e1;have zs:(s.heap.push (iL (fG w))).objs.size=s.heap.objs.size+1:=Vl ..;have ne:l≠(s.heap.push (iL (fG w))).objs.size:=by rw[zs];exact wL (W2 ls)
    have nf:s.heap.objs.size ∉ [(s.heap.push (iL (fG w))).objs.size,l]:=by
     rw[zs];intro hm;rcases wQ.mp hm with e | hm
     ·exact absurd e (wL (Nat.lt_succ_self _))
     ·rcases wQ.mp hm with e | hm
      ·exact absurd e (vi ls)
      ·cases hm
    have kp:∀b o,s.heap.get? b=some o->((s.heap.push (iL (fG w))).push {cls:=.type "list_iterator",data:=.fields #[.ref l,.int 0 0]}).get? b=some o:=λb o e=>wn _ (wn _ e)
    refine zCz hv ((u8 (by simp[hh]) _ l ne its.toArray).toS) (S:=s.heap.objs.size) nf (by show A.units+1+1+1<_;lia) (led:=fG w) (key:=key) (ad:=ad)
     (λi v hp=>hi i v (by simpa using hp)) ?hI (by simpa using hn) (λj hj=>hU j (by simpa using hj)) (its.toArray.size-0) 0 _ [] rfl (Wu _) ⟨⟨_,wP _ rfl,rfl,rfl⟩,il.push _⟩
     (λj hj=>s_ (hk j (by simpa using hj)) λo eo=>kp _ o eo) (TS.new (wn _ gS)) (λx=>⟨λh=>absurd h qP,λ⟨j,j1,_⟩=>absurd j1 (WV _)⟩) (wp _) ?fin
    case hI =>
     intro i s9 a9 k9 st9 x9 hm;obtain⟨⟨o8,u1,u2,_⟩,_⟩:=st9;obtain⟨o9,_,_,v1,v2,_⟩:=x9;rcases wQ.mp hm with e | hm
     ·subst e
      rw[u1]at v1;cases v1;rw[u2]at v2;exact absurd (Value.type.inj v2) (by decide)
     ·cases hm
    case fin =>
     intro s9 ks9 mv f9 ts9 m9;obtain⟨g,x1,x2,x3,x4⟩:=s9;obtain rfl:x1=s.gens:=mv.gens;obtain rfl:x2=s.drawn:=mv.drawn;obtain rfl:x4=s.os:=mv.os;refine wo (wo ⟨rfl,g,x3,ks9,rfl,ts9,by simpa using m9,λb o e=>?_⟩);have lb:b<s.heap.objs.size:=wA e;refine mv.heap b o (λhm=>?_) (kp b o e);rcases wQ.mp hm with e' | hm
     ·exact absurd e' (wL lb)
     ·rcases wQ.mp hm with e' | hm
      ·rw[zs]at e';exact absurd e' (wL (W2 lb))
      ·cases hm
   ·cases r2 with
    | error e=>exact hr2
    | ok fl2 =>
     cases fl2 with
     | ret v =>
      obtain⟨rfl,g,tk,ks,rfl,a1,a2,a3⟩:=hr2
      repeat(any_goals(first | assumption | wp_step))
      exact q g tk ks a1 a2 a3
     | _=>exact hr2.elim
  | _=>exact hr.elim
end
end TB
namespace TB
open PySem PySem.W PyProof.Rows
inductive Bc{α : Type}(n:Nat)(φ : α -> Prop):KasT α -> Prop
 | ret {a : α} : φ a->Bc n φ (.ret a)
 | ask {i j:Nat} {k:Bool->KasT α} : i<n->j<n->(∀b,Bc n φ (k b))->Bc n φ (.ask i j k)
section
variable{n:Nat}(h1:1<=n)
include h1
end
section
variable{prog:wJ}{w:wM}{A:wW}{E:wg->wl->Prop}{s:wl}
end
structure rX(w:wM)(h:wH)(a:wf)(es:Array (Int × wg))(ep:Nat)(t:WD):Prop where
 at':∃o,h.get? a=some o/\o.ExactSet/\o.data=.set es ep t
 fits:t.fits es.size=true
 size:t.place.size=es.size
 jd:jP t.place
 plain:t.plain=true
 led:t.led=fG w
 b8:es.size<=4000
theorem rX.same{w:wM}{h g:wH}{a:wf}{es:Array (Int × wg)}{ep:Nat}{t:WD}(x:rX w h a es ep t)(e:∀o,h.get? a=some o->g.get? a=some o):rX w g a es ep t :=
 ⟨let ⟨o,h1,r⟩:=x.at';⟨o,e o h1,r⟩,x.fits,x.size,x.jd,x.plain,x.led,x.b8⟩
section
variable{prog:wJ}{w:wM}{A:wW}{E:wg->wl->Prop}{s:wl}{a:wf}{es:Array (Int × wg)}{ep:Nat}{t:WD}
end
section
variable{prog:wJ}{w:wM}{A:wW}{E:wg->wl->Prop}{s:wl}{a it:wf}{es:Array (Int × wg)}{ep:Nat}{t:WD}{i:Nat}
end
section
variable{prog:wJ}{w:wM}{A:wW}{E:wg->wl->Prop}{s:wl}
end
end TB
namespace L2
open PySem PySem.Spec PyProof.Rows GM
def mj(w:wM)(a:wf)(ws:List V):HO:=.ext λh=>∃es ep t,TB.rX w h a es ep t/\aP ws (es.toList.map (·.2))
def Ez(K:wb)(H:Hp)(v:V)(k:List Int):Prop:=∃q,v=.ref q/\aR K H q (k.map V.int)
theorem items_int{P:wJ}{w:wM} : ∀{us:List wg}{ns:List Int},IntsAre us ns->ItemsAre (intKind P w) ns us
 | _,_,.nil=>.nil
 | _,_,.cons n t r=>.cons (by show Q1 n (Value.int n t)=true;simp[Q1]) (items_int r)
theorem U3{P:wJ}{w:wM}(k:Int)(v:wg)(h:(intKind P w).is k v=true):∃i t,v=.int i t:=by
 have h:Q1 k v=true:=h;cases v with
 | int i t=>exact⟨i,t,rfl⟩
 | _=>exact absurd h (by simp[Q1])
theorem Inv.key{X:Cx}{pins:List (wf × Obj)}{σ : List (Option V)}{H:Hp}{s:wl}(I:Inv X pins σ H s){q:wf}{k:List Int}(h:aR X.K H q (k.map V.int)):vL (intKind X.prog X.w) s.heap k q:=by
 obtain⟨its,r,⟨o,e,hc,n,hd⟩,_⟩:=I.tuple h;exact⟨o,its.toArray,n,e,hc,hd,items_int (Cv r)⟩
def ny(K:wb)(w:wM):List V->Hp->VK->Prop:=λxs H Q=>∃(p:wf)(vs:List V)(key:Nat->List Int),xs=[.ref p]/\aI K H p vs/\vs.length<=999/\(∀j v,vs[j]? = some v->Ez K H v (key j)) /\
 ∀(l:wf)(ws:List V)(ks:List (List Int)),H l=none->ws.length=ks.length->(∀(i:Nat)(v:V)(k:List Int),ws[i]? = some v->ks[i]? = some k->Ez K H v k)->ks.Nodup->(∀x,x∈ks ↔ ∃j,j<vs.length/\key j=x) ->
  Q (.ref l) (upd H l (mj w l ws))
theorem tZ:∀{ws:List V}{us:List wg},aP ws us->∀{i:Nat}{q:wf},ws[i]? = some (.ref q)->us[i]? = some (.ref q)
 | _,_,.nil,i,q,h=>by simp at h
 | _,_,.cons r1 r2,0,q,h=>by
  simp only[List.getElem?_cons_zero,xo]at h ⊢;subst h;exact r1
 | _,_,.cons r1 r2,i+1,q,h=>by
  simp only[xK]at h ⊢;exact tZ r2 h
def Ag:wg->V
 | .ref a=>.ref a
 | _=>.bG
theorem Oa:∀(us:List wg),(∀u∈us,∃a,u=.ref a)->aP (us.map Ag) us
 | [],_=>.nil
 | u::us,h=>by
  obtain⟨a,rfl⟩:=h u (wC ..);exact .cons rfl (Oa us λu hu=>h u (wy _ hu))
theorem zoS(es:List (Int × wg))(h:∀e∈es,∃a,e.2=.ref a):aP (es.map λe=>Ag e.2) (es.map (·.2)):=by
 have:=Oa (es.map (·.2)) λu hu=>by
  obtain⟨e,he,rfl⟩:=wS.mp hu;exact h e he
 rwa[WH]at this
theorem mK{α : Type}[DecidableEq α]:∀{ks l:List α},ks.Nodup->(∀x∈ks,x∈l)->ks.length<=l.length
 | [],l,_,_=>Wu _
 | k::ks,l,h,hs=>by
  rw[W3]at h;have hk:=hs k (wC ..);have:=mK (l:=l.erase k) h.2 λx hx=>(Xr (λe=>h.1 (by rw[<- e];exact hx))).mpr (hs x (wy _ hx))
  rw[xF hk]at this;have:=qt hk;rw[vo]
  lia
theorem Ca{X:Cx}(hu:X.A.units+64<WF)(hc:X.calm=true):aK X (.type "set") (ny X.K X.w):=by
 intro pins s σ H xs us Q I r h;obtain⟨p,vs,key,rfl,hq,hn,hk,q⟩:=h;obtain⟨u,rfl,rx⟩:=fT r;cases rx;obtain⟨its,r',pl,hz⟩:=I.list hq;have hlen:=r'.length
 have hx:∀j:Nat,∃ad:wf,∀v,vs[j]? = some v->v=.ref ad/\aR X.K H ad ((key j).map V.int):=λj=>by
  cases e:vs[j]? with
  | none=>exact⟨0,λv h=>by cases h⟩
  | some v =>
   obtain⟨ad,h1,h2⟩:=hk j v e;exact⟨ad,λv' h=>by cases h;exact⟨h1,h2⟩⟩
 obtain⟨ad,had⟩:∃ad:Nat->wf,∀j v,vs[j]? = some v->v=.ref (ad j)/\aR X.K H (ad j) ((key j).map V.int):=⟨λj=>(hx j).choose,λj=>(hx j).choose_spec⟩;have hg:∀j,j<its.length->∃v,vs[j]? = some v:=λj hj=>⟨vs[j]'(by lia),wc _⟩
 refine TB.Th (knd:=intKind X.prog X.w) (U:=λa k=>aR X.K H a (k.map V.int)) U3 (key:=key) (ad:=ad) (I.ok.hd hc) hu pl.isList (λj v hv=>?_) (λj hj=>?_) (by lia) (λj hj=>?_) λg tk ks hS hm kp=>?_
 ·obtain⟨v',hv'⟩:=hg j (by rcases wz j its.length with h | h;exact h;rw[wE h]at hv;cases hv)
  obtain⟨rfl,_⟩:=had j v' hv';have:=tZ r' hv';rw[hv]at this;exact wK this
 ·obtain⟨v',hv'⟩:=hg j hj
  exact I.key (had j v' hv').2
 ·obtain⟨v',hv'⟩:=hg j hj
  exact(had j v' hv').2
 ·obtain⟨o,es,ep,t,e1,e2,e3,e4,e5,e6,e7,e8,e9,e10⟩:=hS
  obtain⟨f1,f2⟩:=e9
  have kl:ks.length<=999:=Wk (mK e10 (l:=(wx its.length).map key) λx hx=>by
   obtain⟨j,h1,h2⟩:=(hm x).mp hx;exact wS.mpr ⟨j,wI.mpr h1,h2⟩) (by rw[wm,vy];lia)
  have hz':es.size=ks.length:=by rw[<- f1,wO]
  have hr:∀e∈es.toList,∃a,e.2=.ref a:=λe he=>by
   obtain⟨i,hi⟩:=Xd.mp he;obtain⟨k,hk'⟩:∃k,ks[i]? = some k:=⟨_,wc (by rw[<- f1];exact(WU.mp hi).1)⟩;obtain⟨a,h1,_⟩:=f2 i e k hi hk';exact⟨a,h1⟩
  refine⟨.ref s.heap.objs.size,_,I.laid (t':=tk) kp (wp _) (show dA X.prog X.w _ _ _ (mj X.w s.heap.objs.size (es.toList.map λe=>Ag e.2))from⟨⟨es,ep,t,⟨⟨o,e1,e2,e3⟩,?_,?_,e4.jd,e8,e7,by lia⟩,?_⟩,⟨o,e1⟩,?_⟩),rfl,
   q _ _ ks (I.aF.fresh (wp _)) (by rw[wm];exact f1) (λi v k hv hk'=>?_) e10 λx=>by rw[hlen];exact hm x⟩
  ·have:=e4.fits
   rwa[wm,wO]at this
  ·rw[e4.size,wm,wO]
  ·exact zoS _ hr
  ·rintro h1 h2 ⟨es',ep',t',a1,a2⟩ hh
   exact⟨es',ep',t',a1.same hh,a2⟩
  ·rw[wu]at hv
   cases e:es.toList[i]? with
   | none=>rw[e]at hv;cases hv
   | some x =>
    rw[e]at hv;cases hv;obtain⟨a,h1,_,_,h2⟩:=f2 i x k e hk';exact⟨a,by show Ag x.2=_;rw[h1];rfl,h2⟩
def nv(w:wM):List V->Hp->VK->Prop:=λxs H Q=>∃(p:wf)(ws:List V),xs=[.ref p]/\H p=some (mj w p ws)/\Q (.int (ws.length:Int)) H
theorem Fc{X:Cx} : aK X (.builtin "len") (nv X.w):=by
 intro pins s σ H xs us Q I r h;obtain⟨p,ws,rfl,hp,q⟩:=h;obtain⟨u,rfl,rx⟩:=fT r;cases rx;obtain⟨⟨es,ep,t,y,r'⟩,_,_⟩:=I.aF p _ hp;obtain⟨o,h1,h2,h3⟩:=y.at';have hl:ws.length=es.size:=by have:=r'.length;simpa using this
 have:=y.b8;exact PySem.call_len_set h1 h2 h3 y.fits (by lia) ⟨.int (ws.length:Int),H,I.tok _,⟨s.toks+1,by rw[hl]⟩,q⟩
end L2
namespace TB
open PySem PySem.W PyProof.Rows MeetsSeq
section
variable{prog:wJ}{w:wM}{A:wW}{s:wl}{R:Result->wl->Prop}
end
end TB
namespace L2
open PySem PySem.Spec PyProof.Rows GM
section
variable{K:wb}{w:wM}{H H':Hp}{Q:VK}{v:V}{p l:wf}{xs ys:List Rat}{us ws:List V}
theorem OV{r:Rat} : Is K H v (N r) ↔ Ez K H v [r.num,(r.den:Int)]:=kW
theorem MQ{r s:Rat}(h:([r.num,(r.den:Int)]:List Int)=[s.num,(s.den:Int)]):r=s:=by
 simp only[u4,and_true]at h;exact Uk h.1 (by lia)
theorem NC:∀(ks:List (List Int)),(∀k∈ks,∃r:Rat,k=[r.num,(r.den:Int)])->∃ys:List Rat,ks=ys.map λr=>[r.num,(r.den:Int)]
 | [],_=>⟨[],rfl⟩
 | k::ks,h=>by
  obtain⟨r,rfl⟩:=h k (wC ..);obtain⟨ys,rfl⟩:=NC ks λk hk=>h k (wy _ hk)
  exact⟨r::ys,rfl⟩
theorem NZ:∀{ws:List V}{ys:List Rat},ws.length=ys.length->(∀(i:Nat)(v:V)(r:Rat),ws[i]? = some v->ys[i]? = some r->Is K H v (N r))->ao K H ws (ys.map N)
 | [],[],_,_=>.nil
 | [],_::_,h,_=>absurd h (by simp)
 | _::_,[],h,_=>absurd h (by simp)
 | v::ws,y::ys,h,hh=>.cons (hh 0 v y rfl rfl) (NZ (by simpa using h) λi v r h1 h2=>hh (i+1) v r (by simpa using h1) (by simpa using h2))
theorem Yq(h:Is K H v (LN xs))(hn:xs.length<=999)(q:∀(l:wf)(H':Hp)(ws:List V)(ys:List Rat),H l=none->ah H H'->H' l=some (mj w l ws)->ao K H' ws (ys.map N)->ys.Nodup->(∀y,y∈ys ↔ y∈xs)->Q (.ref l) H'):ny K w [v] H Q:=by
 obtain⟨p,vs,rfl,hs,t⟩:=cu.mp h;have hl:=t.length;rw[wm]at hl;refine⟨p,vs,λj=>[(xs.getD j 0).num,((xs.getD j 0).den:Int)],rfl,hs,by lia,λj v hv=>OV.mp (dM t hv).2,λl ws ks h1 h2 h3 h4 h5=>?_⟩
 obtain⟨ys,rfl⟩:=NC ks λk hk=>by
  obtain⟨j,_,e⟩:=(h5 k).mp hk;exact⟨_,e.symm⟩
 have S:ah H (upd H l (mj w l ws)):=ah.upd h1;rw[wm]at h2;refine q l _ ws ys h1 S cT (NZ h2 λi v r hv hr=>(OV.mpr (h3 i v _ hv (by rw[wu,hr];rfl))).by S) ?_ λy=>?_
 ·unfold List.Nodup at h4 ⊢
  rw[qz]at h4;exact h4.imp λ{a b} h e=>h (by rw[e])
 ·have:=h5 [y.num,(y.den:Int)]
  constructor
  ·intro hy
   obtain⟨j,hj,e⟩:=this.mp (wS.mpr ⟨y,hy,rfl⟩);rw[<- MQ e];exact cU (by lia)
  ·intro hy
   obtain⟨j,hj,e⟩:=wX hy;obtain⟨r,hr,er⟩:=wS.mp (this.mpr ⟨j,by lia,by show [(xs.getD j 0).num,((xs.getD j 0).den:Int)]=_;rw[wa,wc hj,QC,e]⟩);rw[<- MQ er];exact hr
end
end L2
namespace GM
def NM(c:Int)(u:List Int):Nat->Int->Int
 | 0,p=>p
 | k+1,p=>if c<=p then p else NM c u k (p+u.getD p.toNat 0)
def U8(n:Nat)(t:List Int):Prop:=∃a b d:Nat,t=[(a:Int),(b:Int),(d:Int)]/\a<n/\b<n/\a≠b/\d<=4
structure zDn(rs:List Int)(us ts:List (List Int)):Prop where
 n1:1<=rs.length
 n8:rs.length<=8
 r:∀r∈rs,1<=r/\r<=60
 ul:us.length=rs.length
 u:∀i,i<rs.length->((us.getD i []).length:Int)=rs.getD i 0 /\ ∀x∈us.getD i [],0<=x/\x<=60
 tl:ts.length<=60
 t:∀t∈ts,U8 rs.length t
 nd:ts.Nodup
def YL(g:List Nat)(w d:Nat)(t:List Int):Bool:=decide ((t.getD 0 0).toNat∈g)&&(decide (t.getD 1 0=(w:Int))&&decide (t.getD 2 0=(d:Int)))
def zC6(ts:List (List Int))(g:List Nat)(w d:Nat):Nat:=(ts.filter (YL g w d)).length
section
variable(rs:List Int)(us ts:List (List Int))(ps cs:List Int)
def Zq(g:List Nat)(w:Nat):Int:=NM (rs.getD w 0) (us.getD w []) ((cs.getD w 0).toNat+zC6 ts g w 0) (ps.getD w 0+1)
def fresh(g:List Nat):List Nat:=(wx rs.length).filter λw=>!decide (w∈g)&&decide (rs.getD w 0<=Zq rs us ts ps cs g w)
def CH:Nat->List Nat->List (List Nat)
 | 0,_=>[]
 | f+1,g=>if fresh rs us ts ps cs g=[]then []else fresh rs us ts ps cs g::CH f (g++fresh rs us ts ps cs g)
def Fb:Nat->List Nat->List Nat
 | 0,g=>g
 | f+1,g=>if fresh rs us ts ps cs g=[]then g else Fb f (g++fresh rs us ts ps cs g)
end
section
variable{rs:List Int}{us ts:List (List Int)}{ps cs:List Int}
structure zDh(n:Nat)(g:List Nat):Prop where
 nd:g.Nodup
 lt:∀w∈g,w<n
end
section
variable(rs:List Int)(us ts:List (List Int))(ps cs:List Int)
structure Run(f:Nat)(g:List Nat)(acc:List (List Nat)):Prop where
 go:zDh rs.length g
 fl:rs.length<f+g.length
 ws:acc++CH rs us ts ps cs f g=CH rs us ts ps cs 9 []
 ge:Fb rs us ts ps cs f g=Fb rs us ts ps cs 9 []
end
section
variable{rs:List Int}{us ts:List (List Int)}{ps cs:List Int}{f:Nat}{g:List Nat}{acc:List (List Nat)}
end
section
variable(rs:List Int)(us ts:List (List Int))(ps:List Int)(cm:List (List Int))
end
structure zDp(rs:List Int)(ps:List Int)(cm:List (List Int)):Prop where
 pl:ps.length=rs.length
 p:∀i,i<rs.length->0<=ps.getD i 0/\ps.getD i 0<rs.getD i 0
 cl:cm.length=4
 c:∀d,d<4->(cm.getD d []).length=rs.length /\ ∀i,i<rs.length->0<=(cm.getD d []).getD i 0/\(cm.getD d []).getD i 0<=240-60*(d:Int)
section
variable{rs:List Int}{us ts:List (List Int)}{ps:List Int}{cm:List (List Int)}
end
end GM
namespace L2
open PySem PySem.Spec PyProof.Rows GM
section
variable{K:wb}{H H':Hp}{Q:VK}{v:V}{rs ps:List Int}{us ts cm rows:List (List Int)}{m:Int}{ws:List (List Nat)}
end
theorem Fv{α : Type}{l:List α}{x : α}(d : α)(h:x∈l):∃i,i<l.length/\l.getD i d=x:=by
 obtain⟨i,hi,e⟩:=wX h;exact⟨i,hi,by rw[wa,wc hi];exact e⟩
theorem ZE{i:Nat}{te:TE}{ti:pZ}{D:cq}{σ : L2.St}{H:Hp}(h:∃x,σ[i]? = some (some x)/\te σ H λy H1=>ti x y H1 λz H2=>D.nx (σ.set i (some z)) H2):O1 i te ti D σ H:=h
theorem YZ{v:V}{P:V->Prop}{o:Option (Option V)}(h:o=some (some v))(q:P v):∃x,o=some (some x)/\P x:=⟨v,h,q⟩
theorem Y0{f:Int->Int->Int}{m n:Int}{H:Hp}{Q:VK}(q:Q (.int (f m n)) H):IW f (.int m) (.int n) H Q:=⟨m,n,rfl,rfl,q⟩
end L2
namespace TB
open PySem PySem.W PyProof.Rows
inductive dW{α β : Type}(R : α -> β -> Prop):List α -> List β -> Prop
 | nil:dW R [] []
 | cons {a : α} {b : β} {l:List α} {m:List β} : R a b->dW R l m->dW R (a::l) (b::m)
structure HV(prog:wJ)(w:wM)(K:Type)[DecidableEq K] where
 is:wH->K->wg->Prop
 hash:K->Int
 draws:K->Nat
 deep:Nat
 inj:∀{h:wH}{v:wg}{x y:K},is h x v->is h y v->x=y
 keeps:∀{h h':wH}{k:K}{v:wg}{d:wf}{o:Obj}{es ep},is h k v->h.get? d=some o->o.data=.dict es ep->vn d h h'->is h' k v
 pyHash:∀{A:wW}{E:wg->wl->Prop}{s:wl}{k:K}{v:wg}{Q:Int->wl->Prop},A.units+deep<WF->is s.heap k v->Q (hash k) {s with toks:=s.toks+draws k}->wq (model prog w) A (PySem.pyHash v) Q E s
 eqBool:∀{A:wW}{E:wg->wl->Prop}{s:wl}{x y:K}{u v:wg}{Q:Bool->wl->Prop},A.units+deep<WF->is s.heap x u->is s.heap y v->Q (decide (x=y)) s->wq (model prog w) A (PySem.eqBool u v) Q E s
 quiet:∀{A:wW}{E:wg->wl->Prop}{s:wl}{k:K}{v:wg}{Q:Bool->wl->Prop}(n:Nat),deep<=n->is s.heap k v->Q true s->wq (model prog w) A (eqIsQuiet n v) Q E s
section
variable{prog:wJ}{w:wM}{A:wW}{E:wg->wl->Prop}{s:wl}
theorem Ly{a:wf}{o:Obj}{items:Array wg}{n:Nat}{hs:List (Int × Nat)}{Q:Int->wl->Prop}(hu:A.units<WF)(ho:s.heap.get? a=some o)(hc:o.cls=.type "tuple")(hd:o.data=.seq items n)
  (hi:dW (λv (x:Int × Nat)=>∀(E:wg->wl->Prop)(Q:Int->wl->Prop)(s':wl),s'.heap=s.heap->Q x.1 {s' with toks:=s'.toks+x.2}->wq (model prog w) A.in1 (pyHash v) Q E s') items.toList hs)
  (h:Q (reduceHash (Wh (hs.map (·.1)))) {s with toks:=s.toks+((hs.map (·.2)).sum+1)}) :
  wq (model prog w) A (pyHash (.ref a)) Q E s:=by
 have hT:s.TypeIs (.ref a) "tuple":=⟨o,ho,hc⟩;unfold pyHash
 first | unfold pyHashByItsType | skip
 first | refine we (wpAny_cRoomFor_or (.inr hu) ?_) | skip
 refine we (qr hT qA.lookup ?_)
 show wq _ _ (if(some (Value.builtin "tuple.__hash__") == some Value.none)=true then _ else _) Q E s
 rw[if_neg (by rw[beq_builtin_none];exact vG)];refine we (qr hT qA.lookup ?_)
 show wq _ _ (callSpecialIfBoundUnlessNone? (.ref a) "__hash__" _ >>= _) Q E s
 refine we (wpAny_callSpecialIfBoundUnlessNone?_slot hT qA (Wb qA hT F.entry_tuple_hash ?_ (F.args_tuple_hash_1 _)))
 show wq _ _ (xg (.ref a) >>= _) _ _ s
 refine we (wpAny_tupleItemsOf ho hd ?_);refine we ?_;rw[<- VI]
 refine qd _
  (λck (b:Array Int) s'=>∃done left,hs=done++left/\dW (λv (x:Int × Nat)=>∀(E:wg->wl->Prop)(Q:Int->wl->Prop)(s':wl),s'.heap=s.heap->Q x.1 {s' with toks:=s'.toks+x.2}->wq (model prog w) A.in1 (pyHash v) Q E s') ck left/\b.toList=done.map (·.1)/\s' = {s with toks:=s.toks+(done.map (·.2)).sum})
  _ ?_ ?_ _ _ ⟨[],hs,rfl,hi,rfl,rfl⟩
 ·rintro x ck b s' ⟨done,left,rfl,hl,hb,rfl⟩
  cases hl with
  | @cons _ k _ ks' h1 hl' =>
   refine we (h1 _ _ _ rfl ?_)
   first
    | exact wo ⟨done++[k],ks',by simp,hl',by simp[hb],by simp[Vt]⟩
    | exact we (wo (wo ⟨done++[k],ks',by simp,hl',by simp[hb],by simp[Vt]⟩))
 ·rintro b s' ⟨done,left,rfl,hl,hb,rfl⟩
  cases hl;rw[Wl]at h
  show wq _ _ (retInt (Wh b.toList)) _ _ _
  rw[hb];refine wpAny_ret_mkInt ?_
  show wq _ _ (if(decide (-(2:Int)^63<=Wh (done.map (·.1)))&&decide (Wh (done.map (·.1))<2^63))=true then _ else _) Q E _
  unfold reduceHash at h
  by_cases hr:(decide (-(2:Int)^63<=Wh (done.map (·.1)))&&decide (Wh (done.map (·.1))<2^63))=true
  ·rw[if_pos hr]
   rw[if_pos hr]at h;exact wo (by simpa [Vt] using h)
  ·rw[if_neg hr]
   rw[if_neg hr]at h;exact we (qp (wo (by simpa [Vt] using h)))
theorem YH{a b:wf}{oa ob:Obj}{xs ys:Array wg}{na nb:Nat}{bs:List Bool}{P:PySem.Fin->wl->Prop}(hoa:s.heap.get? a=some oa)(hda:oa.data=.seq xs na)(hob:s.heap.get? b=some ob)(hcb:ob.cls=.type "tuple")(hdb:ob.data=.seq ys nb)
  (hi:dW (λ(p:wg × wg)(c:Bool)=>∀(E:wg->wl->Prop)(Q:Bool->wl->Prop),Q c s->wq (model prog w) A (eqBool p.1 p.2) Q E s) (xs.toList.zip ys.toList) bs)
  (h:P (.done (.ret (.bool (bs.all id&&xs.size == ys.size)))) s) :
  wq (model prog w) A (Builtin.«tuple.__eq__» ⟨[.ref a,.ref b],[]⟩) P E s:=by
 have hTb:s.TypeIs (.ref b) "tuple":=⟨ob,hob,hcb⟩
 show wq _ _ (isInstance (.ref b) (.type "tuple") >>= _) _ _ s
 refine we (W0 hTb isSubtype_tuple_tuple ?_);simp only[WG,w6,if_false];refine we (wpAny_tupleItemsOf hoa hda ?_);refine we (wpAny_tupleItemsOf hob hdb ?_);refine we ?_
 refine qd _
  (λck r s'=>r.1=none/\s'=s /\ ∃cs,dW (λ(p:wg × wg)(c:Bool)=>∀(E:wg->wl->Prop)(Q:Bool->wl->Prop),Q c s->wq (model prog w) A (eqBool p.1 p.2) Q E s) ck cs/\bs.all id=cs.all id)
  _ ?_ ?_ _ _ ⟨rfl,rfl,bs,hi,rfl⟩
 ·rintro ⟨u,v⟩ ck r s' ⟨hr,rfl,cs,hcs,hall⟩
  cases hcs with
  | @cons _ c _ cs' h1 h2 =>
   refine we (h1 _ _ ?_);cases c with
   | true =>
    simp only[WG,w6,if_false];exact wo ⟨rfl,rfl,cs',h2,by rw[hall];simp⟩
   | false =>
    simp only[QW,if_true];have hf:bs.all id=false:=by rw[hall];simp
    rw[hf,Vf]at h;exact we (wo (wo (wo h)))
 ·rintro ⟨r1,r2⟩ s' ⟨hr,rfl,cs,hcs,hall⟩
  simp only at hr;subst hr;refine wo ?_;cases hcs;rw[hall]at h;have h':P (.done (.ret (.bool (xs.size == ys.size)))) s':=by simpa using h
  exact h'
theorem Jd{a:wf}{o:Obj}{items:Array wg}{n m:Nat}{Q:Bool->wl->Prop}(ho:s.heap.get? a=some o)(hc:o.cls=.type "tuple")(hd:o.data=.seq items n)
  (hi:∀v∈items.toList,∀(E:wg->wl->Prop)(Q:Bool->wl->Prop),Q true s->wq (model prog w) A (eqIsQuiet m v) Q E s) (h:Q true s):wq (model prog w) A (eqIsQuiet (m+1) (.ref a)) Q E s:=by
 have hT:s.TypeIs (.ref a) "tuple":=⟨o,ho,hc⟩;unfold eqIsQuiet;refine we (qr hT xP.lookup ?_)
 show wq _ _ (isInstance (.ref a) (.type "tuple") >>= _) _ _ s
 refine we (W0 hT isSubtype_tuple_tuple ?_);simp only[WG,w6,if_false];refine we (Wi ho hd ?_);refine we ?_
 show wq _ _ (forIn items _ _) _ _ s
 rw[<- VI];refine qd _ (λck r s'=>r.1=none/\s'=s /\ ∀v∈ck,v∈items.toList) _ ?_ ?_ _ _ ⟨rfl,rfl,λ_ h=>h⟩
 ·rintro v ck r s' ⟨hr,rfl,hall⟩
  refine we (hi v (hall v wC) _ _ ?_);simp only[WG,w6,if_false];exact wo ⟨rfl,rfl,λu hu'=>hall u (wy _ hu')⟩
 ·rintro ⟨r1,r2⟩ s' ⟨hr,rfl,_⟩
  simp only at hr;subst hr;exact wo h
theorem J5{a b:wf}{oa ob:Obj}{xs ys:Array wg}{na nb:Nat}{bs:List Bool}{Q:Bool->wl->Prop}(hu:A.units<WF)(hoa:s.heap.get? a=some oa)(hca:oa.cls=.type "tuple")(hda:oa.data=.seq xs na)(hob:s.heap.get? b=some ob)(hcb:ob.cls=.type "tuple")(hdb:ob.data=.seq ys nb)
  (he:a=b->(bs.all id&&xs.size == ys.size)=true)
  (hi:dW (λ(p:wg × wg)(c:Bool)=>∀(E:wg->wl->Prop)(Q:Bool->wl->Prop),Q c s->wq (model prog w) A.in1 (eqBool p.1 p.2) Q E s) (xs.toList.zip ys.toList) bs)
  (h:Q (bs.all id&&xs.size == ys.size) s):wq (model prog w) A (eqBool (.ref a) (.ref b)) Q E s:=by
 unfold eqBool
 try with_reducible refine vC ?_
 show wq _ _ (if(Value.ref a == Value.ref b)=true then _ else _) Q E s
 by_cases hab:(Value.ref a == Value.ref b)=true
 ·rw[if_pos hab]
  have e:a=b:=by have:=eq_of_beq hab;injection this
  rw[he e]at h;exact we (qp (wo h))
 ·rw[if_neg hab]
  have ta:s.TypeIs (.ref a) "tuple":=⟨oa,hoa,hca⟩;have tb:s.TypeIs (.ref b) "tuple":=⟨ob,hob,hcb⟩
  exact we (wpAny_richCompare_same_room (op:=.Eq) ta tb xP
   (Wb xP ta F.entry_tuple_eq (YH hoa hda hob hcb hdb hi ⟨_,rfl,(λe=>nomatch e),WE h⟩) (F.args_tuple_eq_2 _ _)) hu)
end
def kH(R:List wg->Prop)(h:wH)(v:wg):Prop:=∃a o items n,v=.ref a/\h.get? a=some o/\o.cls=.type "tuple"/\o.data=.seq items n/\R items.toList
theorem kH.inj{R S:List wg->Prop}{h:wH}{v:wg}(x:kH R h v)(y:kH S h v):∃l,R l/\S l:=by
 obtain⟨a,o,items,n,rfl,ho,_,hd,hi⟩:=x;obtain⟨a',o',items',n',e,ho',_,hd',hi'⟩:=y;cases e;obtain rfl:o=o':=wK (ho.symm.trans ho');rw[hd]at hd'
 injection hd' with h1 _
 subst h1;exact⟨_,hi,hi'⟩
theorem kH.keeps{R S:List wg->Prop}{h h':wH}{v:wg}{d:wf}{o:Obj}{es ep}(x:kH R h v)(ho:h.get? d=some o)(hd:o.data=.dict es ep)(hs:vn d h h')(r:∀l,R l->S l):kH S h' v:=by
 obtain⟨a,o',items,n,rfl,ho',hc,hd',hi⟩:=x
 have hne:a≠d:=by
  rintro rfl;obtain rfl:o'=o:=wK (ho'.symm.trans ho);rw[hd]at hd';exact nomatch hd'
 exact⟨a,o',items,n,rfl,(hs.2 a hne).trans ho',hc,hd',r _ hi⟩
def fC(prog:wJ)(w:wM):HV prog w Int where
 is:=λ_ k v=>∃t,v=.int k t
 hash:=hashInt
 draws:=λ_=>1
 deep:=0
 inj:=λ⟨t,e⟩ ⟨u,f⟩=>by subst e;injection f
 keeps:=λh _ _ _=>h
 pyHash:=λ_ ⟨t,e⟩ h=>by subst e;exact wpAny_pyHash_int h
 eqBool:=λ_ ⟨t,e⟩ ⟨u,f⟩ h=>by subst e f;exact wpAny_eqBool_int h
 quiet:=λn _ ⟨t,e⟩ h=>by subst e;rw[eqIsQuiet_byValue n rfl];exact wo h
section
variable{prog:wJ}{w:wM}{K:Type}[DecidableEq K](e:HV prog w K)
theorem OD{A:wW}{s:wl}(hu:A.in1.units+e.deep<WF):∀{ks:List K}{vs:List wg},dW (e.is s.heap) ks vs ->
  dW (λv (x:Int × Nat)=>∀(E:wg->wl->Prop)(Q:Int->wl->Prop)(s':wl),s'.heap=s.heap->Q x.1 {s' with toks:=s'.toks+x.2}->wq (model prog w) A.in1 (pyHash v) Q E s') vs (ks.map λk=>(e.hash k,e.draws k))
 | _,_,.nil=>.nil
 | _,_,.cons h t=>.cons (λE Q s' he q=>e.pyHash hu (he ▸ h) q) (OD hu t)
theorem Ra{A:wW}{s:wl}(hu:A.in1.units+e.deep<WF):∀{ks js:List K}{us vs:List wg},dW (e.is s.heap) ks us->dW (e.is s.heap) js vs ->
  ∃bs,dW (λ(p:wg × wg)(c:Bool)=>∀(E:wg->wl->Prop)(Q:Bool->wl->Prop),Q c s->wq (model prog w) A.in1 (eqBool p.1 p.2) Q E s) (us.zip vs) bs/\(bs.all id&&us.length == vs.length)=decide (ks=js)
 | _,_,_,_,.nil,.nil=>⟨[],.nil,by simp⟩
 | _,_,_,_,.nil,.cons _ _=>⟨[],.nil,by simp⟩
 | _,_,_,_,.cons _ _,.nil=>⟨[],.nil,by simp⟩
 | k::ks,j::js,_,_,.cons h t,.cons h' t'=>by
  obtain⟨bs,b1,b2⟩:=Ra hu t t';refine⟨decide (k=j)::bs,.cons (λE Q q=>e.eqBool hu h h' q) b1,?_⟩;rw[Xv,Bool.and_assoc,vo,vo,show ∀a b:Nat,(a+1 == b+1)=(a == b)from λa b=>by simp,b2]
  by_cases h1:k=j<;>by_cases h2:ks=js<;>simp[h1,h2]
theorem Ds{h:wH} : ∀{ks js:List K}{vs:List wg},dW (e.is h) ks vs->dW (e.is h) js vs->ks=js
 | _,_,_,.nil,.nil=>rfl
 | _,_,_,.cons h t,.cons h' t'=>by rw[e.inj h h',Ds t t']
theorem Lf{α β : Type}{R S : α -> β -> Prop}(f:∀a b,R a b->S a b):∀{l:List α}{m:List β},dW R l m->dW S l m
 | _,_,.nil=>.nil
 | _,_,.cons h t=>.cons (f _ _ h) (Lf f t)
theorem Nc{α β : Type}{R : α -> β -> Prop} : ∀{l:List α}{m:List β},dW R l m->∀y∈m,∃x,R x y
 | _,_,.nil,y,hy=>by cases hy
 | _,_,.cons h t,y,hy=>by
  rcases wQ.mp hy with rfl | hy
  ·exact⟨_,h⟩
  ·exact Nc t y hy
def fJ:HV prog w (List K) where
 is:=λh ks v=>kH (dW (e.is h) ks) h v
 hash:=λks=>reduceHash (Wh ((ks.map λk=>(e.hash k,e.draws k)).map (·.1)))
 draws:=λks=>((ks.map λk=>(e.hash k,e.draws k)).map (·.2)).sum+1
 deep:=e.deep+1
 inj:=λx y=>by
  obtain⟨l,h1,h2⟩:=x.inj y;exact Ds e h1 h2
 keeps:=λx ho hd hs=>x.keeps ho hd hs λl h=>Lf (λa b r=>e.keeps r ho hd hs) h
 pyHash:=λ{A E s k v Q} hu x h=>by
  obtain⟨a,o,items,n,rfl,ho,hc,hd,hi⟩:=x;exact Ly (by lia) ho hc hd (OD e (show A.units+1+e.deep<WF by lia) hi) h
 eqBool:=λ{A E s x y u v Q} hu hx hy h=>by
  have hj:u=v->x=y:=λev=>by
   subst ev;obtain⟨l,h1,h2⟩:=hx.inj hy;exact Ds e h1 h2
  obtain⟨a,o,items,n,rfl,ho,hc,hd,hi⟩:=hx;obtain⟨a',o',items',n',rfl,ho',hc',hd',hi'⟩:=hy;obtain⟨bs,b1,b2⟩:=Ra e (A:=A) (show A.units+1+e.deep<WF by lia) hi hi';have b3:(bs.all id&&items.size == items'.size)=decide (x=y):=by rw[<- b2];rfl
  refine J5 (by lia) ho hc hd ho' hc' hd' (λea=>?_) b1 (by rw[b3];exact h);rw[b3];exact decide_eq_true (hj (by rw[ea]))
 quiet:=λ{A E s k v Q} n hn x h=>by
  obtain⟨a,o,items,m,rfl,ho,hc,hd,hi⟩:=x;obtain⟨j,rfl⟩:∃j,n=j+1:=⟨n-1,by lia⟩
  exact Jd ho hc hd (λu hu E Q q=>by
   obtain⟨x,hx⟩:=Nc hi u hu;exact e.quiet j (by lia) hx q) h
end
section
variable{prog:wJ}{w:wM}{J K:Type}[DecidableEq J][DecidableEq K](d:HV prog w J)(e:HV prog w K)
def Zj(h:wH)(k:J × K)(l:List wg):Prop:=∃u v,l=[u,v]/\d.is h k.1 u/\e.is h k.2 v
def Mo:HV prog w (J × K) where
 is:=λh k v=>kH (Zj d e h k) h v
 hash:=λk=>reduceHash (Wh ([(d.hash k.1,d.draws k.1),(e.hash k.2,e.draws k.2)].map (·.1)))
 draws:=λk=>([(d.hash k.1,d.draws k.1),(e.hash k.2,e.draws k.2)].map (·.2)).sum+1
 deep:=max d.deep e.deep+1
 inj:=λ{h v x y} hx hy=>by
  obtain⟨l,⟨u,v,rfl,h1,h2⟩,u',v',e',h3,h4⟩:=hx.inj hy;cases e';exact qK (d.inj h1 h3) (e.inj h2 h4)
 keeps:=λx ho hd hs=>x.keeps ho hd hs λl ⟨u,v,r,h1,h2⟩=>⟨u,v,r,d.keeps h1 ho hd hs,e.keeps h2 ho hd hs⟩
 pyHash:=λ{A E s k v Q} hu x h=>by
  obtain⟨a,o,items,n,rfl,ho,hc,hd,u,v,hl,h1,h2⟩:=x
  exact Ly (by lia) ho hc hd (by
   rw[hl];exact .cons (λE Q s' he q=>d.pyHash (show A.units+1+d.deep<WF by lia) (he ▸ h1) q) (.cons (λE Q s' he q=>e.pyHash (show A.units+1+e.deep<WF by lia) (he ▸ h2) q) .nil)) h
 eqBool:=λ{A E s x y u v Q} hu hx hy h=>by
  have hj:u=v->x=y:=λev=>by
   subst ev;obtain⟨l,⟨u,v,rfl,h1,h2⟩,u',v',e',h3,h4⟩:=hx.inj hy;cases e';exact qK (d.inj h1 h3) (e.inj h2 h4)
  obtain⟨a,o,items,n,rfl,ho,hc,hd,u,v,hl,h1,h2⟩:=hx;obtain⟨a',o',items',n',rfl,ho',hc',hd',u',v',hl',h1',h2'⟩:=hy
  have b3:([decide (x.1=y.1),decide (x.2=y.2)].all id&&items.size == items'.size)=decide (x=y):=by
   rw[<- wO,<- wO,hl,hl'];obtain⟨x1,x2⟩:=x;obtain⟨y1,y2⟩:=y
   by_cases h1:x1=y1<;>by_cases h2:x2=y2<;>simp[h1,h2]
  refine J5 (bs:=[decide (x.1=y.1),decide (x.2=y.2)]) (by lia) ho hc hd ho' hc' hd' (λea=>?_) ?_ (by rw[b3];exact h)
  ·rw[b3]
   exact decide_eq_true (hj (by rw[ea]))
  ·rw[hl,hl']
   exact .cons (λE Q q=>d.eqBool (show A.units+1+d.deep<WF by lia) h1 h1' q) (.cons (λE Q q=>e.eqBool (show A.units+1+e.deep<WF by lia) h2 h2' q) .nil)
 quiet:=λ{A E s k v Q} n hn x h=>by
  obtain⟨a,o,items,m,rfl,ho,hc,hd,u,v,hl,h1,h2⟩:=x;obtain⟨j,rfl⟩:∃j,n=j+1:=⟨n-1,by lia⟩
  exact Jd ho hc hd (λu hu E Q q=>by
   rw[hl]at hu;rcases wQ.mp hu with rfl | hu
   ·exact d.quiet j (by lia) h1 q
   ·rw[w5]at hu
    subst hu;exact e.quiet j (by lia) h2 q) h
end
abbrev SK:=List Int × List (List Int)
def jX(prog:wJ)(w:wM):HV prog w SK:=Mo (fJ (fC prog w)) (fJ (fJ (fC prog w)))
def zBQ(prog:wJ)(w:wM):HeapKind prog w SK where
 is:=λh k a=>(jX prog w).is h k (.ref a)
 hash:=(jX prog w).hash
 draws:=(jX prog w).draws
 room:=λA=>A.units+3<WF
 inj:=λx y=>(jX prog w).inj x y
 keeps:=λx ho hd hs=>(jX prog w).keeps x ho hd hs
 pyHash:=λhu hk h=>(jX prog w).pyHash hu hk h
 eqBool:=λhu hx hy h=>(jX prog w).eqBool hu hx hy h
 quiet:=λhk h=>(jX prog w).quiet 8 (by show 3<=8;decide) hk h
end TB
namespace L2
open PySem PySem.Spec PyProof.Rows GM
open TB (SK zBQ jX fJ fC Mo dW)
theorem MT{P:wJ}{w:wM}{h:wH} : ∀{us:List wg}{ns:List Int},IntsAre us ns->dW ((fC P w).is h) ns us
 | _,_,.nil=>.nil
 | _,_,.cons n t r=>.cons ⟨t,rfl⟩ (MT r)
section
variable{X:Cx}{pins:List (wf × Obj)}{σ : St}{H:Hp}{s:wl}
theorem Inv.TY(I:Inv X pins σ H s){v:V}{u:wg}{k:List Int}(h:Is X.K H v (TZ k))(r:aY v u):(fJ (fC X.prog X.w)).is s.heap k u:=by
 obtain⟨q,rfl,hs⟩:=nA.mp h;obtain⟨its,r',⟨o,e,hc,n,hd⟩,_⟩:=I.tuple hs;cases (show u=Value.ref q from r);exact⟨q,o,its.toArray,n,rfl,e,hc,hd,MT (Cv r')⟩
end
def U2(l:List (Int × Nat)):Int:=reduceHash (Wh (l.map (·.1)))
def zCs(ks:List Int):Int:=U2 (ks.map λk=>(hashInt k,1))
section
variable{X:Cx}{pins:List (wf × Obj)}{σ : St}{H:Hp}{s:wl}{a b:wf}{xs:List (SK × wf × Int)}{ps:List Int}{cm:List (List Int)}{A:wW}{E:wg->wl->Prop}
end
section
variable{X:Cx}{pos pos':Pos}{i o value:Expr}{ty td tv:TE}
end
section
variable{K:wb}{H H':Hp}{Q:VK}{D:cq}{σ : St}{td ty tv:TE}{a b:wf}{xs:List (SK × wf × Int)}{ps:List Int}{cm:List (List Int)}{n:Int}
end
section
variable{X:Cx}{N':List Str}{scope:Scope}{cl:List (Str × wf)}{src:List (Option Nat)}{elt tgt iter:Expr}{ifs:List Expr}{pos:Pos}{wi:TI}{g:TG}{tt:TT}{te:TE}
end
end L2
namespace TB
open PySem PySem.Spec PyProof.Rows
def du(prog:wJ)(w:wM):HeapKind prog w (List Int) where
 is:=λh k a=>(fJ (fC prog w)).is h k (.ref a)
 hash:=(fJ (fC prog w)).hash
 draws:=(fJ (fC prog w)).draws
 room:=λA=>A.units+1<WF
 inj:=λx y=>(fJ (fC prog w)).inj x y
 keeps:=λx ho hd hs=>(fJ (fC prog w)).keeps x ho hd hs
 pyHash:=λhu hk h=>(fJ (fC prog w)).pyHash hu hk h
 eqBool:=λhu hx hy h=>(fJ (fC prog w)).eqBool hu hx hy h
 quiet:=λhk h=>(fJ (fC prog w)).quiet 8 (by show 1<=8;decide) hk h
section
variable{prog:wJ}{w:wM}{K:Type}[DecidableEq K]{knd:HeapKind prog w K}{A:wW}{E:wg->wl->Prop}{s:wl}
end
end TB
namespace L2
open PySem PySem.Spec PyProof.Rows GM
open TB (du fJ fC)
abbrev NE:=List Int × wf × wf
def pk(x:NE)(e:DictEntry):Prop:=e=⟨zCs x.1,.ref x.2.1,.ref x.2.2⟩
def g_(a:wf)(ep:Nat)(xs:List NE):HO:=.ext λh=>xs.length<=1000/\(a == sysModules)=false/\(xs.map (·.1)).Nodup /\ ∃o es,h.get? a=some o/\o.ExactDict/\o.data=.dict es ep/\Paired pk xs es.toList
def AA(K:wb)(H:Hp)(xs:List NE):Prop:=∀x∈xs,Is K H (.ref x.2.1) (TZ x.1)
def lJ(xs:List NE)(k:List Int):Option wf:=(xs.find? λx=>decide (x.1=k)).map (·.2.2)
theorem Z8{P:wJ}{w:wM}{H:Hp}{h:wH}{a:wf}{ep:Nat}{xs:List NE}(z:xs.length<=1000)(hd:(a == sysModules)=false)(nd:(xs.map (·.1)).Nodup){o:Obj}{es:Array DictEntry}(ho:h.get? a=some o)(hx:o.ExactDict)(hda:o.data=.dict es ep)(r:Paired pk xs es.toList) :
  dA P w H h a (g_ a ep xs):=⟨⟨z,hd,nd,o,es,ho,hx,hda,r⟩,⟨o,ho⟩,λh1 h2 ⟨z,hd,nd,o,es,ho,q⟩ k=>⟨z,hd,nd,o,es,k _ ho,q⟩⟩
def iJ(xs:List NE):List (List Int × wf × wg):=xs.map λx=>(x.1,x.2.1,.ref x.2.2)
theorem zCn{P:wJ}{w:wM}{xs:List NE}{es:List DictEntry}(r:Paired pk xs es):es=(iJ xs).map (entryOfKey (du P w)):=by
 induction r with
 | nil=>rfl
 | @cons x e xs es hx r ih =>
  show e::es=_::(iJ xs).map (entryOfKey (du P w))
  rw[<- ih,show e=_ from hx]
  rfl
theorem Pq{P:wJ}{w:wM} : ∀xs:List NE,Paired pk xs ((iJ xs).map (entryOfKey (du P w)))
 | []=>.nil
 | x::xs=>.cons rfl (Pq xs)
theorem zA2(xs:List NE)(k:List Int):(atKey (iJ xs) k).map (·.2)=(lJ xs k).map Value.ref:=by
 induction xs with
 | nil=>rfl
 | cons x xs ih =>
  unfold atKey lJ iJ at *;rw[vb,Uc,Uc]
  by_cases e:x.1=k
  ·simp[e]
  ·simp only[e,decide_false]
   exact ih
section
variable{X:Cx}{pins:List (wf × Obj)}{σ : St}{H:Hp}{s:wl}{a b q:wf}{ep:Nat}{xs:List NE}{k:List Int}{A:wW}{E:wg->wl->Prop}
theorem Inv.nK(I:Inv X pins σ H s)(h:Is X.K H (.ref b) (TZ k)):(du X.prog X.w).is s.heap k b:=I.TY h rfl
theorem Inv.IE(I:Inv X pins σ H s)(e:H a=some (g_ a ep xs)):xs.length<=1000/\(a == sysModules)=false/\(xs.map (·.1)).Nodup /\ ∃o es,s.heap.get? a=some o/\o.ExactDict/\o.data=.dict es ep/\Paired pk xs es.toList :=
 (show dA X.prog X.w H s.heap a (g_ a ep xs)from I.aF a _ e).1
end
section
variable{X:Cx}{o e f:Expr}{apos cpos pos:Pos}{td ty tx:TE}{tg:Expr}
end
section
variable{K:wb}{H H':Hp}{Q:VK}{D:cq}{σ : St}{td ty tx te:TE}{g:TG}{tt:TT}{a b q:wf}{ep:Nat}{xs:List NE}{k:List Int}{src:List (Option Nat)}
end
section
variable{X:Cx}{N':List Str}{scope:Scope}{cl:List (Str × wf)}{src:List (Option Nat)}{elt tgt iter:Expr}{ifs:List Expr}{pos:Pos}{wi:TI}{g:TG}{tt:TT}{te:TE}
end
end L2
namespace TB
open PySem PySem.W PyProof.Rows
theorem PB:entryFor table "dict.update.loop"=some Builtin.«dict.update.loop»:=entryFor_of_tree (by kernel_rfl)
theorem sA:plainId "dict.update.loop"=true:=by decide +kernel
theorem zsB:typeLookup (.type "zip") "keys"=pure none:=am_miss_of_fast (by decide +kernel)
theorem zko:typeLookup (.type "zip") "__getattr__"=pure none:=by rw[typeLookup_type,builtinLookup_eq_fast];kernel_rfl
theorem zf0:entryFor table "zip.__getattribute__"=some Builtin.«object.__getattribute__» :=
 entryFor_alias (id':="object.__getattribute__") (by kernel_rfl) (by decide +kernel) (by decide +kernel) (by kernel_rfl)
theorem UZ(a:wf)(fs:Array wg)(sl:Array (Option wg))(name:Str)(u:Tok)(hmiss:typeLookup (.type "zip") name=pure none)(hname:(["__module__","__name__","__qualname__","__doc__","__annotations__"]:List Str).contains name=false)(hsz:name.length+100<=vd:=by size_fits) :
  Meets (Builtin.«object.__getattribute__» ⟨[.ref a,.str name u],[]⟩) (λA R s=>s.heap.get? a=some {cls:=.type "zip",dict:=none,data:=.fields fs,slots:=sl}/\raisesAttr (.ref a) name A R s) :=
 Meets.of_wp λprog w A R s hs=>by
  obtain⟨hp,g,d,tk,os⟩:=s;obtain⟨hx,hs⟩:=hs;have hT:(⟨hp,g,d,tk,os⟩:wl).TypeIs (.ref a) "zip":=⟨_,hx,rfl⟩;unfold Builtin.«object.__getattribute__»
  repeat(any_goals(first | assumption | wp_step))
  simp only[hname,w6,if_false]
  repeat(any_goals(first | assumption | wp_step))
  exact wpAny_raiseAttrError hs.1 hs.2 (attrMsg_fits (by decide +kernel) hsz)
section
variable{prog:wJ}{w:wM}{A:wW}{E:wg->wl->Prop}{s:wl}
theorem zyK{a:wf}{fs:Array wg}{sl:Array (Option wg)}{Q:Option wg->wl->Prop}
  (hx:s.heap.get? a=some {cls:=.type "zip",dict:=none,data:=.fields fs,slots:=sl}) (hA:A.handled=none)
  (q:∀h' tk,(∀b ob,s.heap.get? b=some ob->h'.get? b=some ob)->Q none {s with heap:=h',toks:=tk}) :
  wq (model prog w) A (getAttr? (.ref a) "keys") Q E s:=by
 obtain⟨hp,g,d,tk,os⟩:=s;have hT:∀tk',(⟨hp,g,d,tk',os⟩:wl).TypeIs (.ref a) "zip":=λ_=>⟨_,hx,rfl⟩
 have f1:=sub_AttributeError;have f3:=qw.lookup;have f4:=qw.bind (.ref a);have f5:=zko;unfold getAttr? getAttrBy? getAttrBy
 repeat(any_goals(first | assumption | exact hT _ | ((with_reducible show wq _ _ (call (Value.builtin "zip.__getattribute__") _ _) _ _ _);refine call_meets qw (hT _) zf0 (PySem.F.args_zip_getattribute_2 _ _) (UZ a fs sl "keys" _ zsB (by decide +kernel)) ⟨hx,hA,λh' tk' e hx'=>?_⟩) | wp_step))
 obtain⟨t',u',he⟩:=hx'.there
 show wq _ _ (getattributeRaised _ _ _ _ _ _ _) _ _ _
 unfold getattributeRaised
 repeat(any_goals(first | assumption | wp_step))
 exact q _ _ hx'.keeps
theorem YD{p:wf}{x y:wg}(h:WK s.heap p x y){Q:List wg->wl->Prop}(q:Q [x,y] s):wq (model prog w) A (x8 (.ref p)) Q E s:=by
 have hT:s.TypeIs (.ref p) "tuple":=⟨_,h,rfl⟩;unfold x8;refine we (wpAny_typeOf hT ?_);rw[if_pos (by decide)];refine we (Wi h rfl ?_);exact wo q
abbrev kX(h:wH)(z TI TO p:wf)(f:Bool):Prop :=
 h.get? z=some {cls:=.type "zip",dict:=none,data:=.fields #[VY p,.bool f,.bool false,.ref TI,.ref TO],slots:=#[]}
end
section
variable{prog:wJ}{w:wM}{A:wW}{E:wg->wl->Prop}{s:wl}{z TI TO i1 i2 p:wf}{f:Bool}{f1 f2:List wf}{n1 n2 k:Nat}{P1 P2:Nat->wg->Prop}{S1 S2:Nat->wH->Prop}{a b:wg}
theorem KY{op:Obj}{Q:Bool->wl->Prop}(hz:kX s.heap z TI TO p f)(hp:s.heap.get? p=some op)
  (q:∀g,kX g z TI TO p true->vn z s.heap g->Q false {s with heap:=g}):wq (model prog w) A (vK (.ref z)) Q E s:=by
 unfold vK;refine we (vk hz rfl (x:=VY p) rfl ?_)
 show wq _ _ (loadIfAlive ((p:Int).toNat) >>= _) _ _ _
 rw[wT];refine we (kdx_alive hp ?_);simp only[Option.isNone_some,w6,if_false];refine we (vk hz rfl (x:=.bool f) rfl ?_);cases f with
 | true =>
  rw[if_neg (show ¬ ((Value.bool true != Value.bool true)=true)from vG)];exact wo (q _ hz (ug _ _))
 | false =>
  rw[if_pos (show(Value.bool false != Value.bool true)=true from rfl)];refine we (Vp hz (by simp) λg hg sb=>?_);exact wo (q g hg sb)
theorem zDg{op:Obj}{Q:wg->wl->Prop}(D1:Draws prog w A i1 f1 n1 P1 S1)(D2:Draws prog w A i2 f2 n2 P2 S2)(ap:L2.ZA z TI TO i1 i2 f1 f2)(hz:kX s.heap z TI TO p f)(hi:WK s.heap TI (.ref i1) (.ref i2))(hp:s.heap.get? p=some op)
  (h1:S1 k s.heap) (h2:S2 k s.heap) (l1:k<n1) (l2:k<n2)
  (fin:∀x y h' tk,P1 k x->P2 k y->kX h' z TI TO p true->S1 (k+1) h'->S2 (k+1) h'->WK h' s.heap.objs.size x y ->
   (∀c o,c≠z->c≠i1->c≠i2->s.heap.get? c=some o->h'.get? c=some o)->Q (.ref s.heap.objs.size) {s with heap:=h',toks:=tk}) :
  wq (model prog w) A (Builtin.«zip.__next__» ⟨[.ref z],[]⟩) (λr s'=>∃v,r=.done (.ret v)/\Q v s') E s:=by
 show wq _ _ (field (.ref z) 2 >>= _) _ _ _;refine we (vk hz rfl (x:=.bool false) rfl ?_)
 show wq _ _ (field (.ref z) 3 >>= _) _ _ _;refine we (vk hz rfl (x:=.ref TI) rfl ?_)
 refine we (Wi hi rfl ?_);show wq _ _ (vK (.ref z) >>= _) _ _ _
 refine we (KY hz hp λg0 hz0 sb0=>?_);have sb0:vn z s.heap g0:=sb0;simp only[w6,if_false];refine we ?_;rw[<- VI];simp only[Qd,QZ];have h1a:S1 k g0:=D1.frame _ _ _ h1 λc hc o e=>sb0.extBut c o (λq=>ap.b1 (q ▸ hc)) e
 have h2a:S2 k g0:=D2.frame _ _ _ h2 λc hc o e=>sb0.extBut c o (λq=>ap.b2 (q ▸ hc)) e
 refine we (we (vC ?_))
 show wq _ _ (vM (.ref i1) >>= _) _ _ _
 refine we (D1.item k _ _ _ l1 h1a λx g1 t1 px h1b sb1=>wo ?_);have sb1:vn i1 g0 g1:=sb1;have h2b:S2 k g1:=D2.frame _ _ _ h2a λc hc o e=>sb1.extBut c o (λq=>ap.b5 (q ▸ hc)) e
 refine wo ?_;refine we (we (vC ?_))
 show wq _ _ (vM (.ref i2) >>= _) _ _ _
 refine we (D2.item k _ _ _ l2 h2b λy g2 t2 py h2c sb2=>wo ?_);have sb2:vn i2 g1 g2:=sb2;have h1c:S1 (k+1) g2:=D1.frame _ _ _ h1b λc hc o e=>sb2.extBut c o (λq=>ap.b6 (q ▸ hc)) e
 refine wo (wo ?_);refine we (wpAny_newTuple (hsz:=by show 2<=vd;rw[qW];decide) ?_);have hsz:g2.objs.size=s.heap.objs.size:=by rw[sb2.1,sb1.1,sb0.1]
 have kept:∀c o,c≠z->c≠i1->c≠i2->s.heap.get? c=some o->g2.get? c=some o:=λc o c1 c3 c4 e=>sb2.extBut _ _ c4 (sb1.extBut _ _ c3 (sb0.extBut _ _ c1 e))
 have zz:kX g2 z TI TO p true:=sb2.extBut _ _ ap.a4.symm (sb1.extBut _ _ ap.a3.symm hz0);refine wo ⟨_,rfl,?_⟩
 show Q (.ref g2.objs.size) _
 have new:WK (g2.push {cls:=.type "tuple",data:=.seq #[x,y]}) g2.objs.size x y:=wP _ rfl;rw[hsz]at new ⊢;exact fin x y _ _ px py (wn _ zz) (D1.frame _ _ _ h1c λc hc o e=>wn _ e) (D2.frame _ _ _ h2c λc hc o e=>wn _ e) new λc o c1 c3 c4 e=>wn _ (kept c o c1 c3 c4 e)
theorem zC4{op:Obj}{Q:Fin->wl->Prop}(D1:Draws prog w A i1 f1 n1 P1 S1)(ap:L2.ZA z TI TO i1 i2 f1 f2)(hz:kX s.heap z TI TO p f)(hi:WK s.heap TI (.ref i1) (.ref i2))(hp:s.heap.get? p=some op)(h1:S1 n1 s.heap)
  (fin:∀h' e tk,(∀c o,c≠z->c≠i1->s.heap.get? c=some o->h'.get? c=some o)->(∃o,h'.get? e=some o/\o.cls=.type "StopIteration")->E (.ref e) {s with heap:=h',toks:=tk}) :
  wq (model prog w) A (Builtin.«zip.__next__» ⟨[.ref z],[]⟩) Q E s:=by
 show wq _ _ (field (.ref z) 2 >>= _) _ _ _;refine we (vk hz rfl (x:=.bool false) rfl ?_)
 show wq _ _ (field (.ref z) 3 >>= _) _ _ _;refine we (vk hz rfl (x:=.ref TI) rfl ?_)
 refine we (Wi hi rfl ?_);show wq _ _ (vK (.ref z) >>= _) _ _ _
 refine we (KY hz hp λg0 hz0 sb0=>?_);have sb0:vn z s.heap g0:=sb0;simp only[w6,if_false];refine we ?_;rw[<- VI];simp only[Qd,QZ];have h1a:S1 n1 g0:=D1.frame _ _ _ h1 λc hc o e=>sb0.extBut c o (λq=>ap.b1 (q ▸ hc)) e
 refine we (we (vC ?_))
 show wq _ _ (vM (.ref i1) >>= _) _ _ _
 exact we (D1.done _ _ _ h1a λg1 e sb1 he=>fin g1 e _ (λc o c1 c3 q=>sb1 _ _ c3 (sb0.extBut _ _ c1 q)) he)
end
theorem oz{prog:wJ}{w:wM}{h h':wH}{k:List Int}{a:wf}(x:(du prog w).is h k a)(e:∀o,h.get? a=some o->h'.get? a=some o):(du prog w).is h' k a:=by
 obtain⟨a',o,items,n,ea,ho,hc,hd,r⟩:=x;cases ea;exact⟨a,o,items,n,rfl,e o ho,hc,hd,r⟩
def kc(base:wf)(h h':wH):Prop:=∀b o,b<base->h.get? b=some o->h'.get? b=some o
theorem kc.trans{base:wf}{h h' h'':wH}(x:kc base h h')(y:kc base h' h''):kc base h h'':=λb o hb e=>y b o hb (x b o hb e)
structure ZB(base z TI TO i1 i2 d a b:wf):Prop where
 ap:L2.ZA z TI TO i1 i2 [i1,a] [i2,b]
 na:a≠i1
 nb:b≠i2
 bz:base<=z
 bO:base<=TO
 b1:base<=i1
 b2:base<=i2
 bd:base<=d
 dz:d≠z
 dI:d≠TI
 dO:d≠TO
 d1:d≠i1
 d2:d≠i2
 la:a<base
 lb:b<base
def lQ(z TI TO i1 i2 d a b:wf)(its jts:Array wg)(i:Nat)(h:wH):Prop:=WK h TI (.ref i1) (.ref i2)/\(h.IsTupleIter i1 a i/\h.IsTuple a its)/\(h.IsTupleIter i2 b i/\h.IsTuple b jts) /\
 ((∃x y,IsZip h z TI TO .none/\WK h TO x y) \/ ∃p f op,kX h z TI TO p f/\h.get? p=some op/\p≠z/\p≠i1/\p≠i2/\p≠d)
section
variable{prog:wJ}{w:wM}{A:wW}{E:wg->wl->Prop}{s:wl}{base z TI TO i1 i2 d a b:wf}{its jts:Array wg}{i:Nat}
theorem jv(hh:A.handled=none)(it l:wf)(hne:l≠it)(items:Array wg):Draws prog w A it [it,l] items.size (λi v=>items[i]? = some v) (λi h=>h.IsTupleIter it l i/\h.IsTuple l items):=L2.oy true hh it l hne items
theorem zCT(B:ZB base z TI TO i1 i2 d a b)(hh:A.in1.handled=none)(st:lQ z TI TO i1 i2 d a b its jts i s.heap)(hd:d<s.heap.objs.size){x y:wg}(hx:its[i]? = some x)(hy:jts[i]? = some y){Q:Option wg->wl->Prop}
  (q:∀(h':wH) tk,WK h' s.heap.objs.size x y->lQ z TI TO i1 i2 d a b its jts (i+1) h'->(∀c o,c≠z->c≠TO->c≠i1->c≠i2->s.heap.get? c=some o->h'.get? c=some o)->Q (some (.ref s.heap.objs.size)) {s with heap:=h',toks:=tk}) :
  wq (model prog w) A (Vo (.ref z)) Q E s:=by
 obtain⟨hi,s1,s2,hz⟩:=st
 have lt1:i<its.size:=by
  rcases wz i its.size with z | z
  ·exact z
  ·rw[VE z]at hx;cases hx
 have lt2:i<jts.size:=by
  rcases wz i jts.size with z | z
  ·exact z
  ·rw[VE z]at hy;cases hy
 have ap:=B.ap;unfold Vo;rcases hz with⟨x0,y0,hz,ho⟩ | ⟨p,f,op,hz,hp,p1,p2,p3,p4⟩
 ·have hT:s.TypeIs (.ref z) "zip":=⟨_,hz,rfl⟩
  have ltz:=wA hz
  refine we (WQ (wpAny_callSpecial?_slot (name:=vW "__next__") hT Wz (Wb Wz hT qb
   (L2.IC (jv (A:=A.in1) hh i1 a B.na its) (jv (A:=A.in1) hh i2 b B.nb jts) ap hz hi ho s1 s2 lt1 lt2 λv1 v2 h1 tk e1 e2 hz1 ho1 st1 st2 hT1 hk=>wo ?_) (VW _))))
  rw[hx]at e1;cases e1;rw[hy]at e2;cases e2;have l1:i1<s.heap.objs.size:=by obtain⟨o,e,_⟩:=s1.1;exact wA e
  have l2:i2<s.heap.objs.size:=by obtain⟨o,e,_⟩:=s2.1;exact wA e
  exact q h1 tk hT1 ⟨hk _ _ ap.a1 ap.a5 ap.a6 ap.a7 hi,st1,st2,.inr ⟨s.heap.objs.size,false,_,hz1,hT1,vi ltz,vi l1,vi l2,vi hd⟩⟩ hk
 ·have hT:s.TypeIs (.ref z) "zip":=⟨_,hz,rfl⟩
  refine we (WQ (wpAny_callSpecial?_slot (name:=vW "__next__") hT Wz (Wb Wz hT qb
   (zDg (jv (A:=A.in1) hh i1 a B.na its) (jv (A:=A.in1) hh i2 b B.nb jts) ap hz hi hp s1 s2 lt1 lt2 λv1 v2 h1 tk e1 e2 hz1 st1 st2 hT1 hk=>wo ?_) (VW _))))
  rw[hx]at e1;cases e1;rw[hy]at e2;cases e2;exact q h1 tk hT1 ⟨hk _ _ ap.a1 ap.a6 ap.a7 hi,st1,st2,.inr ⟨p,true,op,hz1,hk _ _ p1 p2 p3 hp,p1,p2,p3,p4⟩⟩ λc o c1 _ c3 c4 e=>hk c o c1 c3 c4 e
theorem zC9(B:ZB base z TI TO i1 i2 d a b)(hh:A.in1.handled=none)(st:lQ z TI TO i1 i2 d a b its jts its.size s.heap){Q:Option wg->wl->Prop}
  (q:∀(h':wH) tk,(∀c o,c≠z->c≠TO->c≠i1->c≠i2->s.heap.get? c=some o->h'.get? c=some o)->Q none {s with heap:=h',toks:=tk}) :
  wq (model prog w) A (Vo (.ref z)) Q E s:=by
 obtain⟨hi,s1,s2,hz⟩:=st;have ap:=B.ap;unfold Vo;rcases hz with⟨x0,y0,hz,ho⟩ | ⟨p,f,op,hz,hp,p1,p2,p3,p4⟩
 ·have hT:s.TypeIs (.ref z) "zip":=⟨_,hz,rfl⟩
  refine we (WQ (wpAny_callSpecial?_slot (name:=vW "__next__") hT Wz (Wb Wz hT qb
   (L2.ID (k:=its.size) (jv (A:=A.in1) hh i1 a B.na its) (jv (A:=A.in1) hh i2 b B.nb jts) ap hz hi ho s1 s2 (.inl rfl) λh' y tk hk hx'=>?_) (VW _))))
  obtain⟨o,ho',hcl⟩:=hx';exact we (W0 (T:="StopIteration") (b:=true) ⟨o,ho',hcl⟩ V5 (wo (q h' tk hk)))
 ·have hT:s.TypeIs (.ref z) "zip":=⟨_,hz,rfl⟩
  refine we (WQ (wpAny_callSpecial?_slot (name:=vW "__next__") hT Wz (Wb Wz hT qb
   (zC4 (jv (A:=A.in1) hh i1 a B.na its) ap hz hi hp s1 λh' y tk hk hx'=>?_) (VW _))))
  obtain⟨o,ho',hcl⟩:=hx';exact we (W0 (T:="StopIteration") (b:=true) ⟨o,ho',hcl⟩ V5 (wo (q h' tk λc o c1 _ c3 _ e=>hk c o c1 c3 e)))
end
theorem lQ.but{base z TI TO i1 i2 d a b:wf}{its jts:Array wg}{i:Nat}{h g:wH}(st:lQ z TI TO i1 i2 d a b its jts i h)(B:ZB base z TI TO i1 i2 d a b)(sb:vn d h g):lQ z TI TO i1 i2 d a b its jts i g:=by
 obtain⟨hi,s1,s2,hz⟩:=st;have da:a≠d:=wL (wU B.la B.bd);have db:b≠d:=wL (wU B.lb B.bd);refine⟨sb.extBut _ _ B.dI.symm hi,⟨s1.1.at λo e=>sb.extBut _ _ B.d1.symm e,s1.2.at λo e=>sb.extBut _ _ da e⟩,⟨s2.1.at λo e=>sb.extBut _ _ B.d2.symm e,s2.2.at λo e=>sb.extBut _ _ db e⟩,?_⟩;rcases hz with⟨x0,y0,hz,ho⟩ | ⟨p,f,op,hz,hp,p1,p2,p3,p4⟩
 ·exact .inl ⟨x0,y0,sb.extBut _ _ B.dz.symm hz,sb.extBut _ _ B.dO.symm ho⟩
 ·exact .inr ⟨p,f,op,sb.extBut _ _ B.dz.symm hz,sb.extBut _ _ p4 hp,p1,p2,p3,p4⟩
section
variable{prog:wJ}{w:wM}{A:wW}{R:Result->wl->Prop}{base z TI TO i1 i2 d a b:wf}{its jts:Array wg}{key:Nat->List Int}{ka:Nat->wf}{val:Nat->wg}
theorem zCB(B:ZB base z TI TO i1 i2 d a b)(hh:A.in1.in1.handled=none)(hu:A.in1.units+1<WF)(hl:jts.size=its.size)(hn:its.size<=999)(hx:∀i,i<its.size->its[i]? = some (.ref (ka i)))(hy:∀i,i<its.size->jts[i]? = some (val i))
  (lk:∀i,i<its.size->ka i<base) (hk:∀i j,i<its.size->j<its.size->key i=key j->i=j) :
  ∀(c i:Nat)(s:wl),its.size-i=c->i<=its.size->lQ z TI TO i1 i2 d a b its jts i s.heap->(∀j,j<its.size->(du prog w).is s.heap (key j) (ka j))->s.heap.DictOfH (du prog w) d ((wx i).map λj=>(key j,ka j,val j)) ->
   (∀(g:wH)(tk:Nat),kc base s.heap g->g.DictOfH (du prog w) d ((wx its.size).map λj=>(key j,ka j,val j))->R (.ok (.ret .none)) {s with heap:=g,toks:=tk}) ->
   codeAny (model prog w) A (.builtin "dict.update.loop" ⟨[.ref d,.ref z,VY i,.none],[]⟩) R s:=by
 have lift:∀{h h':wH}{xs:List (List Int × wf × wg)},h.DictOfH (du prog w) d xs->(∀x∈xs,x.2.1<base)->kc base h h'->(∀o,h.get? d=some o->h'.get? d=some o)->h'.DictOfH (du prog w) d xs:=λx hb bl hd=>by
  obtain⟨o,es,ep,ho,hc,hda,he,his,hn⟩:=x;exact⟨o,es,ep,hd o ho,hc,hda,he,λx hx=>oz (his x hx) λo e=>bl _ o (hb x hx) e,hn⟩
 have lo:∀{h h':wH},(∀c o,c≠z->c≠TO->c≠i1->c≠i2->h.get? c=some o->h'.get? c=some o)->kc base h h':=λhk c o hc e=>hk c o (wL (wU hc B.bz)) (wL (wU hc B.bO)) (wL (wU hc B.b1)) (wL (wU hc B.b2)) e
 intro c
 induction c with
 | zero =>
  intro i s ec ei st ht hs r;obtain rfl:i=its.size:=by omega
  refine VQ PB ?_;rw[V3 sA _];refine we (m:=Vo (.ref z)) (zC9 B hh st λh' tk hk'=>?_);refine we (wo ?_);refine wo (r h' tk (lo hk') (lift hs (λx hx=>?_) (lo hk') λo e=>hk' d o B.dz B.dO B.d1 B.d2 e));obtain⟨j,hj,rfl⟩:=wS.mp hx;exact lk j (wI.mp hj)
 | succ c ih =>
  intro i s ec ei st ht hs r;have lt:i<its.size:=by omega
  have hdl:d<s.heap.objs.size:=by obtain⟨o,_,_,ho,_⟩:=hs;exact wA ho
  refine VQ PB ?_;rw[V3 sA _];refine we (m:=Vo (.ref z)) (zCT B hh st hdl (hx i lt) (hy i lt) λh' tk hp st' hk'=>?_);have bl:=lo hk'
  have hs':h'.DictOfH (du prog w) d ((wx i).map λj=>(key j,ka j,val j)):=lift hs (λx hx=>by
   obtain⟨j,hj,rfl⟩:=wS.mp hx;have:=wI.mp hj;exact lk j (by omega)) bl λo e=>hk' d o B.dz B.dO B.d1 B.d2 e
  have ht':∀j,j<its.size->(du prog w).is h' (key j) (ka j):=λj hj=>oz (ht j hj) λo e=>bl _ o (lk j hj) e
  refine we (vC (we (wpAny_tryCatch (YD hp ?_))));refine vC (wpAny_dictSet_heap (knd:=du prog w) (k:=key i) hu (ht' i lt) hs' (λh2 hd2 sb=>?_) (by rw[wm,vy,qW];omega))
  have e2:storedH ((wx i).map λj=>(key j,ka j,val j)) (key i) (ka i) (val i)=(wx (i+1)).map λj=>(key j,ka j,val j):=by
   rw[storedH_new,QM,vx]
   ·rfl
   ·cases e:atKey ((wx i).map λj=>(key j,ka j,val j)) (key i)with
    | none=>rfl
    | some p =>
     unfold atKey at e;rw[VC]at e;obtain⟨y,hy',_⟩:=e;have hm:=xy hy';have hp':=Ud hy';obtain⟨j,hj,rfl⟩:=wS.mp hm;have hj:=wI.mp hj;have:=hk j i (by omega) lt (of_decide_eq_true hp');omega
  rw[e2]at hd2;have sb:vn d h' h2:=sb;refine wo ⟨plainId_quiet sA _,?_⟩;have bl2:kc base h' h2:=λc o hc e=>sb.extBut c o (wL (wU hc B.bd)) e
  have:=ih (i+1) {s with heap:=h2,toks:=tk+(du prog w).draws (key i)} (by omega) lt (st'.but B sb) (λj hj=>oz (ht' j hj) λo e=>bl2 _ o (lk j hj) e) hd2 λg tk' bl3 dd=>r g tk' (bl.trans (bl2.trans bl3)) dd
  exact this
end
section
variable{prog:wJ}{w:wM}{A:wW}{E:wg->wl->Prop}{s:wl}{base z TI TO i1 i2 a b:wf}{its jts:Array wg}{key:Nat->List Int}{ka:Nat->wf}{val:Nat->wg}{x0 y0:wg}
theorem SW(B:ZB base z TI TO i1 i2 s.heap.objs.size a b)(hh:A.handled=none)(hu:A.units+3<WF)(hl:jts.size=its.size)(hn:its.size<=999)(hx:∀i,i<its.size->its[i]? = some (.ref (ka i)))(hy:∀i,i<its.size->jts[i]? = some (val i))
  (lk:∀i,i<its.size->ka i<base) (hk:∀i j,i<its.size->j<its.size->key i=key j->i=j) (hz:IsZip s.heap z TI TO .none) (hi:WK s.heap TI (.ref i1) (.ref i2)) (ho:WK s.heap TO x0 y0) (s1:s.heap.IsTupleIter i1 a 0) (t1:s.heap.IsTuple a its) (s2:s.heap.IsTupleIter i2 b 0) (t2:s.heap.IsTuple b jts)
  (hK:∀j,j<its.size->(du prog w).is s.heap (key j) (ka j)) {Q:wg->wl->Prop}
  (q:∀(g:wH)(tk:Nat),kc base s.heap g->g.DictOfH (du prog w) s.heap.objs.size ((wx its.size).map λj=>(key j,ka j,val j))->Q (.ref s.heap.objs.size) {s with heap:=g,toks:=tk}) :
  wq (model prog w) A (call (.type "dict") [.ref z]) Q E s:=by
 refine callType_codes (Q₁:=λobj s₁=>obj=.ref s.heap.objs.size/\s₁ = {s with heap:=s.heap.push {cls:=.type "dict",data:=.dict #[]}}) PySem.F.kt_called_dict (PySem.F.kt_typeCall_dict_1 _) PySem.F.entry_dict_init (kt_code_dict_new _ ⟨rfl,rfl⟩) ?_;rintro obj s₁ ⟨rfl,rfl⟩;have hnew:(s.heap.push {cls:=.type "dict",data:=.dict #[]}).DictOfH (du prog w) s.heap.objs.size []:=Heap.DictOfH.new s.heap;have hz':IsZip (s.heap.push {cls:=.type "dict",data:=.dict #[]}) z TI TO .none:=wn _ hz;refine⟨hnew.typeIs,PySem.F.args_dict_init_2 _ _,?_⟩;unfold Builtin.«dict.__init__»;refine we ?_;unfold Builtin.Dict.selfAndRest;refine we (wpAny_notOrdered_dict hnew.typeIs ?_)
 show wq _ _ (pure (s.heap.objs.size,[Value.ref z])) _ _ _
 refine wo ?_
 show wq _ _ (xL "dict.__init__" s.heap.objs.size (.ref z) [] .none) _ _ _
 unfold xL;refine we (wpAny_typeOf (T:="zip") ⟨_,hz',rfl⟩ ?_);rw[if_pos (by decide)];refine we (zyK hz' (by exact hh) λh1 tk1 kp1=>?_);simp only[Option.isNone_none,if_true];refine we (qp ?_);have kp0:∀b o,s.heap.get? b=some o->h1.get? b=some o:=λb o e=>kp1 b o (wn _ e)
 have dn:h1.DictOfH (du prog w) s.heap.objs.size []:=by
  obtain⟨o,es,ep,ho,hc,hda,he,his,hn⟩:=hnew;exact⟨o,es,ep,kp1 _ _ ho,hc,hda,he,(λx hx=>by cases hx),hn⟩
 refine we (wpAny_pyIter_zip (kp0 _ _ hz) ?_);refine wo ⟨plainId_quiet sA _,?_⟩;refine zCB B (by exact hh) (show A.units+1+1+1<WF by omega) hl hn hx hy lk hk (its.size-0) 0 _ rfl (Wu _) ⟨kp0 _ _ hi,⟨s1.at λo e=>kp0 _ o e,t1.at λo e=>kp0 _ o e⟩,⟨s2.at λo e=>kp0 _ o e,t2.at λo e=>kp0 _ o e⟩,.inl ⟨x0,y0,kp0 _ _ hz,kp0 _ _ ho⟩⟩ (λj hj=>oz (hK j hj) λo e=>kp0 _ o e) dn λg tk bl dd=>?_
 exact⟨rfl,q g tk (λc o hc e=>bl c o hc (kp0 c o e)) dd⟩
end
end TB
namespace L2
open PySem PySem.Spec PyProof.Rows GM
open TB (du fJ fC)
theorem zvY:vU "dict"=some (.type "dict"):=by decide +kernel
def gc(ks:List (List Int))(us ws:List wf):List NE:=(wx us.length).map λj=>(ks.getD j [],us.getD j 0,ws.getD j 0)
def IK(K:wb)(vs:List V)(H1:Hp)(Q:VK):Prop:=∃(a b:wf)(ks:List (List Int))(us ws:List wf),vs=[.ref a,.ref b]/\aR K H1 a (us.map V.ref)/\aR K H1 b (ws.map V.ref)/\us.length=ws.length/\us.length<=999/\ao K H1 (us.map V.ref) (ks.map TZ)/\ks.Nodup /\
 ∀D ep,H1 D=none->Q (.ref D) (upd H1 D (g_ D ep (gc ks us ws)))
def Lg(K:wb)(ta:TA):TE:=λσ H Q=>ta σ H λvs H1=>IK K vs H1 Q
theorem zB7{n d a b:Nat}(la:a<n)(lb:b<n)(hd:n+5<=d):TB.ZB n (n+4) (n+2) (n+3) n (n+1) d a b where
 ap:=OC la lb
 na:=wL la
 nb:=wL (W2 lb)
 bz:=WZ _ 4
 bO:=WZ _ 3
 b1:=wp _
 b2:=WZ _ 1
 bd:=by show n<=d;omega
 dz:=vi (by omega)
 dI:=vi (by omega)
 dO:=vi (by omega)
 d1:=vi (by omega)
 d2:=vi (by omega)
 la:=la
 lb:=lb
theorem Zd{ks:List (List Int)}{us ws:List wf}(h:ks.length=us.length):(gc ks us ws).map (·.1)=ks:=by
 unfold gc;rw[WH];refine List.ext_getElem? λj=>?_
 rw[wu];rcases wz j us.length with z | z
 ·rw[vZ z,wc (by omega:j<ks.length)]
  show some (ks.getD j [])=_
  rw[wa,wc (by omega:j<ks.length)]
  rfl
 ·rw[wE (by simpa using z),wE (by omega)]
  rfl
section
variable{X:Cx}{o i:Expr}{pos:Pos}{td ty:TE}
theorem zwP{l m:Expr}{ta:TA}{p p2 pos2:Pos}(hc:X.calm=true)(hu:X.A.units+4<WF)(hg:Gl X "dict")(hm:X.mg "dict"=none)(hg2:Gl X "zip")(hm2:X.mg "zip"=none)(ha:PA X [l,m] ta)(hs:va [l,m] X.env=[(false,eval l X.env),(false,eval m X.env)]:=by rfl)(hs2:va [m] X.env=[(false,eval m X.env)]:=by rfl)
   (hs3:va [Expr.Call (.Name "zip" p2) [l,m] [] pos2] X.env=[(false,eval (.Call (.Name "zip" p2) [l,m] [] pos2) X.env)]:=by rfl):PE X (.Call (.Name "dict" p) [.Call (.Name "zip" p2) [l,m] [] pos2] [] pos) (Lg X.K ta):=by
 intro pins s σ H Q I h;refine Call_ (gx I hg hm zvY ?_);refine vD ?_ hs3 rfl;rw[hs3]
 show wq _ _ (spliced ((false,eval _ X.env)::Vs pos [])) _ _ s
 refine Q3 ?_;refine Call_ (gx I hg2 hm2 Dq (vD (aJ (ha pos2 pins s σ H _ I h) λus s1 ⟨vs,H1,I1,r1,q1⟩=>?_) (by rw[hs,hs2]) (by rw[hs2];rfl)));obtain⟨a,b,ks,us',ws,rfl,hq1,hq2,hl,hn,hk,nd,q⟩:=q1;obtain⟨u,v,rfl,ru,rv⟩:=j9 r1;cases ru;cases rv;obtain⟨its,ri,p1⟩:=I1.iZ (t:=true) hq1;obtain⟨jts,rj,p2⟩:=I1.iZ (t:=true) hq2;have p1:s1.heap.IsTuple a its.toArray:=p1;have p2:s1.heap.IsTuple b jts.toArray:=p2;have la:a<s1.heap.objs.size:=by obtain⟨o,e,_⟩:=p1;exact wA e
 have lb:b<s1.heap.objs.size:=by obtain⟨o,e,_⟩:=p2;exact wA e
 have li:=ri.length;have lj:=rj.length;have lk:=hk.length;simp only[wm]at li lj lk;refine LY p1 p2 λh' hz hi ho t1 t2 kp=>?_
 refine xn ?_;have hd:s1.heap.objs.size+5<=h'.objs.size:=wA hz
 have hx:∀j,j<its.toArray.size->its.toArray[j]? = some (Value.ref (us'.getD j 0)):=λj hj=>by
   have hj:j<us'.length:=by simpa [li] using hj
   have:=tZ ri (show(us'.map V.ref)[j]? = some (V.ref (us'.getD j 0)) by rw[wu,wa,wc hj];rfl)
   simpa using this
 have hy:∀j,j<its.toArray.size->jts.toArray[j]? = some (Value.ref (ws.getD j 0)):=λj hj=>by
   have hj : j < ws.length := by have : j < us'.length := by simpa [li] using hj
                                 omega
   have:=tZ rj (show(ws.map V.ref)[j]? = some (V.ref (ws.getD j 0)) by rw[wu,wa,wc hj];rfl)
   simpa using this
 have hK:∀j,j<its.toArray.size->(du X.prog X.w).is s1.heap (ks.getD j []) (us'.getD j 0):=λj hj=>by
   have hj:j<us'.length:=by simpa [li] using hj
   have:=(nN hk (i:=j) (x:=.ref (us'.getD j 0)) (by rw[wu,wa,wc hj];rfl)).2
   have ek:(ks.map TZ).getD j .none=TZ (ks.getD j []):=by
     rw[wa,wu,wa,wc (by omega:j<ks.length)]
     rfl
   rw[ek]at this;exact I1.nK this
 refine TB.SW (zB7 la lb hd) (I1.ok.hd hc) (by omega) (by simp only[wR];omega) (by simp only[wR];omega) hx hy (λj hj=>?_) (λi j hi' hj e=>?_) hz hi ho t1 (p1.at λo e=>kp _ o e) t2 (p2.at λo e=>kp _ o e) (λj hj=>TB.oz (hK j hj) λo e=>kp _ o e) λg tk bl dd=>?_
 . obtain⟨a',o,items,n,ea,ho',_⟩:=hK j hj
   cases ea;exact wA ho'
 . have hi' : i < ks.length := by have : i < its.length := by simpa using hi'
                                  omega
   have hj : j < ks.length := by have : j < its.length := by simpa using hj
                                 omega
   rw[wa,wa,wc hi',wc hj]at e;have pw:=vY.mp nd;rcases WS i j with z | z | z
   . exact absurd e (pw i j hi' hj z)
   . exact z
   . exact absurd e.symm (pw j i hj hi' z)
 . obtain⟨o,es,ep,ho',hxd,hda,he,his,hnd⟩:=dd
   refine⟨.ref h'.objs.size,_,I1.laid (t':=tk) (a:=h'.objs.size) (o:=g_ h'.objs.size ep (gc ks us' ws)) (λc o e=>bl c o (wA e) (kp c o e)) (by omega) (Z8 ?_ (beq_eq_false_iff_ne.mpr (Wp (wL ?_))) ?_ ho' hxd hda ?_),rfl,q _ ep (I1.aF.fresh (by omega))⟩
   . unfold gc;rw[wm,vy];omega
   . exact wU I1.big (by omega)
   . rw[Zd (by omega)];exact nd
   . rw[he]
     have:((wx its.toArray.size).map λj=>(ks.getD j [],us'.getD j 0,Value.ref (ws.getD j 0)))=iJ (gc ks us' ws):=by
       unfold iJ gc;rw[WH,wR,<- li]
       rfl
     rw[this];exact Pq _
def BI(K:wb)(td ty:TE):TE:=λσ H Q=>td σ H λx H1=>ty σ H1 λy H2=>∃a b ep xs k l,x=.ref a/\y=.ref b/\H2 a=some (g_ a ep xs)/\AA K H2 xs/\Is K H2 (.ref b) (TZ k)/\lJ xs k=some l/\Q (.ref l) H2
theorem zBB{pins:List (wf × Obj)}{σ : St}{H:Hp}{s:wl}{a b l:wf}{ep:Nat}{xs:List NE}{k:List Int}{A:wW}{E:wg->wl->Prop}{Q:wg->wl->Prop}(hu:A.units+4<WF)(I:Inv X pins σ H s)(e:H a=some (g_ a ep xs))(hk:AA X.K H xs)(hb:Is X.K H (.ref b) (TZ k))(hl:lJ xs k=some l)(h:∀s',Inv X pins σ H s'->Q (.ref l) s') :
  wq (model X.prog X.w) A (getItem (.ref a) (.ref b)) Q E s:=by
 obtain⟨z,hd,nd,o,es,ho,hx,hda,r⟩:=I.IE e;have zk:(iJ xs).map (·.1)=xs.map (·.1):=by unfold iJ;rw[WH];rfl
 have dd:s.heap.DictOfH (du X.prog X.w) a (iJ xs):=⟨o,es,ep,ho,hx,hda,zCn r,λx hx=>by
  obtain⟨y,hy,rfl⟩:=wS.mp hx;exact I.nK (hk y hy),by rw[zk];exact nd⟩
 have lk:=zA2 xs k;rw[hl]at lk;cases e2:atKey (iJ xs) k with
 | none=>rw[e2]at lk;cases lk
 | some p =>
  rw[e2]at lk;have:p.2=Value.ref l:=wK lk;obtain⟨p1,p2⟩:=p;have:p2=Value.ref l:=this;subst this;exact wpAny_getItem_heap (knd:=du X.prog X.w) (show A.units+1+1<WF by omega) (I.nK hb) dd e2 (h _ (I.tok _))
theorem zwU(hu:X.A.units+4<WF)(ho:PE X o td)(hi:PE X i ty)(hs:JT i):PE X (.Subscript o i pos) (BI X.K td ty):=by
 intro pins s σ H Q I h;refine zy3 PySem.F.slot_dict_getitem.lookup hs (aJ (ho pins s σ H _ I h) λu s1 ⟨x,H1,I1,rx,q1⟩=>aJ (hi pins s1 σ H1 _ I1 q1) λiv s2 ⟨y,H2,I2,ry,a,b,ep,xs,k,l,ex,ey,e,hk,hb,hl,q2⟩=>?_);subst ex ey;obtain rfl:u=Value.ref a:=rx;obtain rfl:iv=Value.ref b:=ry;obtain⟨_,_,_,od,es,g1,g2,_,_⟩:=I2.IE e;exact⟨⟨od,g1,g2.1⟩,zBB hu I2 e hk hb hl λs3 I3=>⟨.ref l,H2,I3,rfl,q2⟩⟩
end
section
variable{K:wb}{σ : St}{H:Hp}{Q:VK}{td ty:TE}{ta:TA}
theorem zwz(h:ta σ H λvs H1=>IK K vs H1 Q):Lg K ta σ H Q:=h
theorem zwm(h:td σ H λx H1=>ty σ H1 λy H2=>∃a b ep xs k l,x=.ref a/\y=.ref b/\H2 a=some (g_ a ep xs)/\AA K H2 xs/\Is K H2 (.ref b) (TZ k)/\lJ xs k=some l/\Q (.ref l) H2):BI K td ty σ H Q:=h
end
end L2
namespace G
open PySem PySem.Spec PyProof.Rows L2 GM
local macro_rules | `(tactic| wtm_at "sc")=>`(tactic| exact ⟨rfl,rfl,rfl,by decide +kernel,rfl,by decide +kernel,by decide +kernel⟩)
def top(i:Nat):vj:=Vx.main.body.getD i (.Pass ⟨0,0,0,0⟩)
abbrev EM:vj:=top 14
abbrev CF:List Str:=["thing"]
abbrev yZ:=CF
theorem zqi:aT CF yZ (az EM):=by wtm_at "sc"
abbrev C_:vj:=top 15
abbrev KH:List Str:=["one","other","rest"]
abbrev Ax:List Str:=["one","other"]
theorem yy:aT KH Ax (az C_):=by wtm_at "sc"
abbrev Fp:vj:=top 16
abbrev Cd:List Str:=["thing"]
abbrev Ai:=Cd
theorem zpu:aT Cd Ai (az Fp):=by wtm_at "sc"
abbrev B4:vj:=top 17
abbrev LH:List Str:=["one","other","shared","top","divisor"]
abbrev yI:List Str:=["one","other"]
theorem sR:aT LH yI (az B4):=by wtm_at "sc"
abbrev Di:vj:=top 18
abbrev EX:List Str:=["one","other"]
abbrev tF:=EX
theorem zxt:aT EX tF (az Di):=by wtm_at "sc"
abbrev EH:vj:=top 19
abbrev OT:List Str:=["one","other","first","second"]
abbrev sO:List Str:=["one","other"]
theorem BJ:aT OT sO (az EH):=by wtm_at "sc"
abbrev Em:vj:=top 20
abbrev OG:List Str:=["one","other","turned"]
abbrev zM:List Str:=["one","other"]
theorem L4:aT OG zM (az Em):=by wtm_at "sc"
abbrev B3:vj:=top 21
abbrev Er:List Str:=["one","other"]
abbrev zW:=Er
theorem zza:aT Er zW (az B3):=by wtm_at "sc"
abbrev BH:vj:=top 26
abbrev Bw:List Str:=["a"]
abbrev AB:=Bw
theorem zo7:aT Bw AB (az BH):=by wtm_at "sc"
abbrev DW:vj:=top 27
abbrev BW:List Str:=["b"]
abbrev Ar:=BW
theorem zrM:aT BW Ar (az DW):=by wtm_at "sc"
abbrev B6:vj:=top 28
abbrev EL:List Str:=["a","b"]
abbrev As:=EL
theorem zp3:aT EL As (az B6):=by wtm_at "sc"
abbrev A4:vj:=top 29
abbrev B0:List Str:=["thing"]
abbrev tQ:=B0
theorem zsi:aT B0 tQ (az A4):=by wtm_at "sc"
abbrev Fj:vj:=top 30
abbrev C1:List Str:=["rule"]
abbrev zf:=C1
theorem zy8:aT C1 zf (az Fj):=by wtm_at "sc"
abbrev DU:vj:=top 31
abbrev KP:List Str:=["rule","many","factor","shift","done"]
abbrev tG:List Str:=["rule","many"]
theorem nJ:aT KP tG (az DU):=by wtm_at "sc"
abbrev EU:vj:=top 32
abbrev A8:List Str:=["push","x"]
abbrev u_:=A8
theorem zoR:aT A8 u_ (az EU):=by wtm_at "sc"
abbrev C9:vj:=top 36
abbrev DN:List Str:=["thing"]
abbrev zu:=DN
theorem zqR:aT DN zu (az C9):=by wtm_at "sc"
abbrev yj:vj:=top 37
abbrev zw:List Str:=["thing"]
abbrev za:=zw
theorem znq:aT zw za (az yj):=by wtm_at "sc"
abbrev Ew:vj:=top 38
abbrev DS:List Str:=["rule","phases"]
abbrev yo:=DS
theorem zro:aT DS yo (az Ew):=by wtm_at "sc"
abbrev BF:vj:=top 39
abbrev Lu:List Str:=["phases","told","phase"]
abbrev yK:List Str:=["phases"]
theorem yz:aT Lu yK (az BF):=by wtm_at "sc"
abbrev t_:vj:=top 40
abbrev tL:List Str:=["phases","phase"]
abbrev Ap:=tL
theorem zrc:aT tL Ap (az t_):=by wtm_at "sc"
abbrev z8:vj:=top 41
abbrev C7:List Str:=["swarm","told","left","phase"]
abbrev yA:List Str:=["swarm"]
theorem oN:aT C7 yA (az z8):=by wtm_at "sc"
abbrev tM:vj:=top 42
abbrev zY:List Str:=["worms","phases"]
abbrev tP:=zY
theorem Y7:aT zY tP (az tM):=by wtm_at "sc"
abbrev m6:vj:=top 43
abbrev pA:List Str:=["swarm","wait","phases","left","waves","wave","push","worm","anew"]
abbrev sD:List Str:=["swarm"]
theorem iu:aT pA sD (az m6):=by wtm_at "sc"
abbrev Cf:vj:=top 45
abbrev Ol:List Str:=["swarm","many","rows","hour","stand","done","told"]
abbrev z9:List Str:=["swarm","many"]
theorem kz:aT Ol z9 (az Cf):=by wtm_at "sc"
abbrev Be:vj:=top 46
abbrev Kg:List Str:=["swarm","many","rows","last"]
abbrev Ac:List Str:=["swarm","many"]
theorem BV:aT Kg Ac (az Be):=by wtm_at "sc"
abbrev Fz:vj:=top 48
abbrev DM:List Str:=["swarm"]
abbrev tT:=DM
theorem zsS:aT DM tT (az Fz):=by wtm_at "sc"
abbrev oU:vj:=top 49
abbrev zQ:List Str:=["swarm","rows","sizes","places"]
abbrev Au:List Str:=["swarm"]
theorem x_:aT zQ Au (az oU):=by wtm_at "sc"
abbrev tX:vj:=top 50
abbrev Fo:List Str:=["rule","size","phases","turn","wait","push","told"]
abbrev sh:List Str:=["rule","size","phases","turn"]
theorem yW:aT Fo sh (az tX):=by wtm_at "sc"
abbrev Dm:vj:=top 51
abbrev Ou:List Str:=["rule","sizes","places","told","turn","size"]
abbrev yO:List Str:=["rule","sizes","places"]
theorem sW:aT Ou yO (az Dm):=by wtm_at "sc"
abbrev CB:vj:=top 52
abbrev Dj:List Str:=["rule","sizes","places"]
abbrev zd:=Dj
theorem zll:aT Dj zd (az CB):=by wtm_at "sc"
abbrev Cu:vj:=top 53
abbrev Po:List Str:=["rule","sizes","places","told","rows","turn"]
abbrev tJ:List Str:=["rule","sizes","places"]
theorem rp:aT Po tJ (az Cu):=by wtm_at "sc"
abbrev Aj:vj:=top 54
abbrev Cr:List Str:=["rule","sizes","places","rows","count"]
abbrev zP:List Str:=["rule","sizes","places"]
theorem Ba:aT Cr zP (az Aj):=by wtm_at "sc"
abbrev oE:vj:=top 55
abbrev sS:List Str:=["rule","sizes","places","steps"]
abbrev zR:List Str:=["rule","sizes","places"]
theorem RL:aT sS zR (az oE):=by wtm_at "sc"
abbrev zm:vj:=top 56
abbrev Cz:List Str:=["rule","sizes","factor","noughts"]
abbrev Ae:List Str:=["rule","sizes"]
theorem Fi:aT Cz Ae (az zm):=by wtm_at "sc"
abbrev Ah:vj:=top 59
abbrev EG:List Str:=["rule","sizes","both","gap"]
abbrev Al:List Str:=["rule","sizes"]
theorem EB:aT EG Al (az Ah):=by wtm_at "sc"
abbrev yd:vj:=top 60
abbrev ze:List Str:=["both","places","of_place","of_shift"]
abbrev zo:=ze
theorem zs6:aT ze zo (az yd):=by wtm_at "sc"
abbrev BU:vj:=top 61
abbrev Oy:List Str:=["both","places","many","push"]
abbrev y7:List Str:=["both","places","many"]
theorem Ka:aT Oy y7 (az BU):=by wtm_at "sc"
abbrev A3:vj:=top 62
abbrev Fn:List Str:=["rule","sizes","places","many"]
abbrev ym:=Fn
theorem zkk:aT Fn ym (az A3):=by wtm_at "sc"
abbrev Bh:vj:=top 63
abbrev JG:List Str:=["both","places","many","of_place","of_shift","done"]
abbrev zK:List Str:=["both","places","many"]
theorem oo:aT JG zK (az Bh):=by wtm_at "sc"
abbrev zZ:vj:=top 64
abbrev Et:List Str:=["rule","sizes","places","many","count","mean"]
abbrev yt:List Str:=["rule","sizes","places","many"]
theorem Cq:aT Et yt (az zZ):=by wtm_at "sc"
abbrev yg:vj:=top 65
abbrev yG:List Str:=["rule","sizes"]
abbrev Ay:=yG
theorem zlq:aT yG Ay (az yg):=by wtm_at "sc"
abbrev y9:vj:=top 66
abbrev CP:List Str:=["rule","sizes","places","way"]
abbrev sM:List Str:=["rule","sizes","places"]
theorem LS:aT CP sM (az y9):=by wtm_at "sc"
abbrev Br:vj:=top 67
abbrev P_:List Str:=["rule","sizes","places","both","ahead","count"]
abbrev tW:List Str:=["rule","sizes","places"]
theorem pE:aT P_ tW (az Br):=by wtm_at "sc"
abbrev sE:vj:=top 69
abbrev Dx:List Str:=["swarm","rounds","both","later","now","phases"]
abbrev zc:List Str:=["swarm","rounds"]
theorem oK:aT Dx zc (az sE):=by wtm_at "sc"
abbrev DE:vj:=top 70
abbrev Lh:List Str:=["swarm","rounds","glows","first","then"]
abbrev zS:List Str:=["swarm","rounds","glows"]
theorem A7:aT Lh zS (az DE):=by wtm_at "sc"
abbrev DY:vj:=top 71
abbrev Lx:List Str:=["swarm","both"]
abbrev sJ:List Str:=["swarm"]
theorem RK:aT Lx sJ (az DY):=by wtm_at "sc"
abbrev Du:vj:=top 72
abbrev Of:List Str:=["swarm","count","told"]
abbrev sV:List Str:=["swarm"]
theorem pV:aT Of sV (az Du):=by wtm_at "sc"
abbrev C5:vj:=top 73
abbrev N1:List Str:=["hour","swarm","both","rounds","glows"]
abbrev sv:List Str:=["hour","swarm"]
theorem An:aT N1 sv (az C5):=by wtm_at "sc"
abbrev CS:vj:=top 74
abbrev Sb:List Str:=["swarm","rows","word","row","told","hour"]
abbrev zO:List Str:=["swarm"]
theorem kZ:aT Sb zO (az CS):=by wtm_at "sc"
abbrev Ey:vj:=top 75
abbrev Rp:List Str:=["swarm","last"]
abbrev tV:List Str:=["swarm"]
theorem Ox:aT Rp tV (az Ey):=by wtm_at "sc"
abbrev Dz:vj:=top 77
abbrev R5:List Str:=["_law_script","_law_k","_law_cell"]
abbrev yR:List Str:=["_law_script","_law_k"]
theorem zj:aT R5 yR (az Dz):=by wtm_at "sc"
abbrev Cw:vj:=top 78
abbrev OQ:List Str:=["_law_pen_here","_law_many","_law_drawn","_law_mixed"]
abbrev zV:List Str:=["_law_pen_here","_law_many"]
theorem w_:aT OQ zV (az Cw):=by wtm_at "sc"
abbrev Bb:vj:=top 79
abbrev M0:List Str:=["_law_top","_law_bottom","_law_one","_law_other"]
abbrev ye:List Str:=["_law_top","_law_bottom"]
theorem oP:aT M0 ye (az Bb):=by wtm_at "sc"
abbrev BQ:vj:=top 80
abbrev Co:List Str:=["_law_one","_law_other"]
abbrev y_:=Co
theorem Ym:aT Co y_ (az BQ):=by wtm_at "sc"
abbrev yf:vj:=top 81
abbrev Fm:List Str:=["_law_caught","_law_some","_law_found"]
abbrev yT:List Str:=["_law_caught"]
theorem lE:aT Fm yT (az yf):=by wtm_at "sc"
abbrev Eo:vj:=top 82
abbrev Rm:List Str:=["_law_pen_here","_law_most","_law_bottom","_law_found","_law_k","_law_way_here","_law_under"]
abbrev sT:List Str:=["_law_pen_here","_law_most"]
theorem mw:aT Rm sT (az Eo):=by wtm_at "sc"
abbrev lK:vj:=top 83
abbrev mG:List Str:=["_law_rule","_law_sizes","_law_places","_law_a","_law_under_a","_law_b","_law_under_b","_law_bottom","_law_one","_law_now","_law_waits","_law_rows","_law_size","_law_rise","_law_turn"]
abbrev yB:List Str:=["_law_rule","_law_sizes","_law_places"]
theorem fc:aT mG yB (az lK):=by wtm_at "sc"
abbrev Bu:vj:=top 84
abbrev Mb:List Str:=["_law_swarm","_law_found","e"]
abbrev tO:List Str:=["_law_swarm"]
theorem pP:aT Mb tO (az Bu):=by wtm_at "sc"
abbrev Ce:vj:=top 85
abbrev Mf:List Str:=["_law_pen_here","_law_a"]
abbrev z6:List Str:=["_law_pen_here"]
theorem JO:aT Mf z6 (az Ce):=by wtm_at "sc"
abbrev EI:vj:=top 86
abbrev Dr:List Str:=["_law_one","_law_other"]
abbrev sQ:=Dr
theorem zs7:aT Dr sQ (az EI):=by wtm_at "sc"
abbrev zl:vj:=top 87
abbrev Es:List Str:=["_law_swarm","_law_rule","_law_sizes","_law_places","_law_goal","_law_factor","_law_turn","_law_rows","_law_told","_law_later","_law_k","_law_way_here"]
abbrev sX:List Str:=["_law_swarm"]
theorem fY:aT Es sX (az zl):=by wtm_at "sc"
abbrev yu:vj:=top 88
abbrev LP:List Str:=["_law_script","_law_k","_law_pen_here","_law_rule","_law_some","_law_swarm","_law_found","_law_a","_law_under_a","_law_b","_law_under_b"]
abbrev sx:List Str:=["_law_script"]
theorem iT:aT LP sx (az yu):=by wtm_at "sc"
set_option genInjectivity false in
structure Ad where
 Hz:wf
 Gw:wG
 FI:wf
 FA:wG
 Ht:wf
 Gs:wG
 plus:wf
 Ia:wG
 minus:wf
 HP:wG
 times:wf
 HL:wG
 over:wf
 HW:wG
 less:wf
 Ig:wG
 Hm:wf
 Ge:wG
 HG:wf
 GK:wG
 Hh:wf
 Gn:wG
 Ij:wf
 GY:wG
 IF:wf
 Il:wG
 Ip:wf
 Hg:wG
 Hq:wf
 Gh:wG
 HH:wf
 GC:wG
 G3:wf
 F_:wG
 HB:wf
 GO:wG
 HF:wf
 GA:wG
 HI:wf
 Gv:wG
 Ir:wf
 Hs:wG
 GZ:wf
 FY:wG
 mi:wf
 Ic:wG
 H_:wf
 G6:wG
 behind:wf
 Hj:wG
 Ib:wf
 GU:wG
 laid:wf
 Ik:wG
 F6:wf
 FD:wG
 rW:wf
 Hy:wG
 Gq:wf
 FQ:wG
 GV:wf
 Ga:wG
 ia:wf
 HZ:wG
 HU:wf
 Hb:wG
 Hi:wf
 Gg:wG
 IA:wf
 HA:wG
 Ih:wf
 G9:wG
 Iq:wf
 Ho:wG
 F0:wf
 FJ:wG
 FR:wf
 FC:wG
 Gx:wf
 FV:wG
 Gi:wf
 FK:wG
 Ha:wf
 FW:wG
 GL:wf
 FT:wG
 Gd:wf
 FG:wG
 G1:wf
 F8:wG
 Ii:wf
 G8:wG
 F7:wf
 FE:wG
 HK:wf
 GF:wG
 HC:wf
 GB:wG
 IJ:wf
 HS:wG
 Ie:wf
 GW:wG
 HN:wf
 GI:wG
 HY:wf
 He:wG
 HM:wf
 GJ:wG
 HE:wf
 GN:wG
 G_:wf
 F9:wG
 Hl:wf
 Gu:wG
 HQ:wf
 Gy:wG
 GQ:wf
 FU:wG
 HX:wf
 G7:wG
 G2:wf
 FZ:wG
 law:wf
 Io:wG
 dY:wf
 cJ:wf
 rN:wf
 rQ:wf
 rJ:wf
 rV:wf
 rG:wf
 rP:wf
 rF:wf
 AJ:wf
 c_:wf
 dU:wf
 AD:wf
structure Dn(K:wb)(mg:Str->Option wg)(n:Str)(st:vj)(ps:List Str)(f:wf)(fd:wG):Prop where
 F:jr K n n st f fd
 g:mg n=some (.ref f)
 b:kG K fd ps []
section
variable{X:Cx}{x:Str}{f:wf}{fd:wG}{ps:List Str}{sp:Sp}{j k:Nat}{e:Expr}{es:List Expr}{t:TA}{pos pp:Pos}{st:vj}{CX:fv}
theorem jO{E:XK}(F:aN X.prog X.w X.K X.mg X.base CX k f fd ps sp)(hr:dF j X.A)(D:Dn X.K X.mg x st ps f fd)(hx:nB CX X E)(ha:PA X (e::es) t)(hj:k<=j:=by decide)(hg:Gl X x:=by exact rfl)
  (hdb:(x == ("__debug__" : Str))=false:=by decide) (he:va (e::es) X.env=(false,eval e X.env)::va es X.env:=by rfl) (hpl:(Vs pos (va es X.env)).any (·.1)=false:=by rfl) :
  PE X (.Call (.Name x pp) (e::es) [] pos) (kY sp [] E t):=PV F (hr.mono hj) hg D.g D.F.kp D.b .nil hx ha hdb he hpl
theorem ar(F:aN X.prog X.w X.K X.mg X.base aU k f fd ps sp)(hr:dF j X.A)(D:Dn X.K X.mg x st ps f fd)(ha:PA X (e::es) t)(hj:k<=j:=by decide)(hg:Gl X x:=by exact rfl)
  (hdb:(x == ("__debug__" : Str))=false:=by decide) (he:va (e::es) X.env=(false,eval e X.env)::va es X.env:=by rfl) (hpl:(Vs pos (va es X.env)).any (·.1)=false:=by rfl) :
  PE X (.Call (.Name x pp) (e::es) [] pos) (kY sp [] E0 t):=PV F (hr.mono hj) hg D.g D.F.kp D.b .nil zB8 ha hdb he hpl
theorem au{ta:TE}{i:Int}{kd}(ha:PE X e ta):PE X (.Subscript e (.Constant (.int i) kd pp) pos) (lU (dB X.K) ta (tC (.int i))):=di cF ha aA (λ_ _=>rfl)
theorem p_{K:wb}{ta:TE}{i:Int}{kd}(hr:gA X (dB K))(ha:PE X e ta):PE X (.Subscript e (.Constant (.int i) kd pp) pos) (lU (dB K) ta (tC (.int i))):=di hr ha aA (λ_ _=>rfl)
theorem ay(i:Nat){te:TE}(hN:X.N.Nodup)(he:PE X e te)(hi:X.N[i]? = some x:=by exact rfl)(hx:Loc X.env.scope x:=by first | exact Or.inl rfl | exact Or.inr rfl)(hs:swapsWith e (some (.Name x pp)) pos.line X.env=pure false:=by rfl)(hf:X.fn x=true\/X.env.scope.names.lookup x=some .local:=by first | exact .inl rfl | exact .inr rfl | assumption) :
  PS X (.Assign [.Name x pp] e pos) (kN te (gg i)):=zBZ hN hi hx he hs hf
end
structure Txt(K:wb)(mg:Str->Option wg)(a:Ad):Prop where
 AK:Dn K mg "is_whole" EM yZ a.Hz a.Gw
 md:Dn K mg "greatest_divisor" C_ Ax a.FI a.FA
 rD:Dn K mg "is_number" Fp Ai a.Ht a.Gs
 fN:Dn K mg "plus" B4 yI a.plus a.Ia
 ou:Dn K mg "minus" Di tF a.minus a.HP
 jD:Dn K mg "times" EH sO a.times a.HL
 AZ:Dn K mg "over" Em zM a.over a.HW
 fM:Dn K mg "less" B3 zW a.less a.Ig
 GR:Dn K mg "is_factor" BH AB a.Hm a.Ge
 GS:Dn K mg "is_shift" DW Ar a.HG a.GK
 Gz:Dn K mg "make_rule" B6 As a.Hh a.Gn
 Hw:Dn K mg "is_rule" A4 tQ a.Ij a.GY
 AX:Dn K mg "bend" Fj zf a.IF a.Il
 oq:Dn K mg "pushes" DU tG a.Ip a.Hg
 AI:Dn K mg "pushed_by" EU u_ a.Hq a.Gh
 G4:Dn K mg "is_phase" C9 zu a.HH a.GC
 Gj:Dn K mg "are_phases" yj za a.G3 a.F_
 G5:Dn K mg "swarm_of" Ew yo a.HB a.GO
 AL:Dn K mg "greatest" BF yK a.HF a.GA
 GX:Dn K mg "worms_at" t_ Ap a.HI a.Gv
 rM:Dn K mg "flocks" z8 yA a.Ir a.Hs
 AH:Dn K mg "at_the_end" tM tP a.GZ a.FY
 rZ:Dn K mg "glow" m6 sD a.mi a.Ic
 AR:Dn K mg "history" Cf z9 a.H_ a.G6
 HD:Dn K mg "behind" Be Ac a.behind a.Hj
 AU:Dn K mg "is_laid" Fz tT a.Ib a.GU
 me:Dn K mg "laid" oU Au a.laid a.Ik
 FN:Dn K mg "phases_behind" tX sh a.F6 a.FD
 rO:Dn K mg "stands" Dm yO a.rW a.Hy
 AG:Dn K mg "round_behind" CB zd a.Gq a.FQ
 Gp:Dn K mg "round_time" Cu tJ a.GV a.Ga
 AY:Dn K mg "tops" Aj zP a.ia a.HZ
 rH:Dn K mg "is_free" oE zR a.HU a.Hb
 kO:Dn K mg "round_map" zm Ae a.Hi a.Gg
 rR:Dn K mg "still" Ah Al a.IA a.HA
 AO:Dn K mg "weighed" yd zo a.Ih a.G9
 AV:Dn K mg "led_on" BU y7 a.Iq a.Ho
 FO:Dn K mg "rounds_behind" A3 ym a.F0 a.FJ
 FH:Dn K mg "sums_of_places" Bh zK a.FR a.FC
 FX:Dn K mg "rounds_time" zZ yt a.Gx a.FV
 AF:Dn K mg "draws_freely" yg Ay a.Gi a.FK
 Gr:Dn K mg "stays_free" y9 sM a.Ha a.FW
 Gb:Dn K mg "free_rounds" Br tW a.GL a.FT
 AE:Dn K mg "behind_rounds" sE zc a.Gd a.FG
 Gk:Dn K mg "behind_row" DE zS a.G1 a.F8
 Hx:Dn K mg "word_of" DY sJ a.Ii a.G8
 FP:Dn K mg "glows_to_join" Du sV a.F7 a.FE
 Hc:Dn K mg "next_row" C5 sv a.HK a.GF
 AN:Dn K mg "paper_of" CS zO a.HC a.GB
 rY:Dn K mg "fate" Ey tV a.IJ a.HS
 Hv:Dn K mg "_law_pen" Dz yR a.Ie a.GW
 iX:Dn K mg "_law_draw" Cw zV a.HN a.GI
 h_:Dn K mg "_law_low" Bb ye a.HY a.He
 AM:Dn K mg "_law_less" BQ y_ a.HM a.GJ
 rE:Dn K mg "_law_kind" yf yT a.HE a.GN
 Gm:Dn K mg "_law_phases" Eo sT a.G_ a.F9
 GP:Dn K mg "_law_round" lK yB a.Hl a.Gu
 Hf:Dn K mg "_law_fate" Bu tO a.HQ a.Gy
 F5:Dn K mg "_law_falling" Ce z6 a.GQ a.FU
 AQ:Dn K mg "_law_way" EI sQ a.HX a.G7
 Gf:Dn K mg "_law_nearer" zl sX a.G2 a.FZ
 TR:Dn K mg "law" yu sx a.law a.Io
 z_ValueError:mg "ValueError"=none
 z_abs:mg "abs"=none
 z_all:mg "all"=none
 z_any:mg "any"=none
 z_bool:mg "bool"=none
 z_dict:mg "dict"=none
 z_enumerate:mg "enumerate"=none
 z_int:mg "int"=none
 z_isinstance:mg "isinstance"=none
 z_len:mg "len"=none
 z_list:mg "list"=none
 z_min:mg "min"=none
 z_range:mg "range"=none
 z_set:mg "set"=none
 z_sum:mg "sum"=none
 z_tuple:mg "tuple"=none
 z_zip:mg "zip"=none
 Hn:mg "NoStand"=some (.ref a.dY)
 Hu:mg "TooLong"=some (.ref a.cJ)
 To:mg "NoBack"=some (.ref a.rN)
 Tr:mg "NoRow"=some (.ref a.rQ)
 Tj:mg "NoText"=some (.ref a.rJ)
 Ts:mg "NoWeb"=some (.ref a.rV)
 Tc:mg "NoSwarm"=some (.ref a.rG)
 Tn:mg "NoRule"=some (.ref a.rP)
 SV:mg "NoNumber"=some (.ref a.rF)
 SS:mg "GlowError"=some (.ref a.AJ)
 Td:qj K a.dY oM "ValueError.__new__"=true
 aaa:qH K (.ref a.dY) (.ref a.AJ)=some true
 S_:gI K a.dY
 Sk:wD K (.ref a.dY) (.ref a.dY)=some true
 So:wD K (.ref a.dY) (.ref a.cJ)=some false
 Su:wD K (.ref a.dY) (.ref a.rN)=some false
 SI:wD K (.ref a.dY) (.ref a.rQ)=some false
 Sw:wD K (.ref a.dY) (.ref a.rJ)=some false
 SH:wD K (.ref a.dY) (.ref a.rV)=some false
 Sn:wD K (.ref a.dY) (.ref a.rG)=some false
 Sy:wD K (.ref a.dY) (.ref a.rP)=some false
 Sg:wD K (.ref a.dY) (.ref a.rF)=some false
 Tg:wD K (.ref a.dY) (.type "ValueError")=some true
 Te:qj K a.cJ oM "ValueError.__new__"=true
 Tf:qH K (.ref a.cJ) (.ref a.AJ)=some true
 Ta:gI K a.cJ
 Sr:wD K (.ref a.cJ) (.ref a.dY)=some false
 Sl:wD K (.ref a.cJ) (.ref a.cJ)=some true
 Sx:wD K (.ref a.cJ) (.ref a.rN)=some false
 SJ:wD K (.ref a.cJ) (.ref a.rQ)=some false
 Sz:wD K (.ref a.cJ) (.ref a.rJ)=some false
 SM:wD K (.ref a.cJ) (.ref a.rV)=some false
 Sj:wD K (.ref a.cJ) (.ref a.rG)=some false
 Sv:wD K (.ref a.cJ) (.ref a.rP)=some false
 Si:wD K (.ref a.cJ) (.ref a.rF)=some false
 Ti:wD K (.ref a.cJ) (.type "ValueError")=some true
 dS:mg "NOUGHT"=some (.ref a.c_)
 eI:∀H:Hp,aR K H a.c_ [.int 0,.int 1]
 eU:mg "ONE"=some (.ref a.dU)
 r8:∀H:Hp,aR K H a.dU [.int 1,.int 1]
 Ss:mg "GREATEST_FACTOR"=some (.ref a.AD)
 Sq:∀H:Hp,aR K H a.AD [.int 4,.int 1]
 SG:∃t,mg "FACTOR_BOTTOM"=some (.int 8 t)
 SN:∃t,mg "SHIFT_BOTTOM"=some (.int 12 t)
 SQ:∃t,mg "MOST_WORMS"=some (.int 8 t)
 SO:∃t,mg "PHASE_BOTTOM"=some (.int 60 t)
 SU:∃t,mg "MOST_FREE"=some (.int 30 t)
def Li(a:Ad)(C:wg)(w:Str):Prop:=(C=.ref a.dY/\w="stand")\/(C=.ref a.cJ/\w="long")
end G
open L2 GM in
local macro_rules | `(tactic| wtm_at "is")=>`(tactic| first
 | assumption
 | exact cb.mpr rfl
 | exact lq.mpr rfl
 | exact mO.mpr rfl
 | exact eK.mpr rfl
 | exact Is.T1 (by assumption) (by wtm_at "same")
 | exact Is.thruN (by assumption) (by wtm_at "keep")
 | exact Is.sf (by assumption) (by wtm_at "keep")
 | ((with_reducible apply is_tupAt);(focus assumption);(focus wtm_at "isall");wtm_at "same")
 | ((with_reducible apply is_lstAt);(focus assumption);(focus wtm_at "isall");wtm_at "same")
 | ((with_reducible apply is_dctAt);(focus assumption);wtm_at "same")
 | exact dX 0 (G.Txt.eI (by assumption) _) rfl rfl | exact dX 1 (G.Txt.r8 (by assumption) _) rfl rfl | exact dX 4 (G.Txt.Sq (by assumption) _) rfl rfl
 | fail "is")
open L2 GM in
local macro_rules | `(tactic| wtm_at "isall")=>`(tactic| first
 | exact ao.nil
 | exact ao.cons (by wtm_at "is") (by wtm_at "isall")
 | fail "isall")
open L2 GM in
local macro_rules | `(tactic| wtm_at "ne")=>`(tactic| first
 | assumption
 | (apply Wp;assumption))
/- a list that rW at an address -/
open L2 GM in
local macro_rules | `(tactic| wtm_at "lst")=>`(tactic| first
 | assumption
 | exact ah.at (by assumption) (by wtm_at "lst")
 | exact Exc.at (by assumption) (by wtm_at "ne") (by wtm_at "lst")
 | fail "lst")
open L2 GM in
local macro_rules | `(tactic| wtm_at "same")=>`(tactic| first
 | assumption
 | exact ah.refl _
 | exact ah.back (by assumption) (by wtm_at "same")
 | fail "same")
open L2 GM in
local macro_rules | `(tactic| wtm_at "keep")=>`(tactic| first
 | assumption
 | exact bo.refl _
 | exact ah.keep (by assumption)
 | exact bo.back (by assumption) (by wtm_at "keep")
 | exact bo.back (ah.keep (by assumption)) (by wtm_at "keep")
 | fail "keep")
open L2 GM in
local macro_rules | `(tactic| wtm_at "exc")=>`(tactic| first
 | assumption
 | exact Exc.refl _ _
 | exact Exc.back (by assumption) (by wtm_at "exc")
 | exact Exc.back (ah.exc (by assumption)) (by wtm_at "exc")
 | fail "exc")
open L2 GM in
local macro_rules | `(tactic| wtm_at "sqf")=>`(tactic| first
 | assumption
 | exact bo.Mq (by wtm_at "keep") (by assumption)
 | fail "sqf")
/- how great -/
open L2 GM in
local macro_rules | `(tactic| wtm_at "bd")=>`(tactic| first
 | assumption
 | exact Bd.mk (n:=128) (by decide)
 | exact Bd.mono (m:=128) ⟨by decide⟩ (by decide)
 | exact ag.t (by assumption)
 | exact ag.b (by assumption)
 | exact Bd.mf (by omega) (by omega)
 | (apply Bd.neg;wtm_at "bd")
 | (apply Bd.mul;(focus wtm_at "bd");wtm_at "bd")
 | (apply Bd.add;(focus wtm_at "bd");wtm_at "bd")
 | (apply Bd.sub;(focus wtm_at "bd");wtm_at "bd"))
open L2 GM PySem in
local macro_rules | `(tactic| wtm_at "mulok")=>`(tactic| first
 | exact uh (by decide)
 | exact uP (by decide)
 | exact uh (intBits_le_64 (by omega) (by omega))
 | exact uP (intBits_le_64 (by omega) (by omega))
 | (apply L2.TJ;(focus wtm_at "bd");(focus wtm_at "bd");(focus decide);decide))
open L2 GM PySem in
local macro_rules | `(tactic| wtm_at "side")=>`(tactic| first
 | assumption
 | decide
 | omega
 | wtm_at "mulok"
 | (refine And.intro ?_ ?_<;>wtm_at "side")
 | wtm_at "bd")
open L2 GM in
local macro_rules | `(tactic| wtm_at "gs")=>`(tactic| first
 | wtm_at "sq"
 | with_reducible (first | refine zBD ?_ | refine Y9 ?_ | refine zBf ?_ | refine zCV ?_)
 | ((with_reducible apply DX);(focus rfl))
 | with_reducible (first | refine zDa ?_ | refine Zx ?_ | refine zBy ?_ | refine Z2 ?_ | refine RG ?_ | refine Rv ?_ | refine zyr ?_ | refine zCf ?_ | refine zBt ?_ | refine zA7 ?_ | refine ZR ?_ | refine YB ?_)
 | ((with_reducible apply CU);(focus wtm_at "side"))
 | with_reducible (first | refine zCa ?_ | refine Yj ?_ | refine ZC ?_ | refine Ze ?_ | refine Yg ?_ | refine zAM ?_ | refine zBp ?_ | refine lP ?_ | refine lY ?_)
 | with_reducible refine zzi (λ_=>?_) (λ_=>?_)
 | with_reducible refine Zh (λ_=>?_) (λ_=>?_)
 | with_reducible refine zwD (λ_=>?_) (λ_=>?_)
 | with_reducible refine UR (λ_=>?_) (λ_=>?_)
 | with_reducible (first | refine zAT ?_ | refine Z_ ?_ | refine Yb ?_ | refine zzE ?_ | refine Zz ?_ | refine Zm ?_ | refine zzt ?_ | refine zyW ?_ | refine zzr ?_ | refine zyh ?_ | refine zy4 ?_ | refine zAN ?_ | refine zyN ?_ | refine BS ?_ | refine CJ ?_ | refine MH ?_ | refine Yr ?_)
 | ((with_reducible apply zyM);(focus wtm_at "is"))
 | ((with_reducible apply zzz);(focus wtm_at "is"))
 | ((with_reducible apply jo);(focus(apply aI.of;wtm_at "lst"));(focus rfl))
 | ((with_reducible apply Ef);(focus assumption);(focus rfl);intro hN eN lN;dsimp only[Int.reduceToNat,XV,XW]at lN)
 | ((with_reducible apply zwO);(focus wtm_at "is"))
 | ((with_reducible apply PR);(focus wtm_at "is"))
 | ((with_reducible apply zwA);(focus wtm_at "is"))
 | ((with_reducible apply UW);(focus wtm_at "is"))
 | dsimp only[XV,XW])
/- one statement behind another: what follows rW behind a name -/
set_option hygiene false in
open L2 GM in
local macro_rules | `(tactic| wtm_at "sq")=>`(tactic| with_reducible refine zzp (λ tl_ htl_=>?_))
set_option hygiene false in
open L2 GM in
local macro_rules | `(tactic| wtm_at "tl")=>`(tactic| ((with_reducible refine Aw.go (by assumption) ?_); (try clear htl_ tl_)))
/- how great a number is -/
open L2 GM in
local macro_rules | `(tactic| wtm_at "bdr0")=>`(tactic| first
 | assumption
 | exact ag.zero
 | exact ag.one
 | exact ag.four
 | (apply ag.add;(focus wtm_at "bdr0");wtm_at "bdr0")
 | (apply ag.sub;(focus wtm_at "bdr0");wtm_at "bdr0")
 | (apply ag.mul;(focus wtm_at "bdr0");wtm_at "bdr0"))
open L2 GM in
local macro_rules | `(tactic| wtm_at "bdr")=>`(tactic| first
 | assumption
 | (apply ag.mono;(focus wtm_at "bdr0");(first | decide | omega)))
/- .. with new tuples,lists,dicts -/
open L2 GM in
local macro_rules | `(tactic| wtm_at "ga1")=>`(tactic| first
 | wtm_at "gs"
 | ((with_reducible apply cc);(focus(simp only[vo,xQ];decide));(focus wtm_at "isall");intro _ _ _ _)
 | ((with_reducible apply fj);(focus(simp only[vo,xQ];decide));intro _ _ _ _ _)
 | ((with_reducible apply oO);(focus wtm_at "lst");(focus wtm_at "lst");(focus(simp only[wZ,vo,xQ];decide));intro _ _ _ _ _))
local macro_rules | `(tactic| wtm_at "ga")=>`(tactic| repeat' (first | wtm_at "ga1" | wtm_at "tl"))
local macro_rules | `(tactic| wtm_at "gg")=>`(tactic| repeat' (first | wtm_at "gs" | wtm_at "tl"))
local macro_rules | `(tactic| wtm_at "gt")=>`(tactic| repeat' (wtm_at "gs"))
open L2 GM in
local macro_rules | `(tactic| wtm_at "bd128")=>`(tactic| first
 | exact Bd.mono (m:=128) ⟨by decide⟩ (by decide)
 | exact(Bd.mf (by omega) (by omega)).mono (by decide))
open L2 GM in
local macro_rules | `(tactic| wtm_at "gs")=>`(tactic| first
 | with_reducible (first | refine ZX ?_ | refine zvv ?_ | refine zvT ?_ | refine Yo ?_ | refine zwe ?_ | refine zw6 ?_ | refine zxQ ?_)
 | ((with_reducible apply U4);(focus wtm_at "ecls");(focus wtm_at "kit"))
 | ((with_reducible apply ZP);(focus wtm_at "ecls");(focus wtm_at "kit"))
 | with_reducible (first | refine zxH ?_ | refine Dt ?_ | refine zxf ?_ | refine zwE ?_ | refine ZS ?_ | refine zyF ?_ | refine zwp ?_ | refine zvh ?_ | refine zvO ?_ | refine zBS ?_ | refine zpq ?_ | refine zwz ?_ | refine zwm ?_)
 | with_reducible refine zzh (λ_ _ _ _=>?_)
 | with_reducible (first | refine YG ?_ | refine zwB ?_ | refine zA8 ?_ | refine zwI ?_ | refine ZE ?_ | refine ZH ?_ | refine zvF ?_ | refine zyP ?_ | refine zxs ?_)
 | ((with_reducible apply zuO);(focus wtm_at "is"))
 | ((with_reducible apply zyE);(focus wtm_at "is"))
 | ((with_reducible apply zzF);(focus wtm_at "is");intro _ _)
 | ((with_reducible apply zyq);(focus wtm_at "is");intro _ _)
 | ((with_reducible apply zwH);(focus wtm_at "is");intro _ _ _ _)
 | ((with_reducible apply jo);(focus(apply aI.of;wtm_at "lst"));(focus rfl))
 | ((with_reducible apply zyG);(focus wtm_at "lst");(focus omega);(focus omega);intro _ _)
 | ((with_reducible apply zAG);(focus wtm_at "is");(focus wtm_at "is"))
 | ((with_reducible apply Kt);(focus wtm_at "is");(focus wtm_at "is")))
set_option hygiene false in
local macro_rules | `(tactic| wtm_at "b1")=>`(tactic| (focus (intro vs H Q E h; obtain ⟨_,rfl,_⟩:=h; rfl)); (intro cdv A outer s H vs Q E hr h; obtain ⟨x0,rfl,h⟩:=h; have hu:=hr.units))
set_option hygiene false in
local macro_rules | `(tactic| wtm_at "b2")=>`(tactic| (focus (intro vs H Q E h; obtain ⟨_,_,rfl,_⟩:=h; rfl)); (intro cdv A outer s H vs Q E hr h; obtain ⟨x0,x1,rfl,h⟩:=h; have hu:=hr.units))
set_option hygiene false in
local macro_rules | `(tactic| wtm_at "b3")=>`(tactic| (focus (intro vs H Q E h; obtain ⟨_,_,_,rfl,_⟩:=h; rfl)); (intro cdv A outer s H vs Q E hr h; obtain ⟨x0,x1,x2,rfl,h⟩:=h; have hu:=hr.units))
set_option hygiene false in
local macro_rules | `(tactic| wtm_at "b4")=>`(tactic| (focus (intro vs H Q E h; obtain ⟨_,_,_,_,rfl,_⟩:=h; rfl)); (intro cdv A outer s H vs Q E hr h; obtain ⟨x0,x1,x2,x3,rfl,h⟩:=h; have hu:=hr.units))
set_option hygiene false in
local macro_rules | `(tactic| wtm_at "cl")=>`(tactic| ((clear hu); (try clear hgd); (first | dsimp only [gF,p8] | dsimp only [gF] | skip)))
local macro_rules | `(tactic| k_few)=>`(tactic| wtm_at "gg")
local macro_rules | `(tactic| o_head $e)=>`(tactic| (wtm_at "gg"; refine $e))
open L2 GM G in
local macro_rules | `(tactic| wtm_at "ecls")=>`(tactic| first | exact Txt.S_ (by assumption) | exact Txt.Ta (by assumption))
open L2 GM G in
local macro_rules | `(tactic| wtm_at "kit")=>`(tactic| first | exact Txt.Sk (by assumption) | exact Txt.So (by assumption) | exact Txt.Su (by assumption) | exact Txt.SI (by assumption) | exact Txt.Sw (by assumption) | exact Txt.SH (by assumption) | exact Txt.Sn (by assumption) | exact Txt.Sy (by assumption) | exact Txt.Sg (by assumption) | exact Txt.Tg (by assumption) | exact Txt.Sr (by assumption) | exact Txt.Sl (by assumption) | exact Txt.Sx (by assumption) | exact Txt.SJ (by assumption) | exact Txt.Sz (by assumption) | exact Txt.SM (by assumption) | exact Txt.Sj (by assumption) | exact Txt.Sv (by assumption) | exact Txt.Si (by assumption) | exact Txt.Ti (by assumption))
namespace G
open PySem PySem.Spec PyProof.Rows L2 GM
section
variable{P:wJ}{w:wM}{K:wb}{mg:Str->Option wg}{base:wH}{a:Ad}
def isInt:wF->Bool
 | .int _=>true
 | _=>false
def OH(K:wb):Sp:=λvs H Q _=>∃x0,vs=[x0] /\ ∃d,Is K H x0 d/\Q (.bl (isInt d)) H
theorem zra{K:wb}{H:Hp}{Q:VK}{E:XK}{v:V}{d:wF}(h:Is K H v d)(q:Q (.bl (isInt d)) H):OH K [v] H Q E:=⟨v,rfl,d,h,q⟩
local macro_rules | `(tactic| wtm_at "gs")=>`(tactic| ((with_reducible apply zra); (focus wtm_at "is")))
theorem Jf(T:Txt K mg a):aN P w K mg base aU 1 a.Hz a.Gw yZ (OH K):=by
 refine T.AK.F.ok zqi ?_ ?_;wtm_at "b1";refine⟨_,(av (aG (iW (bK (show aK _ (.builtin "isinstance") (jb K)from zq) rfl T.z_isinstance fE (ae (pv 0) (ae (lh (v:=.ty "int") rfl T.z_int R3 rfl) af))) (lF (nj (bK (show aK _ (.builtin "isinstance") (jb K)from zq) rfl T.z_isinstance fE (ae (pv 0) (ae (lh (v:=.ty "bool") rfl T.z_bool zzK rfl) af)))))))),?_⟩;wtm_at "cl";rw[show start CF [x0]=[some x0]from rfl];obtain⟨d,hd,q⟩:=h;k_few
 all_goals(cases d<;>simp_all [isInt,El,DF])
def MP(K:wb):Sp:=λvs H Q _=>∃x0 x1,vs=[x0,x1] /\ ∃a b:Int,x0=.int a/\x1=.int b/\0<=a/\0<=b/\Q (.int (vv a b:Nat)) H
theorem pL{K:wb}{H:Hp}{Q:VK}{E:XK}{a b:Int}(ha:0<=a)(hb:0<=b)(q:Q (.int (vv a b:Nat)) H):MP K [.int a,.int b] H Q E:=⟨_,_,rfl,a,b,rfl,rfl,ha,hb,q⟩
theorem rf(T:Txt K mg a):aN P w K mg base aU 1 a.FI a.FA Ax (MP K):=by
 refine T.md.F.ok yy ?_ ?_;wtm_at "b2"
 refine⟨_,(ak (mT vJ (bZ (show aM _ (wY .NotEq) (eD K)from jy hu) (pv 1) aA (bL _)) (ak (ay 2 yy.nd (aD gH (pv 0) (pv 1)))
     (ak (ay 0 yy.nd (pv 1))
     (av (ay 1 yy.nd (pv 2))))))
     (av (aG (pv 0)))),?_⟩
 wtm_at "cl";rw[show start KH [x0,x1]=[some x0,some x1,none]from rfl];obtain⟨a',b',rfl,rfl,ha,hb,q⟩:=h;refine zBH ?_;refine Rh (λσ H'=>∃(x y:Int)(r:Option V),σ = [some (.int x),some (.int y),r]/\0<=x/\0<=y/\vv x y=vv a' b'/\H'=H) (λσ=>(OE σ 1).toNat) ⟨a',b',none,rfl,ha,hb,rfl,rfl⟩ ?_;rintro σ H' ⟨x,y,r,rfl,hx,hy,hg,rfl⟩;k_few
 . refine NL ?_
   k_few;have h1:=QN x (show y≠0 by assumption);have h2:=Qo x (show 0<y by omega);refine⟨?_,_,_,_,rfl,hy,h1,?_,rfl⟩
   . show(x % y).toNat<y.toNat
     omega
   . rw[<- hg];exact J0 (by omega) hx
 . rename_i h0
   subst h0
   have e:((vv a' b':Nat):Int)=x:=by
     rw[<- hg,xb];omega
   rw[e]at q;exact q
def bN:wF->Bool
 | .tuple [.int p,.int q]=>gk p q
 | _=>false
theorem Bj(r:Rat):bN (N r)=true:=Nt r
theorem ZJ{d:wF}(h:iQ d=false):bN d=false:=by
 cases d<;>first | rfl | (simp[iQ]at h)
theorem zs3{ds:List wF}(h:¬ ds.length=2):bN (.tuple ds)=false:=by
 match ds with
 | []=>rfl
 | [_]=>simp[bN]
 | [_,_]=>exact absurd rfl h
 | _::_::_::_=>simp[bN]
theorem zo2{d e:wF}(h:isInt d=false):bN (.tuple [d,e])=false:=by
 cases d<;>first | rfl | (simp[isInt]at h)
theorem Zn{d e:wF}(h:isInt e=false):bN (.tuple [d,e])=false:=by
 cases d<;>cases e<;>first | rfl | (simp[isInt]at h)
theorem Jl{d:wF} : isInt d=true ↔ ∃i,d=.int i:=by cases d<;>simp[isInt]
def Mh(K:wb):Sp:=λvs H Q _=>∃x0,vs=[x0] /\ ∃d,Is K H x0 d/\Q (.bl (bN d)) H
theorem zp7{K:wb}{H:Hp}{Q:VK}{E:XK}{v:V}{d:wF}(h:Is K H v d)(q:Q (.bl (bN d)) H):Mh K [v] H Q E:=⟨v,rfl,d,h,q⟩
local macro_rules | `(tactic| wtm_at "gs")=>`(tactic| ((with_reducible apply zp7); (focus wtm_at "is")))
theorem A5(T:Txt K mg a):aN P w K mg base aU 2 a.Ht a.Gs Ai (Mh K):=by
 refine T.rD.F.ok zpu ?_ ?_;wtm_at "b1"
 refine⟨_,(ak (bV (PW.pt (kq (dR (dh (bK (show aK _ (.builtin "isinstance") (jb K)from zq) rfl T.z_isinstance fE (ae (pv 0) (ae (lh (v:=.ty "tuple") rfl T.z_tuple eG rfl) af))))) (kF (bZ (show aM _ (wY .NotEq) (eD K)from jy hu) (bK (show aK _ (.builtin "len") (cP K)from eC) rfl T.z_len dQ (ae (pv 0) af)) aA (bL _))))) (av (aG fI)) bY)
     (ak (bV (PW.pt (kq (dR (dh (ar (Jf T) hr T.AK (ae (au (pv 0)) af)))) (kF (dR (dh (ar (Jf T) hr T.AK (ae (au (pv 0)) af))))))) (av (aG fI)) bY)
     (av (aG (iW (gU Nn (au (pv 0)) aA (bL _)) (lF (gU (show aM _ (wY .Eq) (df K)from d8 hu) (ar (rf T) hr T.md (ae (bK oj rfl T.z_abs nC (ae (au (pv 0)) af)) (ae (au (pv 0)) af))) aA (bL _)))))))),?_⟩
 wtm_at "cl";rw[show start Cd [x0]=[some x0]from rfl];obtain⟨d,hd,q⟩:=h;k_few
 . rename_i e
   rw[ZJ e]at q;exact q
 . rename_i e
   obtain⟨ds,rfl⟩:=IS.mp e;refine lZ hd ?_;k_few
   . rename_i e
     rw[zs3 (by omega)]at q;exact q
   . rename_i e
     obtain⟨d0,d1,rfl⟩:∃d0 d1,ds=[d0,d1]:=by
       match ds,e with
       | [d0,d1],_=>exact⟨d0,d1,rfl⟩
       | [],e=>simp at e
       | [_],e=>simp at e
       | _::_::_::_,e=>simp at e;omega
     refine aH (j:=0) hd rfl (λy0 h0=>?_);k_few
     . rename_i e
       rw[zo2 e]at q;exact q
     . rename_i e0
       obtain⟨i,rfl⟩:=Jl.mp e0;refine aH (j:=1) hd rfl (λy1 h1=>?_);k_few
       . rename_i e
         rw[Zn e]at q;exact q
       . rename_i e1
         obtain⟨j,rfl⟩:=Jl.mp e1;refine aH (j:=1) hd rfl (λy2 h2=>?_);cases cb.mp h2;k_few
         . refine aH (j:=0) hd rfl (λy3 h3=>?_)
           cases cb.mp h3;o_head aH (j:=1) hd rfl (λy4 h4=>?_);cases cb.mp h4;o_head pL (by split<;>omega) (by omega) ?_;k_few
           have e3:bN (.tuple [.int i,.int j])=decide ((vv (if i<0 then -i else i) j:Nat)=(1:Int)):=by
             have e4:vv (if i<0 then -i else i) j=vv i j:=by
               split<;>simp
             rw[e4]
             show gk i j=_
             rename_i e5;simp only[gk,e5,decide_true,Qz];rw[vI,decide_eq_true_eq,decide_eq_true_eq];omega
           rw[e3]at q;exact q
         . rename_i e5
           have e3:bN (.tuple [.int i,.int j])=false:=by
             show gk i j=false
             simp only[gk,e5,decide_false,Vf]
           rw[e3]at q;exact q
def LV(K:wb):Sp:=λvs H Q _=>∃x0 x1,vs=[x0,x1] /\ ∃(x y:Rat),Is K H x0 (N x)/\Is K H x1 (N y)/\ag 8999 x/\ag 8999 y /\ ∀v H',ah H H'->Is K H' v (N (x+y))->Q v H'
theorem Nh{K:wb}{H:Hp}{Q:VK}{E:XK}{x y:Rat}{v w:V}(h1:Is K H v (N x))(h2:Is K H w (N y))(b1:ag 8999 x)(b2:ag 8999 y)(q:∀v H',ah H H'->Is K H' v (N (x+y))->Q v H'):LV K [v,w] H Q E:=⟨_,_,rfl,x,y,h1,h2,b1,b2,q⟩
local macro_rules | `(tactic| wtm_at "gs")=>`(tactic| ((with_reducible apply Nh); (focus wtm_at "is"); (focus wtm_at "is"); (focus wtm_at "bdr"); (focus wtm_at "bdr"); intro _ _ _ _))
theorem gr(T:Txt K mg a):aN P w K mg base aU 2 a.plus a.Ia yI (LV K):=by
 refine T.fN.F.ok sR ?_ ?_;wtm_at "b2"
 refine⟨_,(ak (ay 2 sR.nd (ar (rf T) hr T.md (ae (au (pv 0)) (ae (au (pv 1)) af))))
     (ak (ay 3 sR.nd (aD cN (aD cj (au (pv 0)) (aD fP (au (pv 1)) (pv 2))) (aD cj (au (pv 1)) (aD fP (au (pv 0)) (pv 2)))))
     (ak (ay 4 sR.nd (ar (rf T) hr T.md (ae (bK oj rfl T.z_abs nC (ae (pv 3) af)) (ae (pv 2) af))))
     (av (aG (bC (ae (aD fP (pv 3) (pv 4)) (ae (aD cj (aD fP (au (pv 0)) (pv 2)) (aD fP (au (pv 1)) (pv 4))) af)))))))),?_⟩
 wtm_at "cl";rw[show start LH [x0,x1]=[some x0,some x1,none,none,none]from rfl];obtain⟨x,y,hx,hy,⟨bx1,bx2⟩,⟨by1,by2⟩,q⟩:=h;have px:=den_pos x;have py:=den_pos y;have ps:=yk x y;have pd:=EA x y;have c1:kh 0 (eX x y):=⟨by omega,oJ bx2 (pW x y) px⟩;have c2:kh 0 (jx x y):=⟨by omega,oJ (oJ bx2 (pW x y) px) (DH x y) ps⟩;have f1:=k_ by2 (sy x y) ps;have f2:=k_ bx2 (pW x y) ps;have f3:=k_ by2 (qR (DH x y) (sy x y)) pd;o_head pL (by omega) (by omega) ?_;rw[show((vv (x.den:Int) (y.den:Int):Nat):Int)=eX x y from rfl];k_few;rw[show x.num*(y.den:Int).fdiv (eX x y)+y.num*(x.den:Int).fdiv (eX x y)=kn x y from rfl];o_head pL (by split<;>omega) (by omega) ?_;rw[Cy,show((vv (kn x y) (eX x y):Nat):Int)=jx x y from rfl];k_few;exact ko (Zv x y) (zyn x y) q
def Rc(K:wb):Sp:=λvs H Q _=>∃x0 x1,vs=[x0,x1] /\ ∃(x y:Rat),Is K H x0 (N x)/\Is K H x1 (N y)/\ag 8999 x/\ag 8999 y /\ ∀v H',ah H H'->Is K H' v (N (x-y))->Q v H'
theorem zxc{K:wb}{H:Hp}{Q:VK}{E:XK}{x y:Rat}{v w:V}(h1:Is K H v (N x))(h2:Is K H w (N y))(b1:ag 8999 x)(b2:ag 8999 y)(q:∀v H',ah H H'->Is K H' v (N (x-y))->Q v H'):Rc K [v,w] H Q E:=⟨_,_,rfl,x,y,h1,h2,b1,b2,q⟩
local macro_rules | `(tactic| wtm_at "gs")=>`(tactic| ((with_reducible apply zxc); (focus wtm_at "is"); (focus wtm_at "is"); (focus wtm_at "bdr"); (focus wtm_at "bdr"); intro _ _ _ _))
theorem sI(T:Txt K mg a):aN P w K mg base aU 3 a.minus a.HP tF (Rc K):=by
 refine T.ou.F.ok zxt ?_ ?_;wtm_at "b2";refine⟨_,(av (aG (ar (gr T) hr T.fN (ae (pv 0) (ae (bC (ae (gE gz (au (pv 1))) (ae (au (pv 1)) af))) af))))),?_⟩;wtm_at "cl";rw[show start EX [x0,x1]=[some x0,some x1]from rfl];obtain⟨x,y,hx,hy,bx,by',q⟩:=h;o_head ko (r:=-y) (by simp) (by simp) (λv H' s hv=>?_);o_head Nh (by wtm_at "is") hv bx (YE by') (λw H'' s2 hw=>?_);rw[ZY]at hw;k_few;exact q w H'' (s.trans s2) hw
def Nu(K:wb):Sp:=λvs H Q _=>∃x0 x1,vs=[x0,x1] /\ ∃(x y:Rat),Is K H x0 (N x)/\Is K H x1 (N y)/\ag 8999 x/\ag 8999 y /\ ∀v H',ah H H'->Is K H' v (N (x*y))->Q v H'
theorem Bv{K:wb}{H:Hp}{Q:VK}{E:XK}{x y:Rat}{v w:V}(h1:Is K H v (N x))(h2:Is K H w (N y))(b1:ag 8999 x)(b2:ag 8999 y)(q:∀v H',ah H H'->Is K H' v (N (x*y))->Q v H'):Nu K [v,w] H Q E:=⟨_,_,rfl,x,y,h1,h2,b1,b2,q⟩
local macro_rules | `(tactic| wtm_at "gs")=>`(tactic| ((with_reducible apply Bv); (focus wtm_at "is"); (focus wtm_at "is"); (focus wtm_at "bdr"); (focus wtm_at "bdr"); intro _ _ _ _))
theorem ky(T:Txt K mg a):aN P w K mg base aU 2 a.times a.HL sO (Nu K):=by
 refine T.jD.F.ok BJ ?_ ?_;wtm_at "b2"
 refine⟨_,(ak (ay 2 BJ.nd (ar (rf T) hr T.md (ae (bK oj rfl T.z_abs nC (ae (au (pv 0)) af)) (ae (au (pv 1)) af))))
     (ak (ay 3 BJ.nd (ar (rf T) hr T.md (ae (bK oj rfl T.z_abs nC (ae (au (pv 1)) af)) (ae (au (pv 0)) af))))
     (av (aG (bC (ae (aD cj (aD fP (au (pv 0)) (pv 2)) (aD fP (au (pv 1)) (pv 3))) (ae (aD cj (aD fP (au (pv 0)) (pv 3)) (aD fP (au (pv 1)) (pv 2))) af))))))),?_⟩
 wtm_at "cl";rw[show start OT [x0,x1]=[some x0,some x1,none,none]from rfl];obtain⟨x,y,hx,hy,⟨bx1,bx2⟩,⟨by1,by2⟩,q⟩:=h;have px:=den_pos x;have py:=den_pos y;have p1:=nq x y;have p2:=nq y x;have c1:kh 0 (fV x y):=⟨by omega,oJ by2 (nP x y) py⟩;have c2:kh 0 (fV y x):=⟨by omega,oJ bx2 (nP y x) px⟩;have f1:=k_ bx1 (yN x y) p1;have f2:=k_ by1 (yN y x) p2;have f3:=k_ bx2 (nP y x) p2;have f4:=k_ by2 (nP x y) p1;o_head pL (by split<;>omega) (by omega) ?_;rw[Cy,show((vv x.num (y.den:Int):Nat):Int)=fV x y from rfl];o_head pL (by split<;>omega) (by omega) ?_;rw[Cy,show((vv y.num (x.den:Int):Nat):Int)=fV y x from rfl];k_few;exact ko (Z1 x y) (Zr x y) q
def Kz(K:wb):Sp:=λvs H Q _=>∃x0 x1,vs=[x0,x1] /\ ∃(x y:Rat),Is K H x0 (N x)/\Is K H x1 (N y)/\ag 8999 x/\ag 8999 y/\y≠0 /\ ∀v H',ah H H'->Is K H' v (N (x / y))->Q v H'
theorem KQ{K:wb}{H:Hp}{Q:VK}{E:XK}{x y:Rat}{v w:V}(h1:Is K H v (N x))(h2:Is K H w (N y))(b1:ag 8999 x)(b2:ag 8999 y)(hy:y≠0)(q:∀v H',ah H H'->Is K H' v (N (x / y))->Q v H'):Kz K [v,w] H Q E:=⟨_,_,rfl,x,y,h1,h2,b1,b2,hy,q⟩
theorem P7(T:Txt K mg a):aN P w K mg base aU 3 a.over a.HW zM (Kz K):=by
 refine T.AZ.F.ok L4 ?_ ?_;wtm_at "b2"
 refine⟨_,(ak (bV (bZ (show aM _ (wY .Eq) (df K)from d8 hu) (au (pv 1)) aA (bL _)) (av DL) bY)
     (ak (ay 2 L4.nd (yw (bZ lB (au (pv 1)) aA (bL _)) (bC (ae (au (pv 1)) (ae (au (pv 1)) af))) (bC (ae (gE gz (au (pv 1))) (ae (gE gz (au (pv 1))) af)))))
     (av (aG (ar (ky T) hr T.jD (ae (pv 0) (ae (pv 2) af))))))),?_⟩
 wtm_at "cl";rw[show start OG [x0,x1]=[some x0,some x1,none]from rfl];obtain⟨x,y,hx,hy,bx,by',hn,q⟩:=h;k_few
 . rename_i z
   exact absurd z (BA hn)
 . rename_i z0 z
   refine ko (r:=y⁻¹) (yX z).1.symm (yX z).2.symm (λv1 H1 S1 i1=>?_);o_head Bv (hx.by S1) i1 bx (Jh by' hn) (λv2 H2 S2 i2=>?_);rw[<- uA]at i2;k_few;exact q v2 H2 (S1.trans S2) i2
 . rename_i z0 z
   have z:y.num<0:=by omega
   refine ko (r:=y⁻¹) (tf z).1.symm (tf z).2.symm (λv1 H1 S1 i1=>?_);o_head Bv (hx.by S1) i1 bx (Jh by' hn) (λv2 H2 S2 i2=>?_);rw[<- uA]at i2;k_few;exact q v2 H2 (S1.trans S2) i2
def NF(K:wb):Sp:=λvs H Q _=>∃x0 x1,vs=[x0,x1] /\ ∃(x y:Rat),Is K H x0 (N x)/\Is K H x1 (N y)/\ag 8999 x/\ag 8999 y/\Q (.bl (decide (x<y))) H
theorem ZI{K:wb}{H:Hp}{Q:VK}{E:XK}{x y:Rat}{v w:V}(h1:Is K H v (N x))(h2:Is K H w (N y))(b1:ag 8999 x)(b2:ag 8999 y)(q:Q (.bl (decide (x<y))) H):NF K [v,w] H Q E:=⟨_,_,rfl,x,y,h1,h2,b1,b2,q⟩
local macro_rules | `(tactic| wtm_at "gs")=>`(tactic| ((with_reducible apply ZI); (focus wtm_at "is"); (focus wtm_at "is"); (focus wtm_at "bdr"); (focus wtm_at "bdr")))
theorem gu(T:Txt K mg a):aN P w K mg base aU 1 a.less a.Ig zW (NF K):=by
 refine T.fM.F.ok zza ?_ ?_;wtm_at "b2";refine⟨_,(av (aG (gU rn (aD cj (au (pv 0)) (au (pv 1))) (aD cj (au (pv 1)) (au (pv 0))) (bL _)))),?_⟩;wtm_at "cl";rw[show start Er [x0,x1]=[some x0,some x1]from rfl];obtain⟨x,y,hx,hy,⟨bx1,bx2⟩,⟨by1,by2⟩,q⟩:=h;k_few;rw[M9];exact q
def pq(x:Rat):Bool:=decide (0<x)&&(!decide (4<x))&&decide ((x.den:Int)<=8)
def JI(K:wb):Sp:=λvs H Q _=>∃x0,vs=[x0] /\ ∃x:Rat,Is K H x0 (N x)/\ag 4000 x/\Q (.bl (pq x)) H
theorem zpL{K:wb}{H:Hp}{Q:VK}{E:XK}{x:Rat}{v:V}(h:Is K H v (N x))(b:ag 4000 x)(q:Q (.bl (pq x)) H):JI K [v] H Q E:=⟨_,rfl,x,h,b,q⟩
local macro_rules | `(tactic| wtm_at "gs")=>`(tactic| ((with_reducible apply zpL); (focus wtm_at "is"); (focus wtm_at "bdr")))
theorem zpp(T:Txt K mg a):aN P w K mg base aU 2 a.Hm a.Ge AB (JI K):=by
 refine T.GR.F.ok zo7 ?_ ?_;wtm_at "b1";refine⟨_,(av (aG (iW (ar (gu T) hr T.fM (ae (bM (v:=.ref a.c_) rfl T.dS rfl) (ae (pv 0) af))) (iW (nj (ar (gu T) hr T.fM (ae (bM (v:=.ref a.AD) rfl T.Ss rfl) (ae (pv 0) af)))) (lF (gU pT (au (pv 0)) (pX rfl T.SG) (bL _))))))),?_⟩;wtm_at "cl";rw[show start Bw [x0]=[some x0]from rfl];obtain⟨x,hx,bx,q⟩:=h;unfold pq at q;k_few
 ·rename_i h1 h2
  rw[decide_eq_true h1,decide_eq_false h2]at q;exact q
 ·rename_i h1 h2
  rw[decide_eq_true h1,decide_eq_true h2]at q;exact q
 ·rename_i h1
  rw[decide_eq_false h1]at q;exact q
def oC(x:Rat):Bool:=(!decide (x<0))&&(!decide (1<x))&&decide ((x.den:Int)<=12)
def Kn(K:wb):Sp:=λvs H Q _=>∃x0,vs=[x0] /\ ∃x:Rat,Is K H x0 (N x)/\ag 4000 x/\Q (.bl (oC x)) H
theorem zqx{K:wb}{H:Hp}{Q:VK}{E:XK}{x:Rat}{v:V}(h:Is K H v (N x))(b:ag 4000 x)(q:Q (.bl (oC x)) H):Kn K [v] H Q E:=⟨_,rfl,x,h,b,q⟩
local macro_rules | `(tactic| wtm_at "gs")=>`(tactic| ((with_reducible apply zqx); (focus wtm_at "is"); (focus wtm_at "bdr")))
theorem YC(T:Txt K mg a):aN P w K mg base aU 2 a.HG a.GK Ar (Kn K):=by
 refine T.GS.F.ok zrM ?_ ?_;wtm_at "b1";refine⟨_,(av (aG (iW (nj (ar (gu T) hr T.fM (ae (pv 0) (ae (bM (v:=.ref a.c_) rfl T.dS rfl) af)))) (iW (nj (ar (gu T) hr T.fM (ae (bM (v:=.ref a.dU) rfl T.eU rfl) (ae (pv 0) af)))) (lF (gU pT (au (pv 0)) (pX rfl T.SN) (bL _))))))),?_⟩;wtm_at "cl";rw[show start BW [x0]=[some x0]from rfl];obtain⟨x,hx,bx,q⟩:=h;unfold oC at q;k_few
 ·rename_i h1 h2
  rw[decide_eq_false h1,decide_eq_false h2]at q;exact q
 ·rename_i h1 h2
  rw[decide_eq_false h1,decide_eq_true h2]at q;exact q
 ·rename_i h1
  rw[decide_eq_true h1]at q;exact q
def kS(x y:Rat):Bool:=pq x&&oC y && !decide (x+y<1)
def B5(K:wb):Sp:=λvs H Q _=>∃x0 x1,vs=[x0,x1]/\((∃d e,Is K H x0 d/\Is K H x1 e/\(bN d&&bN e)=false /\ ∀H',ah H H'->Q (.bl false) H')\/(∃x y:Rat,Is K H x0 (N x)/\Is K H x1 (N y)/\ag 1000 x/\ag 1000 y /\ ∀H',ah H H'->Q (.bl (kS x y)) H'))
theorem znA{K:wb}{H:Hp}{Q:VK}{E:XK}{d e:wF}{v w:V}(h1:Is K H v d)(h2:Is K H w e)(n:(bN d&&bN e)=false)(q:∀H',ah H H'->Q (.bl false) H'):B5 K [v,w] H Q E:=⟨_,_,rfl,.inl ⟨d,e,h1,h2,n,q⟩⟩
theorem zpD{K:wb}{H:Hp}{Q:VK}{E:XK}{x y:Rat}{v w:V}(h1:Is K H v (N x))(h2:Is K H w (N y))(b1:ag 1000 x)(b2:ag 1000 y)(q:∀H',ah H H'->Q (.bl (kS x y)) H'):B5 K [v,w] H Q E:=⟨_,_,rfl,.inr ⟨x,y,h1,h2,b1,b2,q⟩⟩
theorem X_(T:Txt K mg a):aN P w K mg base aU 3 a.Hh a.Gn As (B5 K):=by
 refine T.Gz.F.ok zp3 ?_ ?_;wtm_at "b2"
 refine⟨_,(ak (bV (PW.pt (kq (dR (dh (ar (A5 T) hr T.rD (ae (pv 0) af)))) (kF (dR (dh (ar (A5 T) hr T.rD (ae (pv 1) af))))))) (av (aG fI)) bY)
     (av (aG (iW (ar (zpp T) hr T.GR (ae (pv 0) af)) (iW (ar (YC T) hr T.GS (ae (pv 1) af)) (lF (nj (ar (gu T) hr T.fM (ae (ar (gr T) hr T.fN (ae (pv 0) (ae (pv 1) af))) (ae (bM (v:=.ref a.dU) rfl T.eU rfl) af)))))))))),?_⟩
 wtm_at "cl";rw[show start EL [x0,x1]=[some x0,some x1]from rfl];rcases h with⟨d,e,hd,he,hn,q⟩ | ⟨x,y,hx,hy,bx,by',q⟩
 . k_few
   . exact q _ (ah.refl _)
   . exact q _ (ah.refl _)
   . rename_i h1 h2
     exact absurd hn (by rw[h1,h2];decide)
 . unfold kS at q
   k_few
   . rename_i z;rw[Bj]at z;cases z
   . rename_i z;rw[Bj]at z;cases z
   . rename_i h1 h2 v H' S hv
     rw[h1,h2]at q;exact q _ S
   . rename_i h1 h2
     rw[h1,h2]at q;exact q _ (ah.refl _)
   . rename_i h1
     rw[h1]at q;exact q _ (ah.refl _)
def NQ:wF->Bool
 | .tuple [d,e]=>!(bN d&&bN e)
 | _=>true
theorem zrG{d e:wF}(h:NQ (.tuple [d,e])=true):(bN d&&bN e)=false:=by
 have h:(!(bN d&&bN e))=true:=h;cases z:(bN d&&bN e)with
 | false=>rfl
 | true=>rw[z]at h;exact absurd h (by decide)
def Np(K:wb):Sp:=λvs H Q _=>∃x0,vs=[x0]/\((∃d,Is K H x0 d/\NQ d=true /\ ∀H',ah H H'->Q (.bl false) H')\/(∃x y:Rat,Is K H x0 (R x y)/\ag 1000 x/\ag 1000 y /\ ∀H',ah H H'->Q (.bl (kS x y)) H'))
theorem ztp{K:wb}{H:Hp}{Q:VK}{E:XK}{x y:Rat}{v:V}(h:Is K H v (R x y))(b1:ag 1000 x)(b2:ag 1000 y)(q:∀H',ah H H'->Q (.bl (kS x y)) H'):Np K [v] H Q E:=⟨_,rfl,.inr ⟨x,y,h,b1,b2,q⟩⟩
theorem zs1(T:Txt K mg a):aN P w K mg base aU 4 a.Ij a.GY tQ (Np K):=by
 refine T.Hw.F.ok zsi ?_ ?_;wtm_at "b1";refine⟨_,(av (aG (iW (bK (show aK _ (.builtin "isinstance") (jb K)from zq) rfl T.z_isinstance fE (ae (pv 0) (ae (lh (v:=.ty "tuple") rfl T.z_tuple eG rfl) af))) (iW (gU (show aM _ (wY .Eq) (df K)from d8 hu) (bK (show aK _ (.builtin "len") (cP K)from eC) rfl T.z_len dQ (ae (pv 0) af)) aA (bL _)) (lF (ar (X_ T) hr T.Gz (ae (au (pv 0)) (ae (au (pv 0)) af)))))))),?_⟩;wtm_at "cl";rw[show start B0 [x0]=[some x0]from rfl];rcases h with⟨d,hd,hn,q⟩ | ⟨x,y,hr,bx,by',q⟩
 ·k_few
  ·rename_i e
   obtain⟨ds,rfl⟩:=IS.mp e;refine lZ hd ?_;k_few
   ·rename_i e
    obtain⟨d0,d1,rfl⟩:∃d0 d1,ds=[d0,d1]:=by
     match ds,e with
     | [d0,d1],_=>exact⟨d0,d1,rfl⟩
     | [],e=>simp at e
     | [_],e=>simp at e
     | _::_::_::_,e=>simp at e;omega
    refine aH (j:=0) hd rfl (λy0 h0=>?_);o_head aH (j:=1) hd rfl (λy1 h1=>?_);o_head znA h0 h1 (zrG hn) (λH' S=>?_);k_few;exact q _ S
   ·exact q _ (ah.refl _)
  ·exact q _ (ah.refl _)
 ·k_few
  refine zpD (by assumption) (by assumption) bx by' (λH' S=>?_);k_few;exact q _ S
def pB(x:Rat):Str:=if 1<x then "rising" else if x=1 then "even" else "falling"
def PJ(K:wb):Sp:=λvs H Q _=>∃x0,vs=[x0] /\ ∃x y:Rat,Is K H x0 (R x y)/\ag 4000 x/\Q (.str (pB x)) H
theorem NN{K:wb}{H:Hp}{Q:VK}{E:XK}{x y:Rat}{v:V}(h:Is K H v (R x y))(b:ag 4000 x)(q:Q (.str (pB x)) H):PJ K [v] H Q E:=⟨_,rfl,x,y,h,b,q⟩
theorem JP(T:Txt K mg a):aN P w K mg base aU 2 a.IF a.Il zf (PJ K):=by
 refine T.AX.F.ok zy8 ?_ ?_;wtm_at "b1"
 refine⟨_,(ak (bV (dh (ar (gu T) hr T.fM (ae (bM (v:=.ref a.dU) rfl T.eU rfl) (ae (au (pv 0)) af)))) (av (aG dk)) bY)
     (ak (bV (bZ (show aM _ (wY .Eq) (df K)from d8 hu) (au (pv 0)) (bM (v:=.ref a.dU) rfl T.eU rfl) (bL _)) (av (aG dk)) bY)
     (av (aG dk)))),?_⟩
 wtm_at "cl";rw[show start C1 [x0]=[some x0]from rfl];obtain⟨x,y,hx,bx,q⟩:=h;unfold pB at q;k_few
 . rename_i h1
   rw[if_pos h1]at q;exact q
 . rename_i h1 _ _ h2
   rw[if_neg h1,if_pos h2]at q;exact q
 . rename_i h1 _ _ h2
   rw[if_neg h1,if_neg h2]at q;exact q
def EF(K:wb):Sp:=λvs H Q _=>∃x0 x1,vs=[x0,x1] /\ ∃(a b:Rat)(n:Int),x1=.int n/\Is K H x0 (R a b)/\ag 4000 a/\ag 4000 b/\0<=n/\n<=64/\(∀i,i<=n.toNat->ag 4000 (a^i))/\(∀i,i<=n.toNat->ag 4000 (aB a b i)) /\ ∀v H',ah H H'->Is K H' v (R (a^n.toNat) (aB a b n.toNat))->Q v H'
theorem Mi{K:wb}{H:Hp}{Q:VK}{E:XK}{a b:Rat}{n:Int}{v:V}(h1:Is K H v (R a b))(b1:ag 4000 a)(b2:ag 4000 b)(h0:0<=n)(h64:n<=64)(f1:∀i,i<=n.toNat->ag 4000 (a^i))(f2:∀i,i<=n.toNat->ag 4000 (aB a b i))(q:∀v H',ah H H'->Is K H' v (R (a^n.toNat) (aB a b n.toNat))->Q v H'):EF K [v,.int n] H Q E:=⟨_,_,rfl,a,b,n,rfl,h1,b1,b2,h0,h64,f1,f2,q⟩
theorem Ek{K:wb}{H:Hp}{Q:VK}{E:XK}{a b:Rat}{n:Int}{v:V}(h1:Is K H v (R a b))(b1:ag 10 a)(b2:ag 10 b)(h0:0<=n)(h64:n<=64)(q:∀v H',ah H H'->Is K H' v (R (a^n.toNat) (aB a b n.toNat))->Q v H'):EF K [v,.int n] H Q E :=
 Mi h1 (b1.mono (by decide)) (b2.mono (by decide)) h0 h64 (λi hi=>(b1.pow i).mono (by omega)) (λi hi=>(b1.aB b2 i).mono (by omega)) q
theorem yU(T:Txt K mg a):aN P w K mg base aU 3 a.Ip a.Hg tG (EF K):=by
 refine T.oq.F.ok nJ ?_ ?_;wtm_at "b2"
 refine⟨_,(ak (ay 2 nJ.nd (bM (v:=.ref a.dU) rfl T.eU rfl))
     (ak (ay 3 nJ.nd (bM (v:=.ref a.c_) rfl T.dS rfl))
     (ak (fu vJ rfl (jj rfl T.z_range (ae (pv 1) af)) (aZ (i:=4) nJ.nd rfl (Or.inl rfl)) (ak (ay 2 nJ.nd (ar (ky T) hr T.jD (ae (au (pv 0)) (ae (pv 2) af))))
     (av (ay 3 nJ.nd (ar (gr T) hr T.fN (ae (ar (ky T) hr T.jD (ae (au (pv 0)) (ae (pv 3) af))) (ae (au (pv 0)) af)))))))
     (av (aG (bC (ae (pv 2) (ae (pv 3) af)))))))),?_⟩
 wtm_at "cl";rw[show start KP [x0,x1]=[some x0,some x1,none,none,none]from rfl];obtain⟨r,s',n,rfl,hr',ba,bb,h0,h64,f1,f2,q⟩:=h;o_head jR (n:=n) (by omega) (by omega) (λi σ H'=>∃(f g:V)(o:Option V),σ = [some x0,some (.int n),some f,some g,o]/\ah H H'/\Is K H' f (N (r^i))/\Is K H' g (N (aB r s' i))) ⟨_,_,_,rfl,ah.refl H,by rw[VH];exact kW.mpr ⟨_,rfl,T.r8 H⟩,kW.mpr ⟨_,rfl,T.eI H⟩⟩ ?_ ?_
 . rintro i σ H' hi ⟨f,g,o,rfl,S1,hf,hg⟩
   have hr1:=hr'.by S1;have bf:ag 4000 (r^i):=f1 i (by omega);have bg:ag 4000 (aB r s' i):=f2 i (by omega);have bg2:ag 8999 (r*aB r s' i):=(ba.mul bg).mono (by decide);o_head ⟨_,_,_,rfl,S1.trans (ah.trans (by assumption) (ah.trans (by assumption) (by assumption))),?_,?_⟩
   . rw[WO,QP]
     wtm_at "is"
   . wtm_at "is"
 . rintro σ H' ⟨f,g,o,rfl,S1,hf,hg⟩
   wtm_at "ga";exact q _ _ (S1.trans (by assumption)) (by assumption)
def OZ(K:wb):Sp:=λvs H Q _=>∃x0 x1,vs=[x0,x1] /\ ∃(f g x:Rat),Is K H x0 (R f g)/\Is K H x1 (N x)/\ag 700 f/\ag 1500 g/\ag 8100 x /\ ∀v H',ah H H'->Is K H' v (N (f*x+g))->Q v H'
theorem Rb{K:wb}{H:Hp}{Q:VK}{E:XK}{f g x:Rat}{v w:V}(h1:Is K H v (R f g))(h2:Is K H w (N x))(b1:ag 700 f)(b2:ag 1500 g)(b3:ag 8100 x)(q:∀v H',ah H H'->Is K H' v (N (f*x+g))->Q v H'):OZ K [v,w] H Q E:=⟨_,_,rfl,f,g,x,h1,h2,b1,b2,b3,q⟩
theorem Km(T:Txt K mg a):aN P w K mg base aU 3 a.Hq a.Gh u_ (OZ K):=by
 refine T.AI.F.ok zoR ?_ ?_;wtm_at "b2";refine⟨_,(av (aG (ar (gr T) hr T.fN (ae (ar (ky T) hr T.jD (ae (au (pv 0)) (ae (pv 1) af))) (ae (au (pv 0)) af))))),?_⟩;wtm_at "cl";rw[show start A8 [x0,x1]=[some x0,some x1]from rfl];obtain⟨f,g,x,hp,hx,bf,bg,bx,q⟩:=h;k_few;rename_i hz;exact q _ _ (ah.trans (by assumption) (by assumption)) hz
def zE(K:wb):Sp:=λvs H Q _=>∃x0,vs=[x0]/\((∃d,Is K H x0 d/\bN d=false/\Q (.bl false) H)\/(∃x:Rat,Is K H x0 (N x)/\ag 4000 x/\Q (.bl (j_ x)) H))
theorem zpF{K:wb}{H:Hp}{Q:VK}{E:XK}{d:wF}{v:V}(h:Is K H v d)(n:bN d=false)(q:Q (.bl false) H):zE K [v] H Q E:=⟨_,rfl,.inl ⟨d,h,n,q⟩⟩
theorem zqT{K:wb}{H:Hp}{Q:VK}{E:XK}{x:Rat}{v:V}(h:Is K H v (N x))(b:ag 4000 x)(q:Q (.bl (j_ x)) H):zE K [v] H Q E:=⟨_,rfl,.inr ⟨x,h,b,q⟩⟩
theorem zqE(T:Txt K mg a):aN P w K mg base aU 3 a.HH a.GC zu (zE K):=by
 refine T.G4.F.ok zqR ?_ ?_;wtm_at "b1"
 refine⟨_,(ak (bV (PW.pt (kq (dR (dh (ar (A5 T) hr T.rD (ae (pv 0) af)))) (kF (dh (ar (gu T) hr T.fM (ae (pv 0) (ae (bM (v:=.ref a.c_) rfl T.dS rfl) af))))))) (av (aG fI)) bY)
     (av (aG (iW (ar (gu T) hr T.fM (ae (pv 0) (ae (bM (v:=.ref a.dU) rfl T.eU rfl) af))) (lF (gU pT (au (pv 0)) (pX rfl T.SO) (bL _))))))),?_⟩
 wtm_at "cl";rw[show start DN [x0]=[some x0]from rfl];rcases h with⟨d,hd,hn,q⟩ | ⟨x,hx,bx,q⟩
 . k_few
   . exact q
   . rename_i e;rw[hn]at e;cases e
 . unfold j_ at q
   k_few
   . rename_i z;rw[Bj]at z;cases z
   . rename_i h1
     rw[decide_eq_true h1]at q;exact q
   . rename_i h1 h2
     rw[decide_eq_false h1,decide_eq_true h2]at q;exact q
   . rename_i h1 h2
     rw[decide_eq_false h1,decide_eq_false h2]at q;exact q
def ft:wF->Bool
 | .tuple [.int p,.int q]=>gk p q&&j_ (wB p q)
 | _=>false
theorem KR(x:Rat):ft (N x)=j_ x:=by
 show(gk x.num x.den&&j_ (wB x.num x.den))=j_ x
 rw[Nt,Q6,Qz]
theorem zsd{d:wF}(h:bN d=true):∃x:Rat,d=N x:=by
 match d with
 | .tuple [.int p,.int q] =>
  obtain⟨r,e1,e2⟩:=zpe (show gk p q=true from h);exact⟨r,by rw[e1,e2];rfl⟩
 | .none=>simp[bN]at h
 | .bool _=>simp[bN]at h
 | .int _=>simp[bN]at h
 | .str _=>simp[bN]at h
 | .list _=>simp[bN]at h
 | .dict _=>simp[bN]at h
 | .tuple []=>simp[bN]at h
 | .tuple [_]=>simp[bN]at h
 | .tuple (_::_::_::_)=>simp[bN]at h
 | .tuple [.none,_]=>simp[bN]at h
 | .tuple [.bool _,_]=>simp[bN]at h
 | .tuple [.str _,_]=>simp[bN]at h
 | .tuple [.tuple _,_]=>simp[bN]at h
 | .tuple [.list _,_]=>simp[bN]at h
 | .tuple [.dict _,_]=>simp[bN]at h
 | .tuple [.int _,.none]=>simp[bN]at h
 | .tuple [.int _,.bool _]=>simp[bN]at h
 | .tuple [.int _,.str _]=>simp[bN]at h
 | .tuple [.int _,.tuple _]=>simp[bN]at h
 | .tuple [.int _,.list _]=>simp[bN]at h
 | .tuple [.int _,.dict _]=>simp[bN]at h
theorem zyw{d:wF}(h:bN d=false):ft d=false:=by
 unfold ft
 split
 ·rename_i p q
  rw[show gk p q=false from h];rfl
 ·rfl
theorem NX{K:wb}{H:Hp}{Q:VK}{E:XK}{d:wF}{v:V}(h:Is K H v d)(b:∀x,d=N x->ag 4000 x)(q:Q (.bl (ft d)) H):zE K [v] H Q E:=by
 cases e:bN d with
 | false=>rw[zyw e]at q;exact zpF h e q
 | true =>
  obtain⟨x,rfl⟩:=zsd e;rw[KR]at q;exact zqT h (b x rfl) q
def Lb(K:wb):Sp:=λvs H Q _=>∃x0,vs=[x0]/\((∃d,Is K H x0 d/\(pD d || iQ d)=false /\ ∀H',ah H H'->Q (.bl false) H')\/(∃ds,(Is K H x0 (.list ds)\/Is K H x0 (.tuple ds))/\(∀e∈ds,∀x,e=N x->ag 4000 x) /\ ∀H',ah H H'->Q (.bl (decide (1<=ds.length)&&decide (ds.length<=8)&&ds.all ft)) H'))
theorem ZK{K:wb}{H:Hp}{Q:VK}{E:XK}{ds:List wF}{v:V}(h:Is K H v (.list ds)\/Is K H v (.tuple ds))(b:∀e∈ds,∀x,e=N x->ag 4000 x)(q:∀H',ah H H'->Q (.bl (decide (1<=ds.length)&&decide (ds.length<=8)&&ds.all ft)) H'):Lb K [v] H Q E:=⟨_,rfl,.inr ⟨ds,h,b,q⟩⟩
theorem zns(T:Txt K mg a):aN P w K mg base aU 4 a.G3 a.F_ za (Lb K):=by
 refine T.Gj.F.ok znq ?_ ?_;wtm_at "b1"
 refine⟨_,(ak (bV (PW.pt (kq (dR (dh (bK (show aK _ (.builtin "isinstance") (Fx K)from zta) rfl T.z_isinstance fE (ae (pv 0) (ae (bC (ae (lh (v:=.ty "list") rfl T.z_list rB rfl) (ae (lh (v:=.ty "tuple") rfl T.z_tuple eG rfl) af))) af))))) (kF (dR (zxB pT pT aA (bK (show aK _ (.builtin "len") (cP K)from eC) rfl T.z_len dQ (ae (pv 0) af)) (pX rfl T.SQ)))))) (av (aG fI)) bY)
     (av (aG (bK (show aK _ (.builtin "all") (mF K)from Ak rfl) rfl T.z_all yJ (ae (eH rfl (cn.by (N':=["one"]) (src:=[none]) rfl (show cK _ (az yj).names zw ["one"] [none]=true from by decide +kernel)) (Jk (pv 0)) (λ_ _ _ _ _=>(aZ (i:=0) (show(["one"]:List Str).Nodup from by decide) rfl (Or.inl rfl))) (λ_ _ _ _ _=>eA) (λ_ _ _ _ _=>(ar (zqE (K:=K) (mg:=mg) (a:=a) T) hr T.G4 (ae (pv 0) af)))) af))))),?_⟩
 wtm_at "cl";rw[show start zw [x0]=[some x0]from rfl];rcases h with⟨d,hd,hn,q⟩ | ⟨ds,hd,bd,q⟩
 . k_few
   refine pf (by simp) (λtp H1 _ S1 e1=>?_);o_head CG (hd.by S1) e1 ?_;rw[hn];k_few;exact q H1 S1
 . rcases hd with hd | hd
   . k_few
     refine pf (by simp) (λtp H1 _ S1 e1=>?_);o_head CG (hd.by S1) e1 ?_;rw[show(pD (.list ds) || iQ (.list ds))=true from rfl];obtain⟨ap,us,rfl,hs,tu⟩:=cu.mp (hd.by S1);have hul:=tu.length;o_head jM hs ?_;rw[hul];k_few
     . rename_i z0 z
       have:=q H1 S1;rw[decide_eq_false (show ¬ ds.length<=8 by omega),Q0,Vf]at this;exact this
     . rename_i z0 z
       have h1:1<=ds.length:=by omega
       have h8:ds.length<=8:=by omega
       refine .inl (lM (o0:=none) (tl:=[]) hs rfl (λj y H'=>y=.bl (ft (ds.getD j .none))) ?_ ?_)
       . intro D i x ys o H2 hx inv
         obtain⟨hi,ix⟩:=nN tu hx;o_head NX (ix.by inv.same) (λx e=>bd _ (cU hi) x e) ?_;k_few;exact eS inv (by omega) (λ_ _ _ _ _ z=>z) ⟨_,rfl⟩ (ah.refl _) rfl
       . intro D ys H2 hn S2 hD hl hr
         have hys:ys=(ds.map ft).map V.bl:=by
           refine WM (by rw[hl,hul,wm,wm]) λj h1 h2=>?_
           have:=hr j ys[j] (wc h1);rw[this,WY,WY,wa,wc]
           rfl
         subst hys;o_head pG (.of hD) ?_;k_few;have e:(ds.map ft).all id=ds.all ft:=by rw[XS];rfl
         have:=q H2 (S1.trans S2);rw[decide_eq_true h1,decide_eq_true h8,<- e]at this;exact this
     . rename_i z
       have:=q H1 S1;rw[decide_eq_false (show ¬ 1<=ds.length by omega),Vf,Vf]at this;exact this
   . k_few
     refine pf (by simp) (λtp H1 _ S1 e1=>?_);o_head CG (hd.by S1) e1 ?_;rw[show(pD (.tuple ds) || iQ (.tuple ds))=true from rfl];obtain⟨ap,us,rfl,hs,tu⟩:=bW.mp (hd.by S1);have hul:=tu.length;o_head J1 hs ?_;rw[hul];k_few
     . rename_i z0 z
       have:=q H1 S1;rw[decide_eq_false (show ¬ ds.length<=8 by omega),Q0,Vf]at this;exact this
     . rename_i z0 z
       have h1:1<=ds.length:=by omega
       have h8:ds.length<=8:=by omega
       refine .inr (jl (o0:=none) (tl:=[]) hs rfl (λj y H'=>y=.bl (ft (ds.getD j .none))) ?_ ?_)
       . intro D i x ys o H2 hx inv
         obtain⟨hi,ix⟩:=nN tu hx;o_head NX (ix.by inv.same) (λx e=>bd _ (cU hi) x e) ?_;k_few;exact eS inv (by omega) (λ_ _ _ _ _ z=>z) ⟨_,rfl⟩ (ah.refl _) rfl
       . intro D ys H2 hn S2 hD hl hr
         have hys:ys=(ds.map ft).map V.bl:=by
           refine WM (by rw[hl,hul,wm,wm]) λj h1 h2=>?_
           have:=hr j ys[j] (wc h1);rw[this,WY,WY,wa,wc]
           rfl
         subst hys;o_head pG (.of hD) ?_;k_few;have e:(ds.map ft).all id=ds.all ft:=by rw[XS];rfl
         have:=q H2 (S1.trans S2);rw[decide_eq_true h1,decide_eq_true h8,<- e]at this;exact this
     . rename_i z
       have:=q H1 S1;rw[decide_eq_false (show ¬ 1<=ds.length by omega),Vf,Vf]at this;exact this
theorem zvb{a b:Rat}(h:aW a b):kS a b=true:=by
 obtain⟨h1,h2,h3,h4,h5,h6,h7⟩:=h;have k2:¬ (4:Rat)<a:=VD.mpr h2;have k4:¬ b<0:=VD.mpr h4;have k5:¬ (1:Rat)<b:=VD.mpr h5;have k7:¬ a+b<1:=VD.mpr h7;have k3:(a.den:Int)<=8:=by omega
 have k6:(b.den:Int)<=12:=by omega
 simp[kS,pq,oC,h1,k2,k3,k4,k5,k6,k7]
theorem zAS{xs:List Rat}(h:∀x∈xs,fk x):(xs.map N).all ft=true:=by
 rw[WN];intro d hd;obtain⟨x,hx,rfl⟩:=wS.mp hd;rw[KR];exact(h x hx).is
theorem zzA{xs:List Rat}(h:∀x∈xs,fk x):∀e∈xs.map N,∀x,e=N x->ag 4000 x:=by
 intro e he x hx;obtain⟨y,hy,rfl⟩:=wS.mp he;rw[<- zCZ hx];exact(h y hy).fO.mono (by decide)
def IT(K:wb):Sp:=λvs H Q _=>∃x0 x1,vs=[x0,x1] /\ ∃(a b:Rat)(xs:List Rat),Is K H x0 (R a b)/\aW a b/\(Is K H x1 (LN xs)\/Is K H x1 (TN xs))/\1<=xs.length/\xs.length<=8/\(∀x∈xs,fk x) /\ ∀v H',ah H H'->Is K H' v (bA a b xs)->Q v H'
theorem zrU{K:wb}{H:Hp}{Q:VK}{E:XK}{a b:Rat}{xs:List Rat}{v w:V}(h1:Is K H v (R a b))(ok:aW a b)(h2:Is K H w (LN xs)\/Is K H w (TN xs))(h3:1<=xs.length)(h4:xs.length<=8)(h5:∀x∈xs,fk x)(q:∀v H',ah H H'->Is K H' v (bA a b xs)->Q v H'):IT K [v,w] H Q E:=⟨_,_,rfl,a,b,xs,h1,ok,h2,h3,h4,h5,q⟩
theorem zqW(T:Txt K mg a):aN P w K mg base aU 5 a.HB a.GO yo (IT K):=by
 refine T.G5.F.ok zro ?_ ?_;wtm_at "b2"
 refine⟨_,(ak (bV (dR (dh (ar (zs1 T) hr T.Hw (ae (pv 0) af)))) (av DL) bY)
     (ak (bV (dR (dh (ar (zns T) hr T.Gj (ae (pv 1) af)))) (av DL) bY)
     (av (aG (bC (ae (pv 0) (ae (dG (show aK _ (.type "tuple") (ee K)from fm) rfl T.z_tuple eG (ae (pv 1) af)) af))))))),?_⟩
 wtm_at "cl";rw[show start DS [x0,x1]=[some x0,some x1]from rfl];obtain⟨ra,rb,xs,hr,ok,hp,h1,h8,hph,q⟩:=h;o_head ztp hr (ok.ba.mono (by decide)) (ok.bb.mono (by decide)) (λH1 S1=>?_);rw[zvb ok];k_few;have hp1:Is K H1 x1 (LN xs)\/Is K H1 x1 (TN xs):=hp.imp (λz=>z.by S1) (λz=>z.by S1);refine ZK (ds:=xs.map N) hp1 (zzA hph) (λH2 S2=>?_);rw[zAS hph,wm,decide_eq_true h1,decide_eq_true h8,show(true&&true&&true)=true from rfl];have hp2:Is K H2 x1 (LN xs)\/Is K H2 x1 (TN xs):=hp1.imp (λz=>z.by S2) (λz=>z.by S2);have hr2:Is K H2 x0 (R ra rb):=(hr.by S1).by S2;k_few;rcases hp2 with z | z
 . refine gY z (λw H3 S3 i3=>?_)
   o_head cc (ds:=[R ra rb,TN xs]) (by simp) (.cons (hr2.by S3) (.cons i3 .nil)) (λv H4 S4 i4=>?_);exact q v H4 (S1.trans (S2.trans (S3.trans S4))) i4
 . refine IZ z ?_
   o_head cc (ds:=[R ra rb,TN xs]) (by simp) (.cons hr2 (.cons z .nil)) (λv H4 S4 i4=>?_);exact q v H4 (S1.trans (S2.trans S4)) i4
def K_(K:wb):Sp:=λvs H Q _=>∃x0,vs=[x0] /\ ∃xs:List Rat,(Is K H x0 (LN xs)\/Is K H x0 (TN xs))/\1<=xs.length/\(∀i,ag 4000 (xs.getD i 0)) /\ ∀v,Is K H v (N (bX xs))->Q v H
theorem JB{K:wb}{H:Hp}{Q:VK}{E:XK}{xs:List Rat}{v:V}(h:Is K H v (LN xs)\/Is K H v (TN xs))(h1:1<=xs.length)(b:∀i,ag 4000 (xs.getD i 0))(q:∀v,Is K H v (N (bX xs))->Q v H):K_ K [v] H Q E:=⟨_,rfl,xs,h,h1,b,q⟩
theorem Nl(T:Txt K mg a):aN P w K mg base aU 2 a.HF a.GA yK (K_ K):=by
 refine T.AL.F.ok yz ?_ ?_;wtm_at "b1"
 refine⟨_,(ak (ay 1 yz.nd (au (pv 0)))
     (ak (fu vJ rfl (Jk (pv 0)) (aZ (i:=2) yz.nd rfl (Or.inl rfl)) (av (bV (dh (ar (gu T) hr T.fM (ae (pv 1) (ae (pv 2) af)))) (av (ay 1 yz.nd (pv 2))) bY)))
     (av (aG (pv 1))))),?_⟩
 wtm_at "cl";rw[show start Lu [x0]=[some x0,none,none]from rfl];obtain⟨xs,hx,h1,bx,q⟩:=h;rcases hx with hx | hx
 . obtain⟨ap,us,rfl,hs,tu⟩:=cu.mp hx
   have hul:us.length=xs.length:=by rw[tu.length,wm]
   o_head lT hx (by decide) (by omega) (λv0 i0=>?_);have i0:Is K H v0 (N (mx (xs.getD 0 0) [])):=i0;o_head .inl (Jt hs (λi σ H'=>∃o v,σ = [some (.ref ap),some v,o]/\H'=H/\Is K H v (N (mx (xs.getD 0 0) (xs.take i)))) ⟨_,v0,rfl,rfl,by rw[Up];exact i0⟩ (λi σ H' _ h=>by obtain⟨_,_,_,rfl,_⟩:=h;exact hs) ?_ ?_)
   . rintro i x σ H' hx' ⟨o,v,rfl,rfl,iv⟩
     obtain⟨hi,ix⟩:=dM tu hx';have b1:=PD bx h1 i;have b2:=bx i;k_few
     . rename_i z
       exact⟨_,x,rfl,rfl,by rw[nW hi,zH,if_pos z];exact ix⟩
     . rename_i z
       exact⟨_,v,rfl,rfl,by rw[nW hi,zH,if_neg z];exact iv⟩
   . rintro σ H' ⟨o,v,rfl,rfl,iv⟩
     rw[hul,WC]at iv;k_few;exact q v iv
 . obtain⟨ap,us,rfl,hs,tu⟩:=bW.mp hx
   have hul:us.length=xs.length:=by rw[tu.length,wm]
   o_head oV hx (by decide) (by omega) (λv0 i0=>?_);have i0:Is K H v0 (N (mx (xs.getD 0 0) [])):=i0;o_head .inr (Dy hs (λi σ H'=>∃o v,σ = [some (.ref ap),some v,o]/\H'=H/\Is K H v (N (mx (xs.getD 0 0) (xs.take i)))) ⟨_,v0,rfl,rfl,by rw[Up];exact i0⟩ (λi σ H' _ h=>by obtain⟨_,_,_,rfl,_⟩:=h;exact hs) ?_ ?_)
   . rintro i x σ H' hx' ⟨o,v,rfl,rfl,iv⟩
     obtain⟨hi,ix⟩:=dM tu hx';have b1:=PD bx h1 i;have b2:=bx i;k_few
     . rename_i z
       exact⟨_,x,rfl,rfl,by rw[nW hi,zH,if_pos z];exact ix⟩
     . rename_i z
       exact⟨_,v,rfl,rfl,by rw[nW hi,zH,if_neg z];exact iv⟩
   . rintro σ H' ⟨o,v,rfl,rfl,iv⟩
     rw[hul,WC]at iv;k_few;exact q v iv
def Jo(K:wb):Sp:=λvs H Q _=>∃x0 x1,vs=[x0,x1] /\ ∃(xs:List Rat)(v:Rat),Is K H x0 (TN xs)/\Is K H x1 (N v)/\xs.length<=900 /\ ∀u H',ah H H'->Is K H' u (TW (eQ xs v))->Q u H'
theorem zri{K:wb}{H:Hp}{Q:VK}{E:XK}{xs:List Rat}{v:Rat}{w u:V}(h1:Is K H w (TN xs))(h2:Is K H u (N v))(hl:xs.length<=900)(q:∀u H',ah H H'->Is K H' u (TW (eQ xs v))->Q u H'):Jo K [w,u] H Q E:=⟨_,_,rfl,xs,v,h1,h2,hl,q⟩
theorem ZZ(T:Txt K mg a):aN P w K mg base aU 1 a.HI a.Gv Ap (Jo K):=by
 refine T.GX.F.ok zrc ?_ ?_;wtm_at "b2";refine⟨_,(av (aG (dG (show aK _ (.type "tuple") (ee K)from fm) rfl T.z_tuple eG (ae (eH rfl (cn.by (N':=["worm","own","phase"]) (src:=[none,none,some 1]) rfl (show cK _ (az t_).names tL ["worm","own","phase"] [none,none,some 1]=true from by decide +kernel)) (NS rfl T.z_enumerate (ae (pv 0) af)) (λ_ _ _ _ _=>by exact(show PG _ _ (hJ K 2 _)from gC (n:=2) rfl (cR (aZ (i:=0) (show(["worm","own","phase"]:List Str).Nodup from by decide) rfl (Or.inl rfl)) (cR (aZ (i:=1) (show(["worm","own","phase"]:List Str).Nodup from by decide) rfl (Or.inl rfl)) gf)))) (λ_ _ _ _ _=>(nD (bZ (show aM _ (wY .Eq) (df K)from d8 hu) (pv 1) (pv 2) (bL _)))) (λ_ _ _ _ _=>(pv 0))) af)))),?_⟩;wtm_at "cl";rw[show start tL [x0,x1]=[some x0,some x1]from rfl];obtain⟨xs,v,hx,hv,hl,q⟩:=h;obtain⟨ap,us,rfl,hu',tu⟩:=bW.mp hx;have hul:us.length=xs.length:=by rw[tu.length,wm]
 o_head zrk hu' (λD i ys σ' H'=>(∃o1 o2,σ'=[o1,o2,some x1])/\H D=none/\ah H H'/\H' D=some (.lst (vz ((wx i).filter λw=>decide (xs.getD w 0=v))))) (λD H' n s e=>⟨⟨_,_,rfl⟩,n,s,e⟩) (λD i ys σ' H' h=>h.2.2.1.iV hu') ?_ ?_
 ·rintro D i x ys σ' H1 c H2 hx' ⟨⟨o1,o2,rfl⟩,n,S1,e1⟩ hc S2 e2
  obtain⟨hi,ix⟩:=dM tu hx';have T2:=S1.trans S2;have ix2:=ix.by T2;have hv2:=hv.by T2;have e12:=S2 _ _ e1
  have hfl:((wx i).filter λw=>decide (xs.getD w 0=v)).length<=i:=by
   have:=WI (λw=>decide (xs.getD w 0=v)) (wx i);rw[vy]at this;exact this
  refine lg (.of e2) rfl ?_;k_few
  ·rename_i z
   refine ma e12 (by rw[jQ];omega) (λH6 E6 e6=>⟨⟨_,_,rfl⟩,n,T2.grow n E6,?_⟩);rw[M4 (n:=i),decide_eq_true z,if_pos rfl,BN];exact e6
  ·rename_i z
   refine⟨[],⟨_,_,rfl⟩,n,T2,?_⟩;rw[M4 (n:=i),decide_eq_false z,if_neg (by decide),Wl];exact e12
 ·rintro D ys σ' H1 ⟨_,n,S1,e1⟩
  rw[hul]at e1;o_head sY (.of e1) (λl H2 n2 S2 e3=>?_);exact q _ H2 (S1.trans S2) (Dl.mpr ⟨l,rfl,.of e3⟩)
def Lp(K:wb):Sp:=λvs H Q _=>∃x0,vs=[x0] /\ ∃(a b:Rat)(xs:List Rat),Is K H x0 (bA a b xs)/\xs.length<=8/\(∀i,ag 4000 (xs.getD i 0)) /\ ∀l H' us,H l=none->ah H H'->H' l=some (.lst us)->ao K H' us ((ai xs).map (jY xs))->Q (.ref l) H'
theorem BB{K:wb}{H:Hp}{Q:VK}{E:XK}{a b:Rat}{xs:List Rat}{v:V}(h:Is K H v (bA a b xs))(h8:xs.length<=8)(bx:∀i,ag 4000 (xs.getD i 0))(q:∀l H' us,H l=none->ah H H'->H' l=some (.lst us)->ao K H' us ((ai xs).map (jY xs))->Q (.ref l) H'):Lp K [v] H Q E:=⟨_,rfl,a,b,xs,h,h8,bx,q⟩
theorem zsc{m:Nat}{xs:List Rat}(b:∀i,ag m (xs.getD i 0)){x:Rat}(h:x∈xs):ag m x:=by
 obtain⟨j,hj,rfl⟩:=wX h;have:=b j;rw[wa,wc hj]at this;exact this
theorem zvq{α β : Type}(f : α -> β)(l:List α):(!(l.map f).isEmpty) = !l.isEmpty:=by cases l<;>rfl
theorem Ci(T:Txt K mg a):aN P w K mg base aU 3 a.Ir a.Hs yA (Lp K):=by
 refine T.rM.F.ok oN ?_ ?_;wtm_at "b1"
 refine⟨_,(ak (ay 1 oN.nd (dC af))
     (ak (ay 2 oN.nd (dG (show aK _ (.type "list") (oZ K)from Dg) rfl T.z_list rB (ae (au (pv 0)) af)))
     (ak (mT vJ (BM (pv 2)) (ak (ay 3 oN.nd (ar (Nl T) hr T.AL (ae (pv 2) af)))
     (ak (iE (iO vV vS vT gZ (pv 1) (ae (bC (ae (pv 3) (ae (ar (ZZ T) hr T.GX (ae (au (pv 0)) (ae (pv 3) af))) af))) af)))
     (av (mI (i:=2) oN.nd rfl (Or.inl rfl) rfl (cn.by (N':=["other","phase"]) (src:=[none,some 3]) rfl (show cK _ (az z8).names C7 ["other","phase"] [none,some 3]=true from by decide +kernel)) (iU (pv 2)) (λ_ _ _ _ _=>(aZ (i:=0) (show(["other","phase"]:List Str).Nodup from by decide) rfl (Or.inl rfl))) (λ_ _ _ _ _=>(nD (bZ (show aM _ (wY .NotEq) (eD K)from jy hu) (pv 0) (pv 1) (bL _)))) (λ_ _ _ _ _=>(pv 0)))))))
     (av (aG (pv 1)))))),?_⟩
 wtm_at "cl";rw[show start C7 [x0]=[some x0,none,none,none]from rfl];obtain⟨ra,rb,xs,hw,h8,bx,q⟩:=h;o_head fj (by simp) (λlt H1 n1 S1 e1=>?_);o_head aH (j:=1) (hw.by S1) rfl (λvp ip=>?_);o_head BO ip (λll H2 us n2 S2 e2 t2=>?_);have nlt:ll≠lt:=λz=>by subst z;rw[e1]at n2;cases n2
 o_head tK (λm σ' H'=>∃(ll:wf)(left done:List Rat)(us ws:List V)(f:Nat)(o3:Option V),σ'=[some x0,some (.ref lt),some (.ref ll),o3]/\m=left.length/\ah H H'/\ll≠lt/\H' lt=some (.lst ws)/\ao K H' ws (done.map (jY xs))/\H' ll=some (.lst us)/\ao K H' us (left.map N)/\(∀y∈left,y∈xs)/\left.length<=f/\done.length+left.length<=xs.length/\done++iR f left=ai xs) _ ⟨ll,xs,[],us,[],xs.length,_,rfl,rfl,S1.trans S2,nlt,S2 _ _ e1,.nil,e2,t2,λy h=>h,wp _,by simp,rfl⟩ ?_;rintro m σ' H3 ⟨ll,left,done,us,ws,f,o3,rfl,rfl,S3,nl,et,tt',el,tl',sub,hf,hdl,heq⟩;o_head O5 (dj el tl') ?_;rw[zvq]
 by_cases he:left=[]
 . rw[show(!left.isEmpty)=false by rw[he];rfl]
   refine lY ?_;rw[he,EW,Wl]at heq;rw[heq]at tt';k_few;exact q lt H3 ws n1 S3 et tt'
 . rw [show (!left.isEmpty) = true by cases left with
       | nil=>exact absurd rfl he
       | cons y l=>rfl]
   refine lP ?_;refine yQ ?_;have hpos:=qg.mpr he
   have bl:∀i,ag 4000 (left.getD i 0):=λi=>by
     rcases wz i left.length with z | z
     . exact zsc bx (sub _ (cU z))
     . rw[wa,wE z];exact ag.zero.mono (by decide)
   obtain⟨f',rfl⟩:∃f',f=f'+1:=⟨f-1,by omega⟩;rw[m4 he]at heq;have hless:=LA he;have hwl:=tt'.length;rw[wm]at hwl;o_head JB (.inl (dj el tl')) hpos bl (λvm im=>?_);o_head gG (aI.of et) ?_;o_head aH (j:=1) (hw.by S3) rfl (λvq iq=>?_);o_head zri iq im (by omega) (λv4 H4 S4 i4=>?_);o_head cc (ds:=[N (bX left),TW (eQ xs (bX left))]) (by simp) (.cons (im.by S4) (.cons i4 .nil)) (λv5 H5 S5 i5=>?_);k_few;have T5:=S4.trans S5;refine gq (T5 _ _ et) (by omega) (λH6 E6 e6=>?_);have K6:=E6.keep (T5 _ _ et);have el6:=E6 _ _ nl (T5 _ _ el);have tl6:ao K H6 us (left.map N):=ao.keep (T5.keep.trans K6) _ _ (dZ _) tl'
   have tt6:ao K H6 (ws++[v5]) ((done++[bX left]).map (jY xs)):=by
     rw[vx];exact(ao.keep (T5.keep.trans K6) _ _ (YF ..) tt').snoc (i5.ly K6 (PF ..))
   have im6:=(im.by T5).gT K6;have S6:ah H H6:=(S3.trans T5).grow n1 E6;generalize hmx:bX left=mxx at *;o_head nU (.of el6) (λD i ys σ' H'=>(∃o,σ'=[o,some vm])/\H6 D=none/\ah H6 H'/\H' D=some (.lst ys)/\ao K H' ys (((left.take i).filter λy=>!decide (y=mxx)).map N)) (λD H' n s e=>⟨⟨_,rfl⟩,n,s,e,.nil⟩) (λD i ys σ' H' h=>h.2.2.1.seq (.of el6)) ?_ ?_
   . rintro D i x ys σ' H7 hx ⟨⟨o,rfl⟩,n7,S7,e7,t7⟩
     obtain⟨hi,ix⟩:=dM tl6 hx;have ix7:=ix.by S7;have im7:=im6.by S7;have hyl:=t7.length;rw[wm]at hyl;have hfl:=WI (λy=>!decide (y=mxx)) (left.take i);rw[Ws]at hfl;k_few
     . rename_i z
       refine ma e7 (by omega) (λH8 E8 e8=>⟨⟨_,rfl⟩,n7,S7.grow n7 E8,e8,?_⟩);have K8:=E8.keep e7;rw[nW hi,Vm,WX,decide_eq_false z,vx];exact(ao.keep K8 _ _ (dZ _) t7).append (.cons (ix7.gT K8) .nil)
     . rename_i z
       refine⟨ys,⟨_,rfl⟩,n7,S7,e7,?_⟩;rw[nW hi,Vm,WX,decide_eq_true (by first | exact z | exact qB.mp z)];have:([]:List Rat).filter (λy=>!decide (y=mxx))=[]:=rfl
       simpa using t7
   . rintro D ys σ' H7 ⟨_,n7,S7,e7,t7⟩
     have hul:=tl6.length;rw[wm]at hul;rw[hul,WC]at t7;k_few;exact⟨(left.filter λy=>!decide (y=mxx)).length,by omega,D,_,done++[mxx],ys,ws++[v5],f',_,rfl,rfl,S6.trans S7,(λz=>by subst z;rw[e6]at n7;cases n7),S7 _ _ e6,ao.same S7 _ _ tt6,e7,t7,λy hy=>sub y (ve.mp hy).1,by omega,by rw[wZ];simp only[Wm];omega,by rw[qy];exact heq⟩
def Lw(K:wb):Sp:=λvs H Q _=>∃x0 x1,vs=[x0,x1] /\ ∃(lw:wf)(left:List Nat)(ps:List Rat),x0=.ref lw/\H lw=some (.lst (vz left))/\Is K H x1 (LN ps)/\(∀w∈left,w<ps.length)/\left.length<=900/\(∀i,ag 4000 (ps.getD i 0)) /\ ∀v H',ah H H'->Is K H' v (TW (aC ps left))->Q v H'
theorem N7{K:wb}{H:Hp}{Q:VK}{E:XK}{lw:wf}{left:List Nat}{ps:List Rat}{v:V}(e:H lw=some (.lst (vz left)))(h:Is K H v (LN ps))(hw:∀w∈left,w<ps.length)(hl:left.length<=900)(b:∀i,ag 4000 (ps.getD i 0))(q:∀v H',ah H H'->Is K H' v (TW (aC ps left))->Q v H'):Lw K [.ref lw,v] H Q E:=⟨_,_,rfl,lw,left,ps,rfl,e,h,hw,hl,b,q⟩
theorem zuX(ps:List Rat)(l:List Nat):(aC ps l).length<=l.length:=WI _ _
theorem JX(T:Txt K mg a):aN P w K mg base aU 2 a.GZ a.FY tP (Lw K):=by
 refine T.AH.F.ok Y7 ?_ ?_;wtm_at "b2";refine⟨_,(av (aG (dG (show aK _ (.type "tuple") (ee K)from fm) rfl T.z_tuple eG (ae (eH rfl (cn.by (N':=["worm","phases"]) (src:=[none,some 1]) rfl (show cK _ (az tM).names zY ["worm","phases"] [none,some 1]=true from by decide +kernel)) (iU (pv 0)) (λ_ _ _ _ _=>(aZ (i:=0) (show(["worm","phases"]:List Str).Nodup from by decide) rfl (Or.inl rfl))) (λ_ _ _ _ _=>(nD (dR (dh (ar (gu (K:=K) (mg:=mg) (a:=a) T) hr T.fM (ae (di (show gA _ (dB K)from cF) (pv 1) (pv 0) (λ_ _=>rfl)) (ae (bM (v:=.ref a.dU) rfl T.eU rfl) af))))))) (λ_ _ _ _ _=>(pv 0))) af)))),?_⟩;wtm_at "cl";rw[show start zY [x0,x1]=[some x0,some x1]from rfl];obtain⟨lw,left,ps,rfl,e1,hx,hw,hl,bp,q⟩:=h;o_head nU (.of e1) (λD i ys σ' H'=>(∃o,σ'=[o,some x1])/\H D=none/\ah H H'/\H' D=some (.lst (vz (aC ps (left.take i))))) (λD H' n s e=>⟨⟨_,rfl⟩,n,s,e⟩) (λD i ys σ' H' h=>h.2.2.1.seq (.of e1)) ?_ ?_
 ·rintro D i x ys σ' H1 hx' ⟨⟨o,rfl⟩,n,S1,e2⟩
  obtain⟨hi,rfl⟩:=Bg hx';have hx1:=hx.by S1;have hlt:=hw _ (vO hi);have bw:=bp left[i];have hle:=zuX ps (left.take i);have htl:(left.take i).length<=900:=by rw[Ws];omega
  o_head lT hx1 (by omega) (by omega) (λv iv=>?_);rw[wT]at iv;generalize hww:left[i]=ww at *;k_few
  ·rename_i z
   refine ma e2 (by rw[jQ];omega) (λH6 E6 e6=>⟨⟨_,rfl⟩,n,S1.grow n E6,?_⟩);rw[q_ hi,hww,Yy z,BN];exact e6
  ·rename_i z
   refine⟨[],⟨_,rfl⟩,n,S1,?_⟩;rw[q_ hi,hww,zu4 (by first | exact z | exact qB.mp z)];exact e2
 ·rintro D ys σ' H1 ⟨_,n,S1,e2⟩
  rw[jQ,WC]at e2;o_head sY (.of e2) (λl H2 n2 S2 e3=>?_);exact q _ H2 (S1.trans S2) (Dl.mpr ⟨l,rfl,.of e3⟩)
def Oq(K:wb):Sp:=λvs H Q _=>∃x0,vs=[x0] /\ ∃(a b:Rat)(xs:List Rat)(m:Nat),Is K H x0 (bA a b xs)/\ag 10 a/\ag 10 b/\1<=xs.length/\xs.length<=8/\Cm m xs/\m+2+21*xs.length<=3950 /\ ∀v H',ah H H'->Is K H' v (GD a b xs)->Q v H'
theorem DG{K:wb}{H:Hp}{Q:VK}{E:XK}{a b:Rat}{xs:List Rat}{m:Nat}{v:V}(h:Is K H v (bA a b xs))(ba:ag 10 a)(bb:ag 10 b)(h1:1<=xs.length)(h8:xs.length<=8)(c:Cm m xs)(hm:m+2+21*xs.length<=3950)(q:∀v H',ah H H'->Is K H' v (GD a b xs)->Q v H'):Oq K [v] H Q E:=⟨_,rfl,a,b,xs,m,h,ba,bb,h1,h8,c,hm,q⟩
structure zBL(K:wb)(a b:Rat)(xs:List Rat)(m:Nat)(H H':Hp)(vw:V)(lp lv ll:wf)(left:List Nat)(ps:List Rat)(done:List (List Nat))(f:Nat)(pv wv:List V)(vwave:V):Prop where
 same:ah H H'
 hp:H lp=none
 hv:H lv=none
 iw:Is K H' vw (N (1-bX xs))
 mZ:lp≠lv
 ED:ll≠lp
 zX:ll≠lv
 ep:H' lp=some (.lst pv)
 tp:ao K H' pv (ps.map N)
 el:H' ll=some (.lst (vz left))
 ev:H' lv=some (.lst wv)
 tv:ao K H' wv (done.map TW)
 iv:Is K H' vwave (TW (aC ps left))
 nd:left.Nodup
 lt:∀w∈left,w<xs.length
 len:ps.length=xs.length
 fl:left.length<=f
 dl:done.length+left.length<=xs.length
 cm:Cm (m+2+21*(xs.length-left.length)) ps
 w1:done++(cv a b f ps left).1=cf a b xs
 w2:(cv a b f ps left).2=(d_ a b xs).2
def Nw(K:wb)(a b:Rat)(xs:List Rat)(m:Nat)(H:Hp)(x0 vw:V)(lp lv:wf)(k:Nat)(σ':L2.St)(H':Hp):Prop:=∃(ll:wf)(left:List Nat)(ps:List Rat)(done:List (List Nat))(f:Nat)(pv wv:List V)(vwave:V)(o6 o7:Option V),σ'=[some x0,some vw,some (.ref lp),some (.ref ll),some (.ref lv),some vwave,o6,o7,none]/\k=left.length/\zBL K a b xs m H H' vw lp lv ll left ps done f pv wv vwave
theorem oY{H:Hp}{p q:wf}{o:HO}(h:H p=none)(k:H q=some o):p≠q:=λe=>by rw[e,k]at h;cases h
theorem zvC{α β γ : Type}(f : α -> β)(g : β -> γ)(l:List α):(!((l.map f).map g).isEmpty) = !l.isEmpty:=by cases l<;>rfl
theorem UX{α : Type}{l:List α}(h:l≠[]):(!l.isEmpty)=true:=by cases l with
 | nil=>exact absurd rfl h
 | cons x l=>rfl
theorem CI(T:Txt K mg a):aN P w K mg base aU 4 a.mi a.Ic sD (Oq K):=by
 refine T.rZ.F.ok iu ?_ ?_;wtm_at "b1"
 refine⟨_,(ak (ay 1 iu.nd (ar (sI T) hr T.ou (ae (bM (v:=.ref a.dU) rfl T.eU rfl) (ae (ar (Nl T) hr T.AL (ae (au (pv 0)) af)) af))))
     (ak (mI (i:=2) iu.nd rfl (Or.inl rfl) rfl (cn.by (N':=["phase","wait"]) (src:=[none,some 1]) rfl (show cK _ (az m6).names pA ["phase","wait"] [none,some 1]=true from by decide +kernel)) (iM (au (pv 0))) (λ_ _ _ _ _=>(aZ (i:=0) (show(["phase","wait"]:List Str).Nodup from by decide) rfl (Or.inl rfl))) (λ_ _ _ _ _=>eA) (λ_ _ _ _ _=>(ar (gr (K:=K) (mg:=mg) (a:=a) T) hr T.fN (ae (pv 0) (ae (pv 1) af)))))
     (ak (ay 3 iu.nd (UY rfl rfl T.z_list rfl T.z_range (ae (bK (show aK _ (.builtin "len") (cP K)from eC) rfl T.z_len dQ (ae (pv 2) af)) af)))
     (ak (ay 4 iu.nd (dC af))
     (ak (ay 5 iu.nd (ar (JX T) hr T.AH (ae (pv 3) (ae (pv 2) af))))
     (ak (mT vJ (BM (pv 5)) (ak (iE (iO vV vS vT gZ (pv 4) (ae (pv 5) af)))
     (ak (ay 3 iu.nd (eH rfl (cn.by (N':=["worm","wave"]) (src:=[none,some 5]) rfl (show cK _ (az m6).names pA ["worm","wave"] [none,some 5]=true from by decide +kernel)) (iU (pv 3)) (λ_ _ _ _ _=>(aZ (i:=0) (show(["worm","wave"]:List Str).Nodup from by decide) rfl (Or.inl rfl))) (λ_ _ _ _ _=>(nD (bZ (show aM _ (wY .NotIn) (kD K true)from zvg) (pv 0) (pv 1) (by with_unfolding_all rfl)))) (λ_ _ _ _ _=>(pv 0))))
     (ak (ay 6 iu.nd (ar (yU T) hr T.oq (ae (au (pv 0)) (ae (bK (show aK _ (.builtin "len") (cP K)from eC) rfl T.z_len dQ (ae (pv 5) af)) af))))
     (ak (fu vJ rfl (iU (pv 3)) (aZ (i:=7) iu.nd rfl (Or.inl rfl)) (av (kj (ar (Km T) hr T.AI (ae (pv 6) (ae (di cF (pv 2) (pv 7) (λ_ _=>rfl)) af))) (yb (pv 2) (pv 7) zt))))
     (av (ay 5 iu.nd (ar (JX T) hr T.AH (ae (pv 3) (ae (pv 2) af))))))))))
     (ak (mI (i:=8) iu.nd rfl (Or.inl rfl) rfl (cn.by (N':=["worm","phase","left"]) (src:=[none,none,some 3]) rfl (show cK _ (az m6).names pA ["worm","phase","left"] [none,none,some 3]=true from by decide +kernel)) (ZN rfl T.z_enumerate (ae (pv 2) af)) (λ_ _ _ _ _=>by exact(show PG _ _ (hJ K 2 _)from gC (n:=2) rfl (cR (aZ (i:=0) (show(["worm","phase","left"]:List Str).Nodup from by decide) rfl (Or.inl rfl)) (cR (aZ (i:=1) (show(["worm","phase","left"]:List Str).Nodup from by decide) rfl (Or.inl rfl)) gf)))) (λ_ _ _ _ _=>eA) (λ_ _ _ _ _=>(yw (bZ (show aM _ (wY .In) (kD K false)from UQ) (pv 0) (pv 2) (by with_unfolding_all rfl)) (pv 1) (bM (v:=.ref a.c_) rfl T.dS rfl))))
     (av (aG (bC (ae (pv 1) (ae (dG (show aK _ (.type "tuple") (ee K)from fm) rfl T.z_tuple eG (ae (pv 4) af)) (ae (bC (ae (au (pv 0)) (ae (dG (show aK _ (.type "tuple") (ee K)from fm) rfl T.z_tuple eG (ae (pv 8) af)) af))) af))))))))))))),?_⟩
 wtm_at "cl";rw[show start pA [x0]=[some x0,none,none,none,none,none,none,none,none]from rfl];obtain⟨ra,rb,xs,m,hw,ba,bb,h1,h8,cm,hm,q⟩:=h;have bx:∀i,ag 4000 (xs.getD i 0):=λi=>(cm.get i).mono (by omega)
 have bm:ag 3950 (bX xs):=(cm.fO (gO h1)).mono (by omega);o_head aH (j:=1) hw rfl (λvp ip=>?_);o_head JB (.inr ip) h1 bx (λvm im=>?_);k_few;rename_i vw H1 S1 iw;refine aH (j:=1) (hw.by S1) rfl (λvp1 ip1=>?_);obtain⟨ap,us,rfl,hu,tu⟩:=bW.mp ip1;refine jl (o0:=none) (tl:=[some vw]) hu rfl (λj y H'=>Is K H' y (N ((bE xs).getD j 0))) ?_ ?_
 . intro D i x ys o H2 hx inv
   obtain⟨hi,ix⟩:=dM tu hx;have S2:=inv.same;have ix2:=ix.by S2;have iw2:=iw.by S2;have bi:=bx i;have bw:ag 3952 (1-bX xs):=(ag.one.sub bm).mono (by decide);k_few;rename_i v3 H3 S3 i3;exact eS inv (by omega) f_ ⟨_,rfl⟩ S3 (by rw[ZM hi];exact i3)
 . intro lp ys H2 hnp S2 hD hl hr
   have hl':ys.length=(bE xs).length:=by rw[hl,tu.length,wm,fh]
   have tp:ao K H2 ys ((bE xs).map N):=gp hl' hr;have iw2:=iw.by S2;have T2:=S1.trans S2;have hpH:H lp=none:=jz S1 hnp;clear hl hr hu tu ip1 ip im iw S1 S2 hnp;o_head zxb (dj hD tp) ?_;rw[fh];o_head zvs (n:=xs.length) (by omega) (λll H3 n3 S3 e3=>?_);o_head fj (by simp) (λlv H4 n4 S4 e4=>?_);k_few;have hD4:=S4 _ _ (S3 _ _ hD);have tp4:ao K H4 ys ((bE xs).map N):=ao.same (S3.trans S4) _ _ tp;have jV:Cm (m+2) (bE xs):=(Cm.rise (h:=0) (cm.kP (ys:=0::xs) λy hy=>by rcases wQ.mp hy with rfl | hy;(exact .inr rfl);exact .inl hy) (gO h1)).kP λy hy=>.inl (wy _ hy)
   have b3:∀i,ag 4000 ((bE xs).getD i 0):=λi=>(jV.get i).mono (by omega)
   refine N7 (S4 _ _ e3) (dj hD4 tp4) (λw hw'=>by rw[fh];exact wI.mp hw') (by rw[vy];omega) b3 (λvwave H5 S5 i5=>?_);have T5:=T2.trans (S3.trans (S4.trans S5));have hvH:H lv=none:=jz (T2.trans S3) n4;have mZ:lp≠lv:=(oY n4 (S3 _ _ hD)).symm;have ED:ll≠lp:=oY n3 hD;have zX:ll≠lv:=(oY n4 e3).symm
   have G0:Nw K ra rb xs m H x0 vw lp lv xs.length [some x0,some vw,some (.ref lp),some (.ref ll),some (.ref lv),some vwave,none,none,none] H5:=by
     refine⟨ll,wx xs.length,bE xs,[],xs.length,ys,[],vwave,none,none,rfl,by rw[vy],T5,hpH,hvH,iw2.by (S3.trans (S4.trans S5)),mZ,ED,zX,S5 _ _ hD4,ao.same S5 _ _ tp4,S5 _ _ (S4 _ _ e3),S5 _ _ e4,.nil,i5,Vc,λw hw'=>wI.mp hw',fh xs,by rw[vy];exact wp _,by rw[vy];simp,jV.mono (by omega),?_,rfl⟩;rw[QK];rfl
   clear T5 S5 S4 S3 T2 hD hD4 tp tp4 b3 jV n3 n4 e3 e4 iw2 i5 hl';o_head tK (Nw K ra rb xs m H x0 vw lp lv) _ G0 ?_;clear G0 mZ ED zX;rintro k σ' H6 ⟨ll,left,ps,done,f,pv,wv,vwave,o6,o7,rfl,hk,G⟩;have bp:∀i,ag 4000 (ps.getD i 0):=λi=>(G.cm.get i).mono (by have:=G.dl;omega)
   o_head zzP (show Is K H6 vwave (.tuple (((aC ps left).map λ(w:Nat)=>(w:Int)).map PyData.int))from G.iv) ?_;rw[zvC]
   by_cases he:aC ps left=[]
   . rw[show(!(aC ps left).isEmpty)=false by rw[he];rfl]
     refine lY ?_;have w1:=G.w1;have w2:=G.w2;rw[mX he]at w1 w2;rw[Wl]at w1;have eps:ps=(d_ ra rb xs).2.2:=congrArg UB w2;have elf:left=(d_ ra rb xs).2.1:=congrArg UA w2;have hph:jC left ps=cV ra rb xs:=by rw[cV,<- eps,<- elf]
     o_head zwW (.of G.ep) (o0:=none) (o0':=none) (tl:=[some (.ref ll)]) rfl (λj y H'=>Is K H' y (N ((jC left ps).getD j 0))) f_ ?_ ?_
     . intro D i x zs o1 o2 H7 c hx inv hc
       obtain⟨hi,ix⟩:=dM G.tp hx;have S7:=inv.2.2.1;refine lg (.of hc) rfl ?_;o_head zy1 (aI.of (S7 _ _ G.el)) ?_;k_few
       . rename_i z
         exact zr inv (by have:=G.len;omega) f_ ⟨_,_,rfl⟩ (ah.refl _) (by rw[mP hi,if_pos z];exact ix.by S7)
       . rename_i z
         exact zr inv (by have:=G.len;omega) f_ ⟨_,_,rfl⟩ (ah.refl _) (by rw[mP hi,if_neg z];exact dX 0 (T.eI _) rfl rfl)
     . intro D zs H7 hn S7 hD hl hr
       have hpl:=G.tp.length;rw[wm]at hpl;have tz:ao K H7 zs ((jC left ps).map N):=gp (by rw[hl,PC,hpl]) hr;rw[hph]at tz;have tv:=ao.same S7 _ _ G.tv;have ev:=S7 _ _ G.ev;have iw7:=G.iw.by S7;have T7:=G.same.trans S7;rw[w1]at tv;o_head gY (cu.mpr ⟨lv,wv,rfl,.of ev,tv⟩) (λv8 H8 S8 i8=>?_);o_head aH (j:=0) (hw.by (T7.trans S8)) rfl (λv9 i9=>?_);o_head gY (dj (S8 _ _ hD) (ao.same S8 _ _ tz)) (λv10 H10 S10 i10=>?_);o_head cc (ds:=[R ra rb,TN (cV ra rb xs)]) (by simp) (.cons (i9.by S10) (.cons i10 .nil)) (λv11 H11 S11 i11=>?_);o_head cc (ds:=[N (1-bX xs),og (cf ra rb xs),bA ra rb (cV ra rb xs)]) (by simp) (.cons (iw7.by (S8.trans (S10.trans S11))) (.cons (i8.by (S10.trans S11)) (.cons i11 .nil))) (λv12 H12 S12 i12=>?_);exact q v12 H12 (T7.trans (S8.trans (S10.trans (S11.trans S12)))) i12
   . rw[UX he]
     refine lP ?_;refine yQ ?_;have hwl:=G.tv.length;rw[wm]at hwl;have hdl:=G.dl;have hlen:=De ps left;have hpos:0<(aC ps left).length:=qg.mpr he;o_head gG (aI.of G.ev) ?_;o_head gq G.ev (by omega) (λH7 E7 e7=>?_);have K7:bo H6 H7:=E7.keep G.ev;have S7:ah H H7:=G.same.grow G.hv E7;have el7:=E7 _ _ G.zX G.el;have ep7:=E7 _ _ G.mZ G.ep;have tp7:=ao.keep K7 _ _ (dZ _) G.tp;have iv7:=G.iv.ly K7 (DT _);have iw7:=G.iw.gT K7
     have tv7:ao K H7 (wv++[vwave]) ((done++[aC ps left]).map TW):=by
       rw[vx];exact(ao.keep K7 _ _ (tH _) G.tv).snoc iv7
     obtain⟨aw,rfl,hsw⟩:=Dl.mp iv7;o_head nU (.of el7) (λD i ys σ' H'=>(∃o,σ'=[o,some (.ref aw)])/\H7 D=none/\ah H7 H'/\H' D=some (.lst (vz (bQ (left.take i) (aC ps left))))) (λD H' n s e=>⟨⟨_,rfl⟩,n,s,e⟩) (λD i ys σ' H' h=>h.2.2.1.seq (.of el7)) ?_ ?_
     . rintro D i x ys σ' H8 hx' ⟨⟨o,rfl⟩,n,S8,e8⟩
       obtain⟨hi,rfl⟩:=Bg hx';have hle:(bQ (left.take i) (aC ps left)).length<=(left.take i).length:=WI _ _;rw[Ws]at hle;o_head YW (S8.iV hsw) ?_;generalize hww:left[i]=ww at *;k_few
       . rename_i z
         refine ma e8 (by rw[jQ];omega) (λH9 E9 e9=>⟨⟨_,rfl⟩,n,S8.grow n E9,?_⟩);rw[q_ hi,hww,zvD z,BN];exact e9
       . rename_i z
         refine⟨[],⟨_,rfl⟩,n,S8,?_⟩;rw[q_ hi,hww,ztn (by first | exact z | exact qB.mp z)];exact e8
     . rintro D ys σ' H8 ⟨_,n8,S8,e8⟩
       rw[jQ,WC]at e8;have nD1:D≠lp:=oY n8 ep7;have nD2:D≠lv:=oY n8 e7;have T8:=S7.trans S8;have iv8:=iv7.by S8;o_head aH (j:=0) (hw.by T8) rfl (λvr ir=>?_);o_head R0 iv8 ?_;o_head Ek ir ba bb (by omega) (by omega) (λvpush H9 S9 ipush=>?_);rw[wT]at ipush;have bf:ag 700 (ra^(aC ps left).length):=(ba.pow _).mono (by omega);have bg:ag 1500 (aB ra rb (aC ps left).length):=(ba.aB bb _).mono (by omega);have T9:=S8.trans S9;have ep9:=T9 _ _ ep7;have tp9:ao K H9 pv (ps.map N):=ao.same T9 _ _ tp7;have e9:=S9 _ _ e8;have ev9:=T9 _ _ e7;have ndl:=mn (wave:=aC ps left) G.nd;have ltl:=nG (wave:=aC ps left) G.lt;generalize hL:bQ left (aC ps left)=left' at *;o_head Jt (.of e9) (λi σ'' H''=>∃o pv',σ''=[some x0,some vw,some (.ref lp),some (.ref D),some (.ref lv),some (.ref aw),some vpush,o,none]/\Exc lp H9 H''/\H'' lp=some (.lst pv')/\ao K H'' pv' ((cA (ra^(aC ps left).length) (aB ra rb (aC ps left).length) ps (left'.take i)).map N)) ⟨_,pv,rfl,Exc.refl _ _,ep9,tp9⟩ (λi σ'' H'' _ ⟨_,_,_,e,_⟩=>.of (e _ _ nD1 e9)) ?_ ?_
       . rintro i x σ'' H10 hx' ⟨o,pv',rfl,E10,e10,t10⟩
         obtain⟨hi,rfl⟩:=Bg hx';have K10:bo H9 H10:=E10.keep ep9;have hlt:=ltl _ (vO hi);have hpl:=iA (ra^(aC ps left).length) (aB ra rb (aC ps left).length) (left'.take i) ps;have hps:=G.len
         have bq:ag 4000 ((cA (ra^(aC ps left).length) (aB ra rb (aC ps left).length) ps (left'.take i)).getD left'[i] 0):=by
           have nt:(left'.take i).Nodup:=ndl.sublist (XY ..);rw[jh _ _ _ _ nt (λw hw'=>by rw[hps];exact ltl w (uG _ _ hw'))];rw[if_neg]
           . exact bp _
           . intro hm
             obtain⟨j,hj,ej⟩:=wX hm;rw[Ws]at hj;rw[X3]at ej;exact absurd ej ((vY.mp ndl) j i (by omega) hi (by omega))
         have ip10:=ipush.ly K10 (Bs _ _);generalize hww:left'[i]=ww at *;generalize hqs:cA (ra^(aC ps left).length) (aB ra rb (aC ps left).length) ps (left'.take i)=qs at *;o_head lT (dj e10 t10) (by omega) (by omega) (λv11 i11=>?_);rw[wT]at i11;o_head Rb ip10 i11 bf bg (bq.mono (by decide)) (λv12 H12 S12 i12=>?_);have e12:=S12 _ _ e10;have hvl:=t10.length;rw[wm]at hvl;o_head Ef (j:=ww) e12 (by unfold ib;rw[if_pos (by omega),if_pos (by omega)];simp) (λH13 E13 e13=>?_);refine⟨_,_,rfl,E10.trans (S12.exc.trans E13),e13,?_⟩;have K13:=E13.keep e12;rw[q_ hi,hww,zrm,hqs];refine gp (by rw[VM,VM];exact hvl) (λj v hj=>?_);rw[VT]at hj
         by_cases hjw:ww=j
         . subst hjw
           rw[if_pos rfl,if_pos (by omega)]at hj;cases hj;rw[Ru (by omega)];exact i12.gT K13
         . rw[if_neg hjw]at hj
           rw[Rq hjw];obtain⟨_,ij⟩:=dM t10 hj;exact(ij.by S12).gT K13
       . rintro σ'' H10 ⟨o,pv',rfl,E10,e10,t10⟩
         rw[jQ,WC]at t10;have K10:bo H9 H10:=E10.keep ep9;have hps:=G.len
         have cm10:Cm (m+2+21*(xs.length-left'.length)) (cA (ra^(aC ps left).length) (aB ra rb (aC ps left).length) ps left'):=by
           have c0:Cm (m+2+21*(xs.length-left.length)) (0::ps):=G.cm.kP λy hy=>by rcases wQ.mp hy with rfl | hy;(exact .inr rfl);exact .inl hy
           exact((c0.wave ba bb (aC ps left).length ndl (λw hw'=>by rw[hps];exact ltl w hw')).kP λy hy=>.inl (wy _ hy)).mono (by omega)
         have hpl:=iA (ra^(aC ps left).length) (aB ra rb (aC ps left).length) left' ps;have w1:=G.w1;have w2:=G.w2;have hfl:=G.fl;obtain⟨f',rfl⟩:∃f',f=f'+1:=⟨f-1,by omega⟩;rw[jg he,hL]at w1 w2;generalize hqs:cA (ra^(aC ps left).length) (aB ra rb (aC ps left).length) ps left'=qs at *;k_few;have e10':=E10 _ _ nD1 e9;refine N7 e10' (dj e10 t10) (λw hw'=>by rw[hpl,hps];exact ltl w hw') (by omega) (λi=>(cm10.get i).mono (by omega)) (λvwave2 H11 S11 i11=>?_);k_few;have KA:=T9.keep.trans K10;refine⟨left'.length,by omega,D,left',qs,done++[aC ps left],f',pv',wv++[V.ref aw],vwave2,_,_,rfl,rfl,?_⟩;exact⟨((S7.trans T9).grow G.hp E10).trans S11,G.hp,G.hv,(iw7.gT KA).by S11,G.mZ,nD1,nD2,S11 _ _ e10,ao.same S11 _ _ t10,S11 _ _ e10',S11 _ _ (E10 _ _ G.mZ.symm ev9),ao.same S11 _ _ (ao.keep KA _ _ (tH _) tv7),i11,ndl,ltl,by rw[hpl];exact hps,by omega,by rw[wZ];simp;omega,cm10,by rw[qy];exact w1,w2⟩
def J9(K:wb):Sp:=λvs H Q _=>∃x0 x1,vs=[x0,x1] /\ ∃(a b:Rat)(xs:List Rat)(n:Int),x1=.int n/\Is K H x0 (bA a b xs)/\ag 10 a/\ag 10 b/\1<=xs.length/\xs.length<=8/\0<=n/\n<=40/\(∀i,i<=n.toNat->Cm 3700 (aS a b xs i::aj a b xs i)) /\ ∀l H',H l=none->ah H H'->Is K H' (.ref l) (.list (fR a b xs n.toNat))->Q (.ref l) H'
theorem PY{K:wb}{H:Hp}{Q:VK}{E:XK}{a b:Rat}{xs:List Rat}{n:Int}{v:V}(h:Is K H v (bA a b xs))(ba:ag 10 a)(bb:ag 10 b)(h1:1<=xs.length)(h8:xs.length<=8)(n0:0<=n)(n1:n<=40)(c:∀i,i<=n.toNat->Cm 3700 (aS a b xs i::aj a b xs i))(q:∀l H',H l=none->ah H H'->Is K H' (.ref l) (.list (fR a b xs n.toNat))->Q (.ref l) H'):J9 K [v,.int n] H Q E:=⟨_,_,rfl,a,b,xs,n,rfl,h,ba,bb,h1,h8,n0,n1,c,q⟩
theorem JR(T:Txt K mg a):aN P w K mg base aU 5 a.H_ a.G6 z9 (J9 K):=by
 refine T.AR.F.ok kz ?_ ?_;wtm_at "b2"
 refine⟨_,(ak (ay 2 kz.nd (dC af))
     (ak (ay 3 kz.nd (bM (v:=.ref a.c_) rfl T.dS rfl))
     (ak (ay 4 kz.nd (pv 0))
     (ak (fu vJ rfl (jj rfl T.z_range (ae (pv 1) af)) (aZ (i:=5) kz.nd rfl (Or.inl rfl)) (ak (ay 6 kz.nd (ar (CI T) hr T.rZ (ae (pv 4) af)))
     (ak (ay 3 kz.nd (ar (gr T) hr T.fN (ae (pv 3) (ae (au (pv 6)) af))))
     (ak (ay 4 kz.nd (au (pv 6)))
     (av (iE (iO vV vS vT gZ (pv 2) (ae (bC (ae (pv 3) (ae (au (pv 6)) (ae (au (pv 4)) af)))) af))))))))
     (av (aG (pv 2))))))),?_⟩
 wtm_at "cl";rw[show start Ol [x0,x1]=[some x0,some x1,none,none,none,none,none]from rfl];obtain⟨ra,rb,xs,n,rfl,hw,ba,bb,h1,h8,n0,n1,cm,q⟩:=h;o_head fj (by simp) (λlr H1 nr S1 e1=>?_);o_head jR (n:=n) (by omega) (by omega) (λi σ H'=>∃vh vs o5 o6 us,σ = [some x0,some (.int n),some (.ref lr),some vh,some vs,o5,o6]/\ah H H'/\H' lr=some (.lst us)/\ao K H' us (fR ra rb xs i)/\Is K H' vh (N (aS ra rb xs i))/\Is K H' vs (bA ra rb (aj ra rb xs i))) ⟨_,_,_,_,[],rfl,S1,e1,.nil,dX 0 (T.eI _) rfl rfl,hw.by S1⟩ ?_ ?_
 . rintro i σ H2 hi ⟨vh,vs,o5,o6,us,rfl,S2,e2,t2,ih,iw⟩
   have hc:=cm i (by omega);have hpl:=bP ra rb xs i;have bh:ag 3700 (aS ra rb xs i):=hc.fO (wC ..);have hc':Cm 3700 (aj ra rb xs i):=hc.kP λy hy=>.inl (wy _ hy)
   have bw:ag 3702 (1-bX (aj ra rb xs i)):=(ag.one.sub (hc'.fO (gO (by omega)))).mono (by decide);o_head DG iw ba bb (by omega) (by omega) hc' (by rw[hpl];omega) (λv3 H3 S3 i3=>?_);o_head aH (j:=0) i3 rfl (λv4 i4=>?_);have ih3:=ih.by S3;k_few;rename_i v5 H5 S5 i5;refine aH (j:=2) (i3.by S5) rfl (λv6 i6=>?_);have T5:=S3.trans S5;o_head gG (aI.of (T5 _ _ e2)) ?_;o_head aH (j:=1) (i3.by S5) rfl (λv7 i7=>?_);o_head aH (j:=1) i6 rfl (λv8 i8=>?_);o_head cc (ds:=[N (aS ra rb xs (i+1)),og (cf ra rb (aj ra rb xs i)),TN (aj ra rb xs (i+1))]) (by simp) (.cons i5 (.cons i7 (.cons i8 .nil))) (λv9 H9 S9 i9=>?_);k_few;have T9:=T5.trans S9;have e9:=T9 _ _ e2;have hul:=t2.length;rw[Bf]at hul;refine gq e9 (by omega) (λH10 E10 e10=>?_);have K10:=E10.keep e9;have i10:=i9.ly K10 (Nr _ _ _)
   have t10:ao K H10 (us++[v9]) (fR ra rb xs (i+1)):=by
     rw[yl];exact(ao.keep K10 _ _ (zoU ..) (ao.same T9 _ _ t2)).snoc i10
   exact⟨_,_,_,_,_,rfl,(S2.trans T9).grow nr E10,e10,t10,(i5.by S9).gT K10,(i6.by S9).ly K10 (zzO _ _ _)⟩
 . rintro σ H2 ⟨vh,vs,o5,o6,us,rfl,S2,e2,t2,ih,iw⟩
   k_few;exact q lr H2 nr S2 (cu.mpr ⟨lr,us,rfl,.of e2,t2⟩)
def BD(a b:Rat)(xs:List Rat)(n:Nat):wF:=.tuple [N (aS a b xs n),bA a b (aj a b xs n)]
def Kl(K:wb):Sp:=λvs H Q _=>∃x0 x1,vs=[x0,x1] /\ ∃(a b:Rat)(xs:List Rat)(n:Int),x1=.int n/\Is K H x0 (bA a b xs)/\ag 10 a/\ag 10 b/\1<=xs.length/\xs.length<=8/\0<=n/\n<=40/\(∀i,i<=n.toNat->Cm 3700 (aS a b xs i::aj a b xs i)) /\ ∀v H',ah H H'->Is K H' v (BD a b xs n.toNat)->Q v H'
theorem NA{K:wb}{H:Hp}{Q:VK}{E:XK}{a b:Rat}{xs:List Rat}{n:Int}{v:V}(h:Is K H v (bA a b xs))(ba:ag 10 a)(bb:ag 10 b)(h1:1<=xs.length)(h8:xs.length<=8)(n0:0<=n)(n1:n<=40)(c:∀i,i<=n.toNat->Cm 3700 (aS a b xs i::aj a b xs i))(q:∀v H',ah H H'->Is K H' v (BD a b xs n.toNat)->Q v H'):Kl K [v,.int n] H Q E:=⟨_,_,rfl,a,b,xs,n,rfl,h,ba,bb,h1,h8,n0,n1,c,q⟩
theorem oh{K:wb}{H:Hp}{Q:VK}{v:V}{ds:List wF}{d:wF}(h:Is K H v (.list (ds++[d])))(q:∀x,Is K H x d->Q x H):dB K v (.int (-1)) H Q:=by
 obtain⟨a,xs,rfl,hs,t⟩:=cu.mp h;have hl:=t.length;rw[wZ,Wm]at hl;obtain⟨x,e1,hx⟩:=t.get (i:=ds.length) (d:=d) (by rw[vH (wp _),Vr];rfl);exact jo hs (DK (by rw[hl];exact e1)) (q x hx)
theorem zvu(T:Txt K mg a):aN P w K mg base aU 6 a.behind a.Hj Ac (Kl K):=by
 refine T.HD.F.ok BV ?_ ?_;wtm_at "b2"
 refine⟨_,(ak (ay 2 BV.nd (ar (JR T) hr T.AR (ae (pv 0) (ae (pv 1) af))))
     (ak (bV (dR (BM (pv 2))) (av (aG (bC (ae (bM (v:=.ref a.c_) rfl T.dS rfl) (ae (pv 0) af))))) bY)
     (ak (ay 3 BV.nd (di cF (pv 2) (gE gz aA) (λ_ _=>rfl)))
     (av (aG (bC (ae (au (pv 3)) (ae (bC (ae (au (pv 0)) (ae (au (pv 3)) af))) af)))))))),?_⟩
 wtm_at "cl";rw[show start Kg [x0,x1]=[some x0,some x1,none,none]from rfl];obtain⟨ra,rb,xs,n,rfl,hw,ba,bb,h1,h8,n0,n1,cm,q⟩:=h;o_head PY hw ba bb h1 h8 n0 n1 cm (λlr H1 nr S1 i1=>?_);o_head O5 i1 ?_;generalize n.toNat=k at *;cases k with
 | zero =>
   rw[show(!(fR ra rb xs 0).isEmpty)=false from rfl];o_head cc (ds:=[N 0,bA ra rb xs]) (by simp) (.cons (dX 0 (T.eI _) rfl rfl) (.cons (hw.by S1) .nil)) (λv H2 S2 i2=>?_);exact q v H2 (S1.trans S2) i2
 | succ k =>
   rw[yl]at i1;rw[show(!(fR ra rb xs (k+1)).isEmpty)=true by rw[yl];simp];o_head oh i1 (λv2 i2=>?_);have i2:Is K H1 v2 (pS (aS ra rb xs (k+1)) (cf ra rb (aj ra rb xs k)) (aj ra rb xs (k+1))):=i2;o_head aH (j:=0) i2 rfl (λv3 i3=>?_);o_head aH (j:=0) (hw.by S1) rfl (λv4 i4=>?_);o_head aH (j:=2) i2 rfl (λv5 i5=>?_);o_head cc (ds:=[R ra rb,TN (aj ra rb xs (k+1))]) (by simp) (.cons i4 (.cons i5 .nil)) (λv6 H6 S6 i6=>?_);o_head cc (ds:=[N (aS ra rb xs (k+1)),bA ra rb (aj ra rb xs (k+1))]) (by simp) (.cons (i3.by S6) (.cons i6 .nil)) (λv7 H7 S7 i7=>?_);exact q v7 H7 (S1.trans (S6.trans S7)) i7
def Oh(K:wb):Sp:=λvs H Q _=>∃x0,vs=[x0] /\ ∃(a b:Rat)(xs:List Rat),Is K H x0 (bA a b xs)/\Q (.bl (decide (0∈xs))) H
theorem MY{K:wb}{H:Hp}{Q:VK}{E:XK}{a b:Rat}{xs:List Rat}{v:V}(h:Is K H v (bA a b xs))(q:Q (.bl (decide (0∈xs))) H):Oh K [v] H Q E:=⟨_,rfl,a,b,xs,h,q⟩
theorem Kj(T:Txt K mg a):aN P w K mg base aU 1 a.Ib a.GU tT (Oh K):=by
 refine T.AU.F.ok zsS ?_ ?_;wtm_at "b1";refine⟨_,(av (aG (gU (show aM _ (wY .In) (CM K)from US hu) (bM (v:=.ref a.c_) rfl T.dS rfl) (au (pv 0)) (by with_unfolding_all rfl)))),?_⟩;wtm_at "cl";rw[show start DM [x0]=[some x0]from rfl];obtain⟨ra,rb,xs,hw,q⟩:=h;o_head aH (j:=1) hw rfl (λvp ip=>?_);exact zyD (dX 0 (T.eI _) rfl rfl) ip q
def aX(xs:List Rat):List Rat:=(ai xs).dropLast
def DO(xs:List Rat):wF:=.tuple [TZ (aE xs),TN (aX xs)]
def Mt(K:wb)(a:Ad):Sp:=λvs H Q E=>∃x0,vs=[x0] /\ ∃(ra rb:Rat)(xs:List Rat),Is K H x0 (bA ra rb xs)/\xs.length<=8/\(∀i,ag 4000 (xs.getD i 0))/\(¬ 0∈xs->∀H',ah H H'->E (.ref a.dY) none H')/\(0∈xs->∀v H',ah H H'->Is K H' v (DO xs)->Q v H')
theorem rm{K:wb}{a:Ad}{H:Hp}{Q:VK}{E:XK}{ra rb:Rat}{xs:List Rat}{v:V}(h:Is K H v (bA ra rb xs))(h8:xs.length<=8)(bx:∀i,ag 4000 (xs.getD i 0))(qe:¬ 0∈xs->∀H',ah H H'->E (.ref a.dY) none H')(q:0∈xs->∀v H',ah H H'->Is K H' v (DO xs)->Q v H'):Mt K a [v] H Q E:=⟨_,rfl,ra,rb,xs,h,h8,bx,qe,q⟩
theorem KS:∀(n:Nat)(l:List Rat),(iR n l).length<=n
 | 0,l=>wp _
 | n+1,[]=>by rw[EW];simp
 | n+1,x::l=>by
  rw[m4 (by simp),vo];have:=KS n ((x::l).filter λy=>!decide (y=bX (x::l)));omega
theorem oI(T:Txt K mg a):aN P w K mg base (eJ P w) 4 a.laid a.Ik Au (Mt K a):=by
 refine T.me.F.pJ x_ ?_ ?_;wtm_at "b1"
 refine⟨_,(ak (bV (dR (dh (ar (Kj T) hr T.AU (ae (pv 0) af)))) (av (Kr T.Td rfl rfl T.Hn OR (ae dk af))) bY)
     (ak (ay 1 x_.nd (ar (Ci T) hr T.rM (ae (pv 0) af)))
     (ak (ay 2 x_.nd (dG (show aK _ (.type "tuple") (ee K)from fm) rfl T.z_tuple eG (ae (eH rfl (cn.by (N':=["row"]) (src:=[none]) rfl (show cK _ (az oU).names zQ ["row"] [none]=true from by decide +kernel)) (iU (pv 1)) (λ_ _ _ _ _=>(aZ (i:=0) (show(["row"]:List Str).Nodup from by decide) rfl (Or.inl rfl))) (λ_ _ _ _ _=>eA) (λ_ _ _ _ _=>(bK (show aK _ (.builtin "len") (cP K)from eC) rfl T.z_len dQ (ae (p_ (K:=K) cF (pv 0)) af)))) af)))
     (ak (ay 3 x_.nd (dG (show aK _ (.type "tuple") (ee K)from fm) rfl T.z_tuple eG (ae (eH rfl (cn.by (N':=["row"]) (src:=[none]) rfl (show cK _ (az oU).names zQ ["row"] [none]=true from by decide +kernel)) (iU (m5 nZ (pv 1) mL (nF (gE gz aA)))) (λ_ _ _ _ _=>(aZ (i:=0) (show(["row"]:List Str).Nodup from by decide) rfl (Or.inl rfl))) (λ_ _ _ _ _=>eA) (λ_ _ _ _ _=>(p_ (K:=K) cF (pv 0)))) af)))
     (av (aG (bC (ae (pv 2) (ae (pv 3) af))))))))),?_⟩
 wtm_at "cl";rw[show start zQ [x0]=[some x0,none,none,none]from rfl];obtain⟨ra,rb,xs,hw,h8,bx,qe,q⟩:=h;have hvl:(ai xs).length<=8:=Wk (KS _ _) h8;o_head MY hw ?_;k_few
 . rename_i z
   exact⟨by simp;decide,qe z H (ah.refl _)⟩
 . rename_i z
   have z:=(by first | exact z | exact qB.mp z:0∈xs);refine BB hw h8 bx (λlr H1 us n1 S1 e1 t1=>?_);have hul:=t1.length;rw[wm]at hul;o_head lM (.of e1) (o0:=none) (tl:=[]) rfl (λj y _=>y=.int ((aE xs).getD j 0)) ?_ ?_
   . intro D j x ys o H2 hx inv
     obtain⟨hj,ix⟩:=nN t1 hx;rw[wm]at hj;rw[wa,wu,wc hj]at ix;have ix2:Is K H2 x (jY xs (ai xs)[j]):=ix.by inv.same;o_head aH (j:=1) ix2 rfl (λv3 i3=>?_);o_head R0 i3 ?_;o_head eS inv (by omega) (λ_ _ _ _ _ h=>h) ⟨_,rfl⟩ (ah.refl _) ?_;unfold aE;rw[wa,wu,wc hj]
     rfl
   . intro D ys H2 hn S2 hD hl hr
     have hys:ys=(aE xs).map V.int:=Pg (by rw[hl,hul];unfold aE;rw[wm]) hr;subst hys;o_head sY (.of hD) (λl3 H3 n3 S3 e3=>?_);have i3:Is K H3 (.ref l3) (TZ (aE xs)):=nA.mpr ⟨l3,rfl,.of e3⟩;have T3:=S2.trans S3;o_head ya (cu.mpr ⟨lr,us,rfl,.of (T3 _ _ e1),ao.same T3 _ _ t1⟩) (λl4 H4 us4 n4 S4 e4 t4=>?_);rw[C0,<- xr]at t4;o_head lM (.of e4) (o0:=none) (tl:=[]) rfl (λj y H'=>Is K H' y (N ((aX xs).getD j 0))) ?_ ?_
     . intro D' j x ys o H5 hx inv
       obtain⟨hj,ix⟩:=nN t4 hx;have hj2:j<(aX xs).length:=by rw[wm]at hj;exact hj
       have hj8:(aX xs).length<=8:=by unfold aX;rw[Xs];omega
       rw[wa,wu,wc (show j<(ai xs).dropLast.length from hj2)]at ix;have ix5:Is K H5 x (jY xs (aX xs)[j]):=ix.by inv.same;o_head aH (j:=0) ix5 rfl (λv6 i6=>?_);o_head eS inv (by omega) f_ ⟨_,rfl⟩ (ah.refl _) ?_;rw[wa,wc hj2];exact i6
     . intro D' zs H5 hn5 S5 hD5 hl5 hr5
       have hu4:=t4.length;rw[wm]at hu4;have tz:ao K H5 zs ((aX xs).map N):=gp (by rw[hl5,hu4];rfl) hr5;o_head gY (dj hD5 tz) (λv6 H6 S6 i6=>?_);o_head cc (ds:=[TZ (aE xs),TN (aX xs)]) (by simp) (.cons (i3.by (S4.trans (S5.trans S6))) (.cons i6 .nil)) (λv7 H7 S7 i7=>?_);exact q z v7 H7 (S1.trans (T3.trans (S4.trans (S5.trans (S6.trans S7))))) i7
theorem zwy{m:Nat}{xs:List Rat}(h:Cm m xs)(i j:Nat):ag (m+2) (xs.getD i 0+(1-xs.getD j 0)):=by
 obtain⟨B,h0,h1,h2⟩:=h
 have key:∀i,∃t:Int,xs.getD i 0=wB t B/\Bd m t:=λi=>by
  rcases wz i xs.length with q | q
  ·rw[wa,wc q]
   exact h2 _ (vO q)
  ·rw[wa,wE q]
   exact⟨0,by simp,⟨by simp;exact Wr m⟩⟩
 obtain⟨t,et,bt⟩:=key i;obtain⟨z,ez,bz⟩:=key j
 have e2:wB t B+(1-wB z B)=wB (t+B-z) B:=by
  symm
  refine fL (by omega) ?_;have q1:=cy t (show B≠0 by omega);have q2:=cy z (show B≠0 by omega);have q3:((t+B-z:Int):Rat)=(t:Rat)+(B:Rat)-(z:Rat):=by push_cast;rfl
  rw[q3,<- q1,<- q2]
  grind
 rw[et,ez,e2];exact ag.divInt (by omega) (((bt.add h1).sub bz).mono (by omega)) (h1.mono (by omega))
def PK(K:wb):Sp:=λvs H Q _=>∃x0 x1 x2 x3,vs=[x0,x1,x2,x3] /\ ∃(a b:Rat)(n i:Int)(xs:List Rat)(m:Nat),x1=.int n/\x3=.int i/\Is K H x0 (R a b)/\Is K H x2 (LN xs)/\ag 10 a/\ag 10 b/\0<=n/\n<=64/\0<=i/\i<xs.length/\xs.length<=100/\Cm m xs/\m<=8000 /\
 ∀l H' us,H l=none->ah H H'->H' l=some (.lst us)->ao K H' us ((dE a b n.toNat xs i.toNat).map N)->Q (.ref l) H'
theorem Z7{K:wb}{H:Hp}{Q:VK}{E:XK}{a b:Rat}{n i:Int}{xs:List Rat}{m:Nat}{v w:V}(h1:Is K H v (R a b))(h2:Is K H w (LN xs))(b1:ag 10 a)(b2:ag 10 b)(h0:0<=n)(h64:n<=64)(i0:0<=i)(i1:i<xs.length)(hl:xs.length<=100)(hm:Cm m xs)(hm2:m<=8000)
  (q:∀l H' us,H l=none->ah H H'->H' l=some (.lst us)->ao K H' us ((dE a b n.toNat xs i.toNat).map N)->Q (.ref l) H'):PK K [v,.int n,w,.int i] H Q E:=⟨_,_,_,_,rfl,a,b,n,i,xs,m,rfl,rfl,h1,h2,b1,b2,h0,h64,i0,i1,hl,hm,hm2,q⟩
theorem zka(T:Txt K mg a):aN P w K mg base aU 4 a.F6 a.FD sh (PK K):=by
 refine T.FN.F.ok yW ?_ ?_;wtm_at "b4"
 refine⟨_,(ak (ay 4 yW.nd (ar (sI T) hr T.ou (ae (bM (v:=.ref a.dU) rfl T.eU rfl) (ae (di cF (pv 2) (pv 3) (λ_ _=>rfl)) af))))
     (ak (ay 5 yW.nd (ar (yU T) hr T.oq (ae (pv 0) (ae (pv 1) af))))
     (ak (mI (i:=6) yW.nd rfl (Or.inl rfl) rfl (cn.by (N':=["phase","push","wait"]) (src:=[none,some 5,some 4]) rfl (show cK _ (az tX).names Fo ["phase","push","wait"] [none,some 5,some 4]=true from by decide +kernel)) (iU (pv 2)) (λ_ _ _ _ _=>(aZ (i:=0) (show(["phase","push","wait"]:List Str).Nodup from by decide) rfl (Or.inl rfl))) (λ_ _ _ _ _=>eA) (λ_ _ _ _ _=>(ar (Km (K:=K) (mg:=mg) (a:=a) T) hr T.AI (ae (pv 1) (ae (ar (gr (K:=K) (mg:=mg) (a:=a) T) hr T.fN (ae (pv 0) (ae (pv 2) af))) af)))))
     (ak (kj (bM (v:=.ref a.c_) rfl T.dS rfl) (yb (pv 6) (pv 3) zt))
     (av (aG (pv 6))))))),?_⟩
 wtm_at "cl";rw[show start Fo [x0,x1,x2,x3]=[some x0,some x1,some x2,some x3,none,none,none]from rfl];obtain⟨a',b',n,i,xs,m,rfl,rfl,hr',hx,ba,bb,h0,h64,i0,i1,hl,hm,hm2,q⟩:=h;have bi:ag 8000 (xs.getD i.toNat 0):=(hm.get _).mono hm2;have bw:ag 8002 (1-xs.getD i.toNat 0):=(ag.one.sub bi).mono (by decide);have bf:ag 700 (a'^n.toNat):=(ba.pow n.toNat).mono (by omega);have bg:ag 1500 (aB a' b' n.toNat):=(ba.aB bb n.toNat).mono (by omega);o_head lT hx i0 i1 (λv1 iv1=>?_);k_few;rename_i v2 H2 S2 iv2;refine Ek (hr'.by S2) ba bb h0 h64 (λv3 H3 S3 iv3=>?_);have T3:=S2.trans S3;have iv2':=iv2.by S3;have hx3:=hx.by T3;clear iv1 iv2 S2 S3 hx hr';k_few;obtain⟨lx,vs,rfl,hs,t⟩:=cu.mp hx3;refine lM hs (o0:=none) (tl:=[some v3,some v2]) rfl (λj v H=>Is K H v (N ((xs.map λx=>push a' b' n.toNat (x+(1-xs.getD i.toNat 0))).getD j 0))) ?_ ?_
 . rintro D j x ys o H1 hx' inv
   obtain⟨hj,ix⟩:=dM t hx';have ix1:=ix.by inv.same;have jv2:=iv2'.by inv.same;have jv3:=iv3.by inv.same;have bx:ag 8000 (xs.getD j 0):=(hm.get j).mono hm2;k_few;rename_i v4 H4 S4 iv4;refine Rb (jv3.by S4) iv4 bf bg ((zwy hm j i.toNat).mono (by omega)) (λv5 H5 S5 iv5=>?_);exact eS inv (by omega) f_ ⟨_,rfl⟩ (S4.trans S5) (by rw[OW hj,iC];exact iv5)
 . rintro D ys H4 hn S4 e4 hl4 hr4
   have hvl:=t.length;rw[wm]at hvl;have hyl:ys.length=xs.length:=by omega
   clear hs t hx3 iv2' iv3;o_head Ef (j:=i.toNat) e4 (by unfold ib;rw[if_pos i0,if_pos (by omega)]) (λH5 E5 e5=>?_);k_few;have hD:=jz T3 hn;refine q D H5 _ hD ((T3.trans S4).grow hD E5) e5 (gp (by rw[VM,ic];exact hyl) λj v hv=>?_);rw[VT]at hv
   by_cases hij:i.toNat=j
   . subst hij
     rw[if_pos rfl,if_pos (by omega)]at hv;cases hv;rw[gv _ _ _ _ _ _ (by omega),if_pos rfl];exact dX 0 (T.eI _) rfl rfl
   . rw[if_neg hij]at hv
     have hj:j<xs.length:=by
       rcases wz j ys.length with z | z
       . omega
       . rw[wE z]at hv;cases hv
     have hz:=hr4 j v hv;rw[OW hj]at hz;rw[gv _ _ _ _ _ _ hj,if_neg (Wp hij)];exact hz.gT (E5.keep e4)
structure cS(a b:Rat)(ns:List Int)(xs:List Rat):Prop where
 ba:ag 10 a
 bb:ag 10 b
 n0:∀n∈ns,0<=n/\n<=64
 len:ns.length=xs.length+1
 b8:ns.length<=50
 cm:∃m,Cm m xs/\m+2*ns.length+21*upTo ns ns.length<=8000
theorem Eg{ns:List Int} : ∀{k j:Nat},k<=j->j<=ns.length->upTo ns k<=upTo ns j:=by
 intro k j hk
 induction j with
 | zero => intro _; have : k = 0 := by omega
           subst this;exact wp _
 | succ j ih =>
   intro hj;rcases wz k (j+1)with z | z
   . rw[mD (by omega)]
     have:=ih (by omega) (by omega);omega
   . have:k=j+1:=by omega
     subst this;exact wp _
theorem cS.row{a b:Rat}{ns:List Int}{xs:List Rat}(h:cS a b ns xs){k:Nat}(hk:k<=ns.length):∃m,Cm m (aQ a b ns (xs++[0]) k)/\m<=8000:=by
 obtain⟨m,hm,hm2⟩:=h.cm;refine⟨_,(hm.snoc).rows h.ba h.bb k hk,?_⟩;have:=Eg (ns:=ns) hk (wp _);omega
def nk(a b:Rat)(ns:List Int)(xs:List Rat):List (List Rat):=(wx (ns.length+1)).map (aQ a b ns (xs++[0]))
theorem p9(a b:Rat)(ns:List Int)(xs:List Rat):(nk a b ns xs).length=ns.length+1:=by simp[nk]
theorem z_{a b:Rat}{ns:List Int}{xs:List Rat}{k:Nat}(h:k<=ns.length):(nk a b ns xs).getD k []=aQ a b ns (xs++[0]) k:=by
 unfold nk;rw[wa,wu,vZ (by omega)]
 rfl
def MS(K:wb):Sp:=λvs H Q _=>∃x0 x1 x2,vs=[x0,x1,x2] /\ ∃(a b:Rat)(ns:List Int)(xs:List Rat),Is K H x0 (R a b)/\Is K H x1 (TZ ns)/\Is K H x2 (TN xs)/\cS a b ns xs /\ ∀l H',ah H H'->Is K H' (.ref l) (LL (nk a b ns xs))->Q (.ref l) H'
theorem EY{K:wb}{H:Hp}{Q:VK}{E:XK}{a b:Rat}{ns:List Int}{xs:List Rat}{v w u:V}(h1:Is K H v (R a b))(h2:Is K H w (TZ ns))(h3:Is K H u (TN xs))(ok:cS a b ns xs)(q:∀l H',ah H H'->Is K H' (.ref l) (LL (nk a b ns xs))->Q (.ref l) H'):MS K [v,w,u] H Q E:=⟨_,_,_,rfl,a,b,ns,xs,h1,h2,h3,ok,q⟩
theorem By(T:Txt K mg a):aN P w K mg base aU 5 a.rW a.Hy yO (MS K):=by
 refine T.rO.F.ok sW ?_ ?_;wtm_at "b3"
 refine⟨_,(ak (ay 3 sW.nd (dC (ae (aD cN (dG (show aK _ (.type "list") (oZ K)from Dg) rfl T.z_list rB (ae (pv 2) af)) (dC (ae (bM (v:=.ref a.c_) rfl T.dS rfl) af))) af)))
     (ak (fu vJ rfl (NS rfl T.z_enumerate (ae (pv 1) af)) (gC (n:=2) rfl (cR (aZ (i:=4) sW.nd rfl (Or.inl rfl)) (cR (aZ (i:=5) sW.nd rfl (Or.inl rfl)) gf))) (av (iE (iO vV vS vT gZ (pv 3) (ae (ar (zka T) hr T.FN (ae (pv 0) (ae (pv 5) (ae (di cF (pv 3) (pv 4) (λ_ _=>rfl)) (ae (pv 4) af))))) af)))))
     (av (aG (pv 3))))),?_⟩
 wtm_at "cl";rw[show start Ou [x0,x1,x2]=[some x0,some x1,some x2,none,none,none]from rfl];obtain⟨a',b',ns,xs,hr',hn',hp',ok,q⟩:=h;have hlen:=ok.len;have hfew:=ok.b8;o_head BO hp' (λl1 H1 us hl1 S1 e1 t1=>?_);have hul:=t1.length;rw[wm]at hul;o_head fj (by simp) (λl2 H2 hl2 S2 e2=>?_);refine oO (S2 _ _ e1) e2 (VG (kr (by simp;omega))) (λl3 H3 hl3 S3 e3=>?_);o_head fj (by simp) (λlt H4 hlt S4 e4=>?_);have T4:ah H H4:=S1.trans (S2.trans (S3.trans S4));have e3':=S4 _ _ e3;have ne43:l3≠lt:=λz=>by subst z;rw[e3]at hlt;cases hlt
 have t3:ao K H4 (us++[V.ref a.c_]) ((xs++[0]).map N):=by
   rw[vx];exact(ao.same (S2.trans (S3.trans S4)) _ _ t1).append (.cons (dX 0 (T.eI _) rfl rfl) .nil)
 have hD:=jz (S1.trans (S2.trans S3)) hlt;clear hl1 hl2 hl3 S1 S2 S3 S4 e1 e2 e3 t1 hlt;k_few;obtain⟨an,rfl,hsn⟩:=nA.mp hn'
 refine zuJ (T4.iV hsn) (λk σ H'=>∃o1 o2 vs,σ = [some x0,some (.ref an),some x2,some (.ref lt),o1,o2]/\ah H H'/\H' lt=some (.lst vs)/\vs.length=k+1 /\ ∀j v,vs[j]? = some v->∃lj ws,v=.ref lj/\lj≠lt/\H' lj=some (.lst ws)/\ao K H' ws ((aQ a' b' ns (xs++[0]) j).map N))
   ⟨_,_,_,rfl,T4,e4,rfl,λj v hv=>?_⟩ (λk σ H' _ ⟨_,_,_,_,s,_⟩=>s.iV hsn) ?_ ?_
 . match j,hv with
   | 0,e=>cases wK e;exact⟨l3,_,rfl,ne43,e3',t3⟩
   | j+1,e=>simp at e
 . rintro k x σ H5 t H6 hx ⟨o1,o2,vs,rfl,S5,e5,hl5,hr5⟩ ht S6 e6
   have hk:k<ns.length:=by
     rcases wz k ns.length with z | z
     . exact z
     . rw[wE (by simpa using z)]at hx;cases hx
   have hxv:x=.int (ns.getD k 0):=by
     rw[wu,wc hk]at hx;rw[wa,wc hk];exact(wK hx).symm
   subst hxv;have hnk:=ok.n0 (ns.getD k 0) (by rw[wa,wc hk];exact vO hk);refine lg (.of e6) rfl ?_;k_few;have e5':=S6 _ _ e5;refine gG (aI.of e5') ?_;k_few;have hkv:∃v,vs[k]? = some v:=⟨vs[k]'(by omega),wc (by omega)⟩;obtain⟨v,hv⟩:=hkv;obtain⟨lk,ws,rfl,nek,ek,tk⟩:=hr5 k v hv;refine jo (aI.of e5') (kU hv) ?_;k_few;obtain⟨m,hm,hm2⟩:=ok.row (k:=k) (by omega);have hrl:=cH a' b' ns (xs++[0]) k;rw[wZ]at hrl;have T6:=S5.trans S6;refine Z7 (hr'.by T6) (dj (S6 _ _ ek) (ao.same S6 _ _ tk)) ok.ba ok.bb hnk.1 hnk.2 (by omega) (by rw[hrl];simp;omega) (by rw[hrl];simp;omega) hm hm2 (λl7 H7 us7 hl7 S7 e7 t7=>?_);have e5'':=S7 _ _ e5';have ne7:l7≠lt:=λz=>by subst z;rw[e5']at hl7;cases hl7
   o_head gq e5'' (by omega) (λH8 E8 e8=>?_);have K8:bo H7 H8:=E8.keep e5'';refine⟨_,_,_,rfl,(T6.trans S7).grow hD E8,e8,by simp[hl5],λj v hv=>?_⟩;rcases wz j vs.length with z | z
   . rw[Wf z]at hv
     obtain⟨lj,wj,rfl,nej,ej,tj⟩:=hr5 j v hv;exact⟨lj,wj,rfl,nej,E8 _ _ nej (S7 _ _ (S6 _ _ ej)),ao.keep (S6.keep.trans (S7.keep.trans K8)) _ _ (dZ _) tj⟩
   . have hj:j=vs.length:=by
       rcases wz vs.length j with q | q
       . rw[wE (by simp;omega)]at hv;cases hv
       . omega
     subst hj;rw[vH (wp _),Vr]at hv;cases wK hv;rw[hl5];refine⟨l7,us7,rfl,ne7,E8 _ _ ne7 e7,ao.keep K8 _ _ (dZ _) ?_⟩;rw[aQ]
     simpa using t7
 . rintro σ H5 ⟨o1,o2,vs,rfl,S5,e5,hl5,hr5⟩
   o_head q lt H5 S5 (cu.mpr ⟨lt,vs,rfl,.of e5,Ct (by rw[hl5,p9];simp) λj v hv=>?_⟩)
   have hj:j<vs.length:=by
     rcases wz j vs.length with z | z
     . exact z
     . rw[wE z]at hv;cases hv
   obtain⟨lj,wj,rfl,nej,ej,tj⟩:=hr5 j v hv;rw[z_ (by simp at hl5;omega)];exact dj ej tj
def cw(a b:Rat)(ns:List Int)(xs:List Rat):List Rat:=(aQ a b ns (xs++[0]) ns.length).dropLast
def Ot(K:wb):Sp:=λvs H Q _=>∃x0 x1 x2,vs=[x0,x1,x2] /\ ∃(a b:Rat)(ns:List Int)(xs:List Rat),Is K H x0 (R a b)/\Is K H x1 (TZ ns)/\Is K H x2 (TN xs)/\cS a b ns xs /\ ∀v H',ah H H'->Is K H' v (TN (cw a b ns xs))->Q v H'
theorem R9{K:wb}{H:Hp}{Q:VK}{E:XK}{a b:Rat}{ns:List Int}{xs:List Rat}{v w u:V}(h1:Is K H v (R a b))(h2:Is K H w (TZ ns))(h3:Is K H u (TN xs))(ok:cS a b ns xs)(q:∀v H',ah H H'->Is K H' v (TN (cw a b ns xs))->Q v H'):Ot K [v,w,u] H Q E:=⟨_,_,_,rfl,a,b,ns,xs,h1,h2,h3,ok,q⟩
theorem Js(T:Txt K mg a):aN P w K mg base aU 6 a.Gq a.FQ zd (Ot K):=by
 refine T.AG.F.ok zll ?_ ?_;wtm_at "b3";refine⟨_,(av (aG (dG (show aK _ (.type "tuple") (ee K)from fm) rfl T.z_tuple eG (ae (m5 nZ (di cF (ar (By T) hr T.rO (ae (pv 0) (ae (pv 1) (ae (pv 2) af)))) (gE gz aA) (λ_ _=>rfl)) mL (nF (gE gz aA))) af)))),?_⟩;wtm_at "cl";rw[show start Dj [x0,x1,x2]=[some x0,some x1,some x2]from rfl];obtain⟨a',b',ns,xs,hr',hn',hp',ok,q⟩:=h;o_head EY hr' hn' hp' ok (λl H1 S1 i1=>?_);o_head JK i1 (by rw[p9];omega) (λv2 i2=>?_);rw[p9,Qj,z_ (wp _)]at i2;o_head ya i2 (λl3 H3 ys hn3 S3 e3 t3=>?_);rw[C0,<- xr]at t3;o_head gY (dj e3 t3) (λw H4 S4 i4=>?_);exact q w H4 (S1.trans (S3.trans S4)) i4
theorem Mn{a b:Rat}{ns:List Int}{xs:List Rat}{m:Nat}(ok:cS a b ns xs)(c:Cm m xs)(hm:m+2*ns.length+21*upTo ns ns.length<=8000){k:Nat}(hk:k<=ns.length):Cm 8000 (e_ a b ns (xs++[0]) k::aQ a b ns (xs++[0]) k):=by
 have h1:=Eg (ns:=ns) hk (wp _);exact(c.snoc.Iu ok.ba ok.bb (ns:=ns) k hk).mono (by omega)
def Pc(K:wb):Sp:=λvs H Q _=>∃x0 x1 x2,vs=[x0,x1,x2] /\ ∃(a b:Rat)(ns:List Int)(xs:List Rat)(m:Nat),Is K H x0 (R a b)/\Is K H x1 (TZ ns)/\Is K H x2 (TN xs)/\cS a b ns xs/\Cm m xs/\m+2*ns.length+21*upTo ns ns.length<=8000 /\ ∀v H',ah H H'->Is K H' v (N (eZ a b ns xs))->Q v H'
theorem znw{K:wb}{H:Hp}{Q:VK}{E:XK}{a b:Rat}{ns:List Int}{xs:List Rat}{m:Nat}{v w u:V}(h1:Is K H v (R a b))(h2:Is K H w (TZ ns))(h3:Is K H u (TN xs))(ok:cS a b ns xs)(hm:Cm m xs)(hm2:m+2*ns.length+21*upTo ns ns.length<=8000)(q:∀v H',ah H H'->Is K H' v (N (eZ a b ns xs))->Q v H'):Pc K [v,w,u] H Q E:=⟨_,_,_,rfl,a,b,ns,xs,m,h1,h2,h3,ok,hm,hm2,q⟩
theorem znJ(T:Txt K mg a):aN P w K mg base aU 6 a.GV a.Ga tJ (Pc K):=by
 refine T.Gp.F.ok rp ?_ ?_;wtm_at "b3"
 refine⟨_,(ak (ay 3 rp.nd (bM (v:=.ref a.c_) rfl T.dS rfl))
     (ak (ay 4 rp.nd (ar (By T) hr T.rO (ae (pv 0) (ae (pv 1) (ae (pv 2) af)))))
     (ak (fu vJ rfl (jj rfl T.z_range (ae (bK (show aK _ (.builtin "len") (cP K)from eC) rfl T.z_len dQ (ae (pv 1) af)) af)) (aZ (i:=5) rp.nd rfl (Or.inl rfl)) (av (ay 3 rp.nd (ar (gr T) hr T.fN (ae (pv 3) (ae (ar (sI T) hr T.ou (ae (bM (v:=.ref a.dU) rfl T.eU rfl) (ae (di cF (di cF (pv 4) (pv 5) (λ_ _=>rfl)) (pv 5) (λ_ _=>rfl)) af))) af))))))
     (av (aG (pv 3)))))),?_⟩
 wtm_at "cl";rw[show start Po [x0,x1,x2]=[some x0,some x1,some x2,none,none,none]from rfl];obtain⟨a',b',ns,xs,m,hr',hn',hp',ok,hm,hm2,q⟩:=h;o_head EY hr' hn' hp' ok (λl H1 S1 i1=>?_);o_head yY (hn'.by S1) ?_;have hlen:=ok.len;have hfew:=ok.b8;refine jR (n:=(ns.length:Int)) (by omega) (by omega) (λk σ H'=>∃v o,σ = [some x0,some x1,some x2,some v,some (.ref l),o]/\ah H1 H'/\Is K H' v (N (e_ a' b' ns (xs++[0]) k))) ⟨_,_,rfl,ah.refl _,dX 0 (T.eI _) rfl rfl⟩ ?_ ?_
 . rintro k σ H2 hk ⟨v,o,rfl,S2,iv⟩
   have hk':k<ns.length:=by simpa using hk
   have c:=Mn ok hm hm2 (k:=k) (by omega);have b1:ag 8000 (e_ a' b' ns (xs++[0]) k):=c.fO (wC ..);have b2:ag 8000 ((aQ a' b' ns (xs++[0]) k).getD k 0):=(l_ c λy hy=>wy _ hy).get k;have b4:ag 8002 (1-(aQ a' b' ns (xs++[0]) k).getD k 0):=(ag.one.sub b2).mono (by decide);have i2:=i1.by S2;o_head Jz i2 (by omega) (by rw[p9];omega) (λv3 i3=>?_);rw[wT,z_ (by omega)]at i3;o_head lT i3 (by omega) (by rw[cH,wZ];simp;omega) (λv4 i4=>?_);rw[wT]at i4;k_few;exact⟨_,_,rfl,S2.trans (ah.trans (by assumption) (by assumption)),by assumption⟩
 . rintro σ H2 ⟨v,o,rfl,S2,iv⟩
   k_few;exact q _ _ (S1.trans S2) iv
def cQ(a b:Rat)(ns:List Int)(xs:List Rat):List Rat:=(wx ns.length).map λk=>(aQ a b ns (xs++[0]) (k+1)).getD ((k+1) % ns.length) 0
theorem gn(a b:Rat)(ns:List Int)(xs:List Rat):(cQ a b ns xs).length=ns.length:=by simp[cQ]
theorem jW{a b:Rat}{ns:List Int}{xs:List Rat}{k:Nat}(h:k<ns.length):(cQ a b ns xs).getD k 0=(aQ a b ns (xs++[0]) (k+1)).getD ((k+1) % ns.length) 0:=by
 unfold cQ;rw[wa,wu,vZ h]
 rfl
def PL(K:wb):Sp:=λvs H Q _=>∃x0 x1 x2,vs=[x0,x1,x2] /\ ∃(a b:Rat)(ns:List Int)(xs:List Rat),Is K H x0 (R a b)/\Is K H x1 (TZ ns)/\Is K H x2 (TN xs)/\cS a b ns xs /\ ∀v H',ah H H'->Is K H' v (TN (cQ a b ns xs))->Q v H'
theorem KN{K:wb}{H:Hp}{Q:VK}{E:XK}{a b:Rat}{ns:List Int}{xs:List Rat}{v w u:V}(h1:Is K H v (R a b))(h2:Is K H w (TZ ns))(h3:Is K H u (TN xs))(ok:cS a b ns xs)(q:∀v H',ah H H'->Is K H' v (TN (cQ a b ns xs))->Q v H'):PL K [v,w,u] H Q E:=⟨_,_,_,rfl,a,b,ns,xs,h1,h2,h3,ok,q⟩
theorem Pb(T:Txt K mg a):aN P w K mg base aU 6 a.ia a.HZ zP (PL K):=by
 refine T.AY.F.ok Ba ?_ ?_;wtm_at "b3"
 refine⟨_,(ak (ay 3 Ba.nd (ar (By T) hr T.rO (ae (pv 0) (ae (pv 1) (ae (pv 2) af)))))
     (ak (ay 4 Ba.nd (bK (show aK _ (.builtin "len") (cP K)from eC) rfl T.z_len dQ (ae (pv 1) af)))
     (av (aG (dG (show aK _ (.type "tuple") (ee K)from fm) rfl T.z_tuple eG (ae (eH rfl (cn.by (N':=["turn","rows","count"]) (src:=[none,some 3,some 4]) rfl (show cK _ (az Aj).names Cr ["turn","rows","count"] [none,some 3,some 4]=true from by decide +kernel)) (jj rfl T.z_range (ae (pv 4) af)) (λ_ _ _ _ _=>(aZ (i:=0) (show(["turn","rows","count"]:List Str).Nodup from by decide) rfl (Or.inl rfl))) (λ_ _ _ _ _=>eA) (λ_ _ _ _ _=>(di (show gA _ (dB K)from cF) (di (show gA _ (dB K)from cF) (pv 1) (aD cN (pv 0) aA) (λ_ _=>rfl)) (aD gH (aD cN (pv 0) aA) (pv 2)) (λ_ _=>rfl)))) af)))))),?_⟩
 wtm_at "cl";rw[show start Cr [x0,x1,x2]=[some x0,some x1,some x2,none,none]from rfl];obtain⟨a',b',ns,xs,hr',hn',hp',ok,q⟩:=h;have hlen:=ok.len;have hfew:=ok.b8;o_head EY hr' hn' hp' ok (λl H1 S1 i1=>?_);o_head yY (hn'.by S1) ?_;o_head zzn (n:=(ns.length:Int)) (by omega) (by omega) (o0:=none) (tl:=[some (.ref l),some (.int (ns.length:Int))]) rfl (λi v H=>Is K H v (N ((cQ a' b' ns xs).getD i 0))) ?_ ?_
 . rintro D i ys o H2 hi inv
   have hi':i<ns.length:=by simpa using hi
   have i2:=i1.by inv.same;have hn0:(0:Int)<(ns.length:Int):=by omega
   o_head Jz i2 (by omega) (by rw[p9];omega) (λv3 i3=>?_);rw[show((i:Int)+1).toNat=i+1 by omega,z_ (by omega)]at i3;k_few;have e:((i:Int)+1) % (ns.length:Int)=(((i+1) % ns.length:Nat):Int):=by push_cast;rfl
   have hm:(i+1) % ns.length<ns.length:=qN _ (by omega);rw[e];refine lT i3 (by omega) (by rw[cH,wZ];simp;omega) (λv4 i4=>?_);rw[wT,<- jW hi']at i4;exact eS inv (by omega) f_ ⟨_,rfl⟩ (ah.refl _) i4
 . rintro D ys H2 hn S2 e2 hl2 hr2
   o_head gY (dj e2 (gp (by rw[hl2,gn];simp) hr2)) (λw H3 S3 i3=>?_);exact q w H3 (S1.trans (S2.trans S3)) i3
theorem zC{bs:List Bool}{zs:List V}(hl:zs.length=bs.length)(h:∀j z,zs[j]? = some z->z=V.bl (bs.getD j true)):zs=bs.map V.bl:=by
 refine WM (by rw[wm];exact hl) λi h1 h2=>?_
 rw[h i _ (wc h1),WY,wa,wc (by omega)]
 rfl
def dw(xs:List Rat):List Rat:=[1]++xs++[0]
theorem t9(xs:List Rat):(dw xs).length=xs.length+2:=by simp[dw]
def nH(xs:List Rat):List Bool:=(wx (xs.length+1)).map λi=>decide ((dw xs).getD (i+1) 0<(dw xs).getD i 0)
def lA(ts:List Rat):List Bool:=ts.map λx=>decide (x<1)
def dP(a b:Rat)(ns:List Int)(xs:List Rat):Bool:=(nH xs).all id&&(lA (cQ a b ns xs)).all id
theorem zsy{xs:List Rat}{i:Nat}(h:i<xs.length+1):(nH xs).getD i true=decide ((dw xs).getD (i+1) 0<(dw xs).getD i 0):=by
 unfold nH;rw[wa,wu,vZ h]
 rfl
theorem zve{ts:List Rat}{i:Nat}(h:i<ts.length):(lA ts).getD i true=decide (ts.getD i 0<1):=by
 unfold lA;rw[wa,wu,wa,wc h]
 rfl
theorem R7{m:Nat}{xs:List Rat}(h:Cm m xs)(i:Nat):ag m ((dw xs).getD i 0):=by
 unfold dw;rcases Nat.eq_zero_or_pos i with rfl | hi
 ·exact ag.one.mono h.pos
 ·obtain⟨j,rfl⟩:∃j,i=j+1:=⟨i-1,by omega⟩
  exact h.snoc.get j
theorem LK{a b:Rat}{ns:List Int}{xs:List Rat}(ok:cS a b ns xs){i:Nat}(hi:i<ns.length):ag 8000 ((cQ a b ns xs).getD i 0):=by
 rw[jW hi];obtain⟨m,hm,hm2⟩:=ok.row (k:=i+1) (by omega);exact(hm.get _).mono hm2
def Oj(K:wb):Sp:=λvs H Q _=>∃x0 x1 x2,vs=[x0,x1,x2] /\ ∃(a b:Rat)(ns:List Int)(xs:List Rat),Is K H x0 (R a b)/\Is K H x1 (TZ ns)/\Is K H x2 (TN xs)/\cS a b ns xs /\ ∀H',ah H H'->Q (.bl (dP a b ns xs)) H'
theorem Bp{K:wb}{H:Hp}{Q:VK}{E:XK}{a b:Rat}{ns:List Int}{xs:List Rat}{v w u:V}(h1:Is K H v (R a b))(h2:Is K H w (TZ ns))(h3:Is K H u (TN xs))(ok:cS a b ns xs)(q:∀H',ah H H'->Q (.bl (dP a b ns xs)) H'):Oj K [v,w,u] H Q E:=⟨_,_,_,rfl,a,b,ns,xs,h1,h2,h3,ok,q⟩
theorem Bk(T:Txt K mg a):aN P w K mg base aU 7 a.HU a.Hb zR (Oj K):=by
 refine T.rH.F.ok RL ?_ ?_;wtm_at "b3"
 refine⟨_,(ak (ay 3 RL.nd (aD cN (aD cN (dC (ae (bM (v:=.ref a.dU) rfl T.eU rfl) af)) (dG (show aK _ (.type "list") (oZ K)from Dg) rfl T.z_list rB (ae (pv 2) af))) (dC (ae (bM (v:=.ref a.c_) rfl T.dS rfl) af))))
     (ak (bV (dR (dh (bK (show aK _ (.builtin "all") (mF K)from Ak rfl) rfl T.z_all yJ (ae (eH rfl (cn.by (N':=["upper","lower"]) (src:=[none,none]) rfl (show cK _ (az oE).names sS ["upper","lower"] [none,none]=true from by decide +kernel)) (zy5 rfl T.z_zip (ae (pv 3) (ae (m5 nZ (pv 3) (nF aA) mL) af))) (λ_ _ _ _ _=>by exact(show PG _ _ (hJ K 2 _)from gC (n:=2) rfl (cR (aZ (i:=0) (show(["upper","lower"]:List Str).Nodup from by decide) rfl (Or.inl rfl)) (cR (aZ (i:=1) (show(["upper","lower"]:List Str).Nodup from by decide) rfl (Or.inl rfl)) gf)))) (λ_ _ _ _ _=>eA) (λ_ _ _ _ _=>(ar (gu (K:=K) (mg:=mg) (a:=a) T) hr T.fM (ae (pv 1) (ae (pv 0) af))))) af)))) (av (aG fI)) bY)
     (av (aG (bK (show aK _ (.builtin "all") (mF K)from Ak rfl) rfl T.z_all yJ (ae (eH rfl (cn.by (N':=["top"]) (src:=[none]) rfl (show cK _ (az oE).names sS ["top"] [none]=true from by decide +kernel)) (iM (ar (Pb T) hr T.AY (ae (pv 0) (ae (pv 1) (ae (pv 2) af))))) (λ_ _ _ _ _=>(aZ (i:=0) (show(["top"]:List Str).Nodup from by decide) rfl (Or.inl rfl))) (λ_ _ _ _ _=>eA) (λ_ _ _ _ _=>(ar (gu (K:=K) (mg:=mg) (a:=a) T) hr T.fM (ae (pv 0) (ae (bM (v:=.ref a.dU) rfl T.eU rfl) af))))) af)))))),?_⟩
 wtm_at "cl";rw[show start sS [x0,x1,x2]=[some x0,some x1,some x2,none]from rfl];obtain⟨a',b',ns,xs,hr',hn',hp',ok,q⟩:=h;have hlen:=ok.len;have hfew:=ok.b8;obtain⟨m,hcm,hcm2⟩:=ok.cm;o_head fj (by simp) (λl0 H1 n1 S1 e1=>?_);o_head BO (hp'.by S1) (λl1 H2 us n2 S2 e2 t2=>?_);have hul:=t2.length;rw[wm]at hul;refine oO (S2 _ _ e1) e2 (VG (kr (by simp;omega))) (λl2 H3 n3 S3 e3=>?_);o_head fj (by simp) (λl3 H4 n4 S4 e4=>?_);refine oO (S4 _ _ e3) e4 (VG (kr (by simp;omega))) (λl5 H5 n5 S5 e5=>?_);have T5:ah H H5:=S1.trans (S2.trans (S3.trans (S4.trans S5)))
 have t5:ao K H5 ([V.ref a.dU]++us++[V.ref a.c_]) ((dw xs).map N):=by
   unfold dw;rw[vx,vx];exact(ao.append (.cons (dX 1 (T.r8 _) rfl rfl) .nil) (ao.same (S3.trans (S4.trans S5)) _ _ t2)).append (.cons (dX 0 (T.eI _) rfl rfl) .nil)
 have ir5:=hr'.by T5;have in5:=hn'.by T5;have ip5:=hp'.by T5;clear n1 n2 n3 n4 n5 S1 S2 S3 S4 S5 e1 e2 e3 e4 t2 hr' hn' hp';generalize [V.ref a.dU]++us++[V.ref a.c_]=ws at e5 t5;have hws:=t5.length;rw[wm,t9]at hws;o_head ya (dj e5 t5) (λl6 H6 ys n6 S6 e6 t6=>?_);rw[show(1:Int)=((1:Nat):Int)from rfl,zxA _ _ (by rw[wm,t9];omega),<- Xw]at t6;have hys:=t6.length;rw[wm,Wa,t9]at hys;have e56:=S6 _ _ e5;have t56:=ao.same S6 _ _ t5;have T6:=T5.trans S6;have ir6:=ir5.by S6;have in6:=in5.by S6;have ip6:=ip5.by S6;clear ir5 in5 ip5 T5 S6 e5 t5 n6;o_head Y8 (t:=false) (u:=false) (aI.of e56) (aI.of e6) (by omega) (o0:=none) (o0':=none) (tl:=[]) rfl (λi v H=>v=V.bl ((nH xs).getD i true)) (λ_ _ _ _ _ h=>h) ?_ ?_
 . rintro D i x y zs o1 o2 H7 c hx hy inv e7
   obtain⟨hi,ix⟩:=dM t56 hx;obtain⟨hj,iy⟩:=dM t6 hy;rw[Wa,t9]at hj
   have ed:((dw xs).drop 1).getD i 0=(dw xs).getD (i+1) 0:=by
     rw[wa,Q7,wa,Nat.add_comm]
   rw[ed]at iy;have S7:=inv.2.2.1;have b1:ag 8000 ((dw xs).getD i 0):=(R7 hcm i).mono (by omega);have b2:ag 8000 ((dw xs).getD (i+1) 0):=(R7 hcm (i+1)).mono (by omega);refine Dt (lg (.of e7) rfl ?_);have ix7:=ix.by S7;have iy7:=iy.by S7;k_few;exact zr inv (by omega) (λ_ _ _ _ _ h=>h) ⟨_,_,rfl⟩ (ah.refl _) (by rw[zsy (by omega)])
 . rintro D zs H7 hn S7 e7 hl7 hr7
   have hz:=zC (bs:=nH xs) (by unfold nH;rw[wm,vy];omega) hr7;rw[hz]at e7;o_head pG (.of e7) ?_;k_few
   . rename_i z
     have ef:dP a' b' ns xs=false:=by unfold dP;rw[z];rfl
     rw[<- ef];exact q _ (T6.trans S7)
   . rename_i z
     have ef:dP a' b' ns xs=(lA (cQ a' b' ns xs)).all id:=by unfold dP;rw[z];rfl
     rw[ef]at q;refine KN (ir6.by S7) (in6.by S7) (ip6.by S7) ok (λv8 H8 S8 i8=>?_);have T8:=T6.trans (S7.trans S8);obtain⟨a8,us8,rfl,hs8,t8⟩:=bW.mp i8;have hl8:=t8.length;rw[wm,gn]at hl8;refine jl hs8 (o0:=none) (tl:=[]) rfl (λi v H=>v=V.bl ((lA (cQ a' b' ns xs)).getD i true)) ?_ ?_
     . rintro D i x ys' o H9 hx inv
       obtain⟨hi,ix⟩:=dM t8 hx;rw[gn]at hi;have ix9:=ix.by inv.same;have b1:ag 8000 ((cQ a' b' ns xs).getD i 0):=LK ok hi;have b2:ag 8000 1:=ag.one.mono (by decide);k_few;exact eS inv (by omega) (λ_ _ _ _ _ h=>h) ⟨_,rfl⟩ (ah.refl _) (by rw[zve (by rw[gn];exact hi)])
     . rintro D ys' H9 hn9 S9 e9 hl9 hr9
       have hz':=zC (bs:=lA (cQ a' b' ns xs)) (by unfold lA;rw[wm,gn];omega) hr9;rw[hz']at e9;o_head pG (.of e9) ?_;exact q _ (T8.trans S9)
def cC(n:Nat):List Rat:=Qr n 0
theorem IV(n i:Nat):(cC n).getD i 0=0:=by
 unfold cC;rw[wa,xH]
 split<;>rfl
theorem v_(n:Nat):Cm 1 (cC n):=by
 refine⟨1,by decide,⟨by decide⟩,λx hx=>⟨0,?_,⟨by decide⟩⟩⟩;rw[List.eq_of_mem_replicate hx]
 rfl
def OK(K:wb):Sp:=λvs H Q _=>∃x0 x1,vs=[x0,x1] /\ ∃(a b:Rat)(ns:List Int),Is K H x0 (R a b)/\Is K H x1 (TZ ns)/\cS a b ns (cC (ns.length-1))/\0<=ns.sum/\ns.sum<=64 /\ ∀v H',ah H H'->Is K H' v (.tuple [N (a^ns.sum.toNat),TN (cw a b ns (cC (ns.length-1)))])->Q v H'
theorem nM{K:wb}{H:Hp}{Q:VK}{E:XK}{a b:Rat}{ns:List Int}{v w:V}(h1:Is K H v (R a b))(h2:Is K H w (TZ ns))(ok:cS a b ns (cC (ns.length-1)))(h0:0<=ns.sum)(h64:ns.sum<=64)(q:∀v H',ah H H'->Is K H' v (.tuple [N (a^ns.sum.toNat),TN (cw a b ns (cC (ns.length-1)))])->Q v H'):OK K [v,w] H Q E:=⟨_,_,rfl,a,b,ns,h1,h2,ok,h0,h64,q⟩
theorem nz(T:Txt K mg a):aN P w K mg base aU 7 a.Hi a.Gg Ae (OK K):=by
 refine T.kO.F.ok Fi ?_ ?_;wtm_at "b2"
 refine⟨_,(ak (ay 2 Fi.nd (au (ar (yU T) hr T.oq (ae (pv 0) (ae (bK (show aK _ (.builtin "sum") (Fy K)from Zu rfl) rfl T.z_sum zA9 (ae (pv 1) af)) af)))))
     (ak (ay 3 Fi.nd (dG (show aK _ (.type "tuple") (ee K)from fm) rfl T.z_tuple eG (ae (eH rfl (cn.by (N':=["size"]) (src:=[none]) rfl (show cK _ (az zm).names Cz ["size"] [none]=true from by decide +kernel)) (iM (m5 nZ (pv 1) (nF aA) mL)) (λ_ _ _ _ _=>(aZ (i:=0) (show(["size"]:List Str).Nodup from by decide) rfl (Or.inl rfl))) (λ_ _ _ _ _=>eA) (λ_ _ _ _ _=>(bM (v:=.ref a.c_) rfl T.dS rfl))) af)))
     (av (aG (bC (ae (pv 2) (ae (ar (Js T) hr T.AG (ae (pv 0) (ae (pv 1) (ae (pv 3) af)))) af))))))),?_⟩
 wtm_at "cl";rw[show start Cz [x0,x1]=[some x0,some x1,none,none]from rfl];obtain⟨a',b',ns,hr',hn',ok,h0,h64,q⟩:=h;have hlen:=ok.len;have hfew:=ok.b8;o_head U9 hn' ?_;o_head Ek hr' ok.ba ok.bb h0 h64 (λv1 H1 S1 i1=>?_);k_few;rename_i v2 i2;have hn1:Is K H1 x1 (.tuple (ns.map PyData.int)):=hn'.by S1;refine zys hn1 ?_ (λv3 H3 S3 i3=>?_)
 . rintro ⟨e,_⟩
   have e':min 1 (ns.map PyData.int).length=0:=e;rw[wm]at e';omega
 rw[Pz]at i3;obtain⟨a3,vs3,rfl,hs3,t3⟩:=bW.mp i3;have hl3:=t3.length;rw[uF,wm]at hl3;have hzl:(cC (ns.length-1)).length=ns.length-1:=Vg ..;o_head jl hs3 (o0:=none) (tl:=[]) rfl (λi v H=>Is K H v (N ((cC (ns.length-1)).getD i 0))) ?_ ?_
 . rintro D i x ys o H4 hx inv
   have hi:i<vs3.length:=by
     rcases wz i vs3.length with z | z
     . exact z
     . rw[wE z]at hx;cases hx
   k_few;exact eS inv (by omega) f_ ⟨_,rfl⟩ (ah.refl _) (by rw[IV];exact dX 0 (T.eI _) rfl rfl)
 . rintro D ys H4 hn4 S4 e4 hl4 hr4
   o_head gY (dj (xs:=cC (ns.length-1)) e4 (gp (by omega) hr4)) (λv5 H5 S5 i5=>?_);have T5:ah H1 H5:=S3.trans (S4.trans S5);o_head R9 ((hr'.by S1).by T5) ((hn'.by S1).by T5) i5 ok (λv6 H6 S6 i6=>?_);k_few;exact cc (by simp) (.cons (i2.by (T5.trans S6)) (.cons i6 .nil)) (λv H' S h=>q v H' (S1.trans (T5.trans (S6.trans S))) h)
def bR(a b:Rat)(ns:List Int):List Rat:=(cw a b ns (cC (ns.length-1))).map (λs=>s / (1-a^ns.sum.toNat))
theorem lR{a b:Rat}{ns:List Int}{xs:List Rat}(h:ns.length=xs.length+1):(cw a b ns xs).length=xs.length:=by
 unfold cw;rw[Xs,cH];simp
theorem En{a b:Rat}{ns:List Int}{xs:List Rat}(h:ns.length=xs.length+1){i:Nat}(hi:i<xs.length):(cw a b ns xs).getD i 0=(aQ a b ns (xs++[0]) ns.length).getD i 0:=by
 unfold cw;have hl:(aQ a b ns (xs++[0]) ns.length).length=xs.length+1:=by rw[cH];simp
 rw[wa,wa,List.getElem?_dropLast,if_pos (by omega)]
theorem Ea{xs:List Rat}{i:Nat}(h:i<xs.length):(xs++[0]).getD i 0=xs.getD i 0:=by
 rw[wa,wa,Wf h]
theorem pM{xs:List Rat} : (xs++[0]).getD xs.length 0=0:=by
 rw[wa,vH (wp _),Vr]
 rfl
theorem CV:∀{ns:List Int},(∀n∈ns,0<=n)->((ns.map xO).sum:Int)=ns.sum
 | [],_=>rfl
 | n::ns,h=>by
  have h1:=CV (ns:=ns) λm hm=>h m (wy _ hm)
  have h2:=h n (wC ..);rw[vb,Vu,Vu];omega
theorem My{ns:List Int}(h:∀n∈ns,0<=n):upTo ns ns.length=ns.sum.toNat:=by
 have:=CV h;unfold GM.upTo;rw[WC];omega
theorem Jp{a b:Rat}{ns:List Int}{xs:List Rat}(h:ns.length=xs.length+1)(hn:∀n∈ns,0<=n){i:Nat}(hi:i<xs.length):(cw a b ns xs).getD i 0=a^ns.sum.toNat*xs.getD i 0+(cw a b ns (cC (ns.length-1))).getD i 0:=by
 have hz:(cC (ns.length-1)).length=xs.length:=by unfold cC;rw[Vg];omega
 have hu:=My hn;rw[En h hi,En (by omega) (by omega)];have hr:=A9 a b ns (xs++[0]) (cC (ns.length-1)++[0]) (by simp[hz]) (by simp[h]) xs.length (by simp) (by rw[pM];rw[<- hz,pM]) ns.length (wp _) i (by simp;omega);rw[if_neg (by omega),show ns.length-1=xs.length by omega]at hr;rw[show ns.length-1=xs.length by omega]at hz ⊢;rw[pM,Ea hi,Ea (by omega),IV,hu]at hr
 have hl0:(cC xs.length++[0]).getD xs.length 0=0:=by
  have:=pM (xs:=cC xs.length);rw[hz]at this;exact this
 rw[hl0]at hr
 grind
theorem lD{a b:Rat}{ns:List Int}(h:1<=ns.length):(bR a b ns).length=ns.length-1:=by
 unfold bR;rw[wm,lR (by unfold cC;rw[Vg];omega)];unfold cC;rw[Vg]
theorem OA{a b:Rat}{ns:List Int}{i:Nat}(h:i<(bR a b ns).length):(bR a b ns).getD i 0=(cw a b ns (cC (ns.length-1))).getD i 0 / (1-a^ns.sum.toNat):=by
 unfold bR at *;rw[wm]at h;rw[wa,wu,wa,wc h];rfl
theorem zqt{a b:Rat}{ns:List Int}(h1:1<=ns.length)(hn:∀n∈ns,0<=n)(hF:a^ns.sum.toNat≠1):cw a b ns (bR a b ns)=bR a b ns:=by
 have hl:=lD (a:=a) (b:=b) h1;have hlen:ns.length=(bR a b ns).length+1:=by omega
 have hb:=lR (a:=a) (b:=b) hlen;refine WM hb λi k1 k2=>?_
 have e1:(cw a b ns (bR a b ns))[i]=(cw a b ns (bR a b ns)).getD i 0:=by rw[wa,wc k1];rfl
 have e2:(bR a b ns)[i]=(bR a b ns).getD i 0:=by rw[wa,wc k2];rfl
 rw[e1,e2,Jp hlen hn k2,OA k2];have hg:1-a^ns.sum.toNat≠0:=λe=>hF (by grind)
 generalize (cw a b ns (cC (ns.length-1))).getD i 0=s;generalize a^ns.sum.toNat=F at *;have e3:s / (1-F)*(1-F)=s:=WL hg;generalize s / (1-F)=y at *
 grind
theorem L_{m n:Nat}{xs:List Rat}{g:Rat}(h:Cm m xs)(bg:ag n g)(hg:g≠0):Cm (m+n) (xs.map (λs=>s / g)):=by
 obtain⟨B,h0,bB,hx⟩:=h;have hgn:=BA hg
 have key:∀(t:Int),wB t B / g=wB (t*(g.den:Int)) (B*g.num):=by
  intro t
  conv=>lhs;rw[<- Q6 g]
  rw[uA,Rat.inv_divInt,Rat.divInt_mul_divInt]
 rcases Int.lt_or_gt_of_ne hgn with z | z
 ·refine⟨B * -g.num,Wd h0 (by omega),bB.mul bg.t.neg,λx hxm=>?_⟩
  obtain⟨s,hs,rfl⟩:=wS.mp hxm;obtain⟨t,rfl,bt⟩:=hx s hs;refine⟨-(t*(g.den:Int)),?_,(bt.mul bg.b).neg⟩
  show wB t B / g=_
  rw[key t,uo,Rat.divInt_neg',Int.neg_neg]
 ·refine⟨B*g.num,Wd h0 (by omega),bB.mul bg.t,λx hxm=>?_⟩
  obtain⟨s,hs,rfl⟩:=wS.mp hxm;obtain⟨t,rfl,bt⟩:=hx s hs;exact⟨t*(g.den:Int),key t,bt.mul bg.b⟩
theorem DR{a b:Rat}{ns:List Int}{xs:List Rat}{m:Nat}(ba:ag 10 a)(bb:ag 10 b)(hm:Cm m xs):Cm (m+2*ns.length+21*upTo ns ns.length) (cw a b ns xs):=by
 obtain⟨B,h0,h1,h2⟩:=(hm.snoc).rows ba bb (ns:=ns) ns.length (wp _);exact⟨B,h0,h1,λx hx=>h2 x (List.dropLast_subset _ hx)⟩
theorem MI{a b:Rat}{ns:List Int}(ba:ag 10 a)(bb:ag 10 b)(h8:ns.length<=8)(hu:upTo ns ns.length<=8)(hs:ns.sum.toNat<=8)(hF:a^ns.sum.toNat≠1):Cm 268 (bR a b ns):=by
 have bF:ag 81 (a^ns.sum.toNat):=(ba.pow ns.sum.toNat).mono (by omega);have bg:ag 83 (1-a^ns.sum.toNat):=(ag.one.sub bF).mono (by decide);have hg:1-a^ns.sum.toNat≠0:=λe=>hF (by grind)
 exact(L_ (DR (ns:=ns) ba bb (v_ (ns.length-1))) bg hg).mono (by omega)
theorem zpC{a b:Rat}{ns:List Int}(ok:cS a b ns (cC (ns.length-1)))(h8:ns.sum<=8)(i:Nat):ag 400 ((cw a b ns (cC (ns.length-1))).getD i 0):=((DR ok.ba ok.bb (v_ _)).get i).mono (by
 have h1:=My (λn hn=>(ok.n0 n hn).1);have h2:=ok.b8;omega)
def Ko(K:wb):Sp:=λvs H Q _=>∃x0 x1,vs=[x0,x1] /\ ∃(a b:Rat)(ns:List Int),Is K H x0 (R a b)/\Is K H x1 (TZ ns)/\cS a b ns (cC (ns.length-1))/\0<=ns.sum/\ns.sum<=8/\(a^ns.sum.toNat=1->∀H',ah H H'->Q .bG H')/\(a^ns.sum.toNat≠1->∀v H',ah H H'->Is K H' v (TN (bR a b ns))->Q v H')
theorem Fs{K:wb}{H:Hp}{Q:VK}{E:XK}{a b:Rat}{ns:List Int}{v w:V}(h1:Is K H v (R a b))(h2:Is K H w (TZ ns))(ok:cS a b ns (cC (ns.length-1)))(h0:0<=ns.sum)(h8:ns.sum<=8)(q1:a^ns.sum.toNat=1->∀H',ah H H'->Q .bG H')(q2:a^ns.sum.toNat≠1->∀v H',ah H H'->Is K H' v (TN (bR a b ns))->Q v H'):Ko K [v,w] H Q E:=⟨_,_,rfl,a,b,ns,h1,h2,ok,h0,h8,q1,q2⟩
theorem A_(T:Txt K mg a):aN P w K mg base aU 8 a.IA a.HA Al (Ko K):=by
 refine T.rR.F.ok EB ?_ ?_;wtm_at "b2"
 refine⟨_,(ak (ay 2 EB.nd (ar (nz T) hr T.kO (ae (pv 0) (ae (pv 1) af))))
     (ak (bV (bZ (show aM _ (wY .Eq) (df K)from d8 hu) (au (pv 2)) (bM (v:=.ref a.dU) rfl T.eU rfl) (bL _)) (av (aG j8)) bY)
     (ak (ay 3 EB.nd (ar (sI T) hr T.ou (ae (bM (v:=.ref a.dU) rfl T.eU rfl) (ae (au (pv 2)) af))))
     (av (aG (dG (show aK _ (.type "tuple") (ee K)from fm) rfl T.z_tuple eG (ae (eH rfl (cn.by (N':=["shift","gap"]) (src:=[none,some 3]) rfl (show cK _ (az Ah).names EG ["shift","gap"] [none,some 3]=true from by decide +kernel)) (iM (au (pv 2))) (λ_ _ _ _ _=>(aZ (i:=0) (show(["shift","gap"]:List Str).Nodup from by decide) rfl (Or.inl rfl))) (λ_ _ _ _ _=>eA) (λ_ _ _ _ _=>(ar (P7 (K:=K) (mg:=mg) (a:=a) T) hr T.AZ (ae (pv 0) (ae (pv 1) af))))) af))))))),?_⟩
 wtm_at "cl";rw[show start EG [x0,x1]=[some x0,some x1,none,none]from rfl];obtain⟨ra,rb,ns,hr',hn',ok,h0,h8,q1,q2⟩:=h;have bF:ag 100 (ra^ns.sum.toNat):=(ok.ba.pow ns.sum.toNat).mono (by omega);o_head nM hr' hn' ok h0 (by omega) (λv1 H1 S1 i1=>?_);o_head aH (j:=0) i1 rfl (λv2 i2=>?_);k_few
 . rename_i z
   exact q1 z H1 S1
 . rename_i z
   refine aH (j:=0) i1 rfl (λv3 i3=>?_);k_few;rename_i v4 H4 S4 i4;have hg:(1-ra^ns.sum.toNat)≠0:=λe=>z (by grind)
   have bg:ag 102 (1-ra^ns.sum.toNat):=(ag.one.sub bF).mono (by decide);refine aH (j:=1) (i1.by S4) rfl (λv5 i5=>?_);obtain⟨ap,us,rfl,hu,tu⟩:=bW.mp i5;refine jl (o0:=none) (tl:=[some v4]) hu rfl (λj y H'=>Is K H' y (N ((bR ra rb ns).getD j 0))) ?_ ?_
   . intro D i x ys o H5 hx inv
     obtain⟨hi,ix⟩:=dM tu hx;have ix5:=ix.by inv.same;have i45:=i4.by inv.same
     have hi1000:i<=1000:=by
       have h1:=ok.len;have h2:=ok.b8;have h3:=lR (a:=ra) (b:=rb) (show ns.length=(cC (ns.length-1)).length+1 from ok.len);omega
     o_head KQ ix5 i45 ((zpC ok h8 i).mono (by decide)) (bg.mono (by decide)) hg (λv6 H6 S6 i6=>?_);k_few
     have e:(bR ra rb ns).getD i 0=(cw ra rb ns (cC (ns.length-1))).getD i 0 / (1-ra^ns.sum.toNat):=by
       unfold bR;rw[wa,wu,wa,wc hi];rfl
     exact eS inv hi1000 f_ ⟨_,rfl⟩ S6 (by rw[e];exact i6)
   . intro D ys H5 hn S5 hD hl hr5
     have hl':ys.length=(bR ra rb ns).length:=by
       unfold bR;rw[hl,tu.length,wm,wm]
     refine gY (dj hD (gp hl' hr5)) (λw H6 S6 i6=>?_);k_few;exact q2 z w H6 (S1.trans (S4.trans (S5.trans S6))) i6
def fA(p q:Rat)(xs ss:List Rat):List Rat:=(wx xs.length).map λi=>p*xs.getD i 0+q*ss.getD i 0
theorem zev(p q:Rat)(xs ss:List Rat):(fA p q xs ss).length=xs.length:=by unfold fA;rw[wm,vy]
theorem Jx{p q:Rat}{xs ss:List Rat}{i:Nat}(h:i<xs.length):(fA p q xs ss).getD i 0=p*xs.getD i 0+q*ss.getD i 0:=by
 unfold fA;rw[wa,wu,vZ h];rfl
def LM(K:wb):Sp:=λvs H Q _=>∃x0 x1 x2 x3,vs=[x0,x1,x2,x3] /\ ∃(d:wF)(p q:Rat)(xs ss:List Rat),Is K H x0 (.tuple [d,TN ss])/\Is K H x1 (TN xs)/\Is K H x2 (N p)/\Is K H x3 (N q)/\ss.length=xs.length/\xs.length<=50/\ag 2000 p/\ag 2000 q/\(∀i,ag 6900 (xs.getD i 0))/\(∀i,ag 6900 (ss.getD i 0)) /\ ∀v H',ah H H'->Is K H' v (TN (fA p q xs ss))->Q v H'
theorem Ja{K:wb}{H:Hp}{Q:VK}{E:XK}{d:wF}{p q':Rat}{xs ss:List Rat}{v w u z:V}(h0:Is K H v (.tuple [d,TN ss]))(h1:Is K H w (TN xs))(h2:Is K H u (N p))(h3:Is K H z (N q'))(hl:ss.length=xs.length)(hf:xs.length<=50)(b1:ag 2000 p)(b2:ag 2000 q')(b3:∀i,ag 6900 (xs.getD i 0))(b4:∀i,ag 6900 (ss.getD i 0))(q:∀v H',ah H H'->Is K H' v (TN (fA p q' xs ss))->Q v H'):LM K [v,w,u,z] H Q E:=⟨_,_,_,_,rfl,d,p,q',xs,ss,h0,h1,h2,h3,hl,hf,b1,b2,b3,b4,q⟩
theorem Se(T:Txt K mg a):aN P w K mg base aU 3 a.Ih a.G9 zo (LM K):=by
 refine T.AO.F.ok zs6 ?_ ?_;wtm_at "b4";refine⟨_,(av (aG (dG (show aK _ (.type "tuple") (ee K)from fm) rfl T.z_tuple eG (ae (eH rfl (cn.by (N':=["place","shift","of_place","of_shift"]) (src:=[none,none,some 2,some 3]) rfl (show cK _ (az yd).names ze ["place","shift","of_place","of_shift"] [none,none,some 2,some 3]=true from by decide +kernel)) (zzm rfl T.z_zip (ae (pv 1) (ae (au (pv 0)) af))) (λ_ _ _ _ _=>by exact(show PG _ _ (hJ K 2 _)from gC (n:=2) rfl (cR (aZ (i:=0) (show(["place","shift","of_place","of_shift"]:List Str).Nodup from by decide) rfl (Or.inl rfl)) (cR (aZ (i:=1) (show(["place","shift","of_place","of_shift"]:List Str).Nodup from by decide) rfl (Or.inl rfl)) gf)))) (λ_ _ _ _ _=>eA) (λ_ _ _ _ _=>(ar (gr (K:=K) (mg:=mg) (a:=a) T) hr T.fN (ae (ar (ky (K:=K) (mg:=mg) (a:=a) T) hr T.jD (ae (pv 2) (ae (pv 0) af))) (ae (ar (ky (K:=K) (mg:=mg) (a:=a) T) hr T.jD (ae (pv 3) (ae (pv 1) af))) af))))) af)))),?_⟩;wtm_at "cl";rw[show start ze [x0,x1,x2,x3]=[some x0,some x1,some x2,some x3]from rfl];obtain⟨d,p,q',xs,ss,h0,h1,h2,h3,hl,hf,b1,b2,b3,b4,q⟩:=h;obtain⟨a1,us,rfl,hs1,t1⟩:=bW.mp h1;o_head aH (j:=1) h0 rfl (λv5 i5=>?_);obtain⟨a2,ws,rfl,hs2,t2⟩:=bW.mp i5;have l1:=t1.length;have l2:=t2.length;rw[wm]at l1 l2;o_head zyJ (t:=true) (u:=true) hs1 hs2 (by omega) (o0:=none) (o0':=none) (tl:=[some x2,some x3]) rfl (λj y H'=>Is K H' y (N ((fA p q' xs ss).getD j 0))) f_ ?_ ?_
 ·intro D j y z zs o1 o2 H7 c hy hz inv hc
  obtain⟨hj,iy⟩:=dM t1 hy;obtain⟨_,iz⟩:=dM t2 hz;have S7:=inv.2.2.1;have iy7:=iy.by S7;have iz7:=iz.by S7;have ip7:=h2.by S7;have iq7:=h3.by S7;have c1:=b3 j;have c2:=b4 j;have m1:ag 8999 (p*xs.getD j 0):=(b1.mul c1).mono (by decide);have m2:ag 8999 (q'*ss.getD j 0):=(b2.mul c2).mono (by decide);refine lg (.of hc) rfl ?_;k_few;rename_i v8 H8 S8 i8 v9 H9 S9 i9 v10 H10 S10 i10;rw[<- Jx hj]at i10;exact zr inv (by omega) f_ ⟨_,_,rfl⟩ (S8.trans (S9.trans S10)) i10
 ·intro D zs H7 hn S7 hD hl7 hr7
  have tz:ao K H7 zs ((fA p q' xs ss).map N):=gp (by rw[hl7,zev];omega) hr7;o_head gY (dj hD tz) (λv8 H8 S8 i8=>?_);exact q v8 H8 (S7.trans S8) i8
structure cE(ns:List Int):Prop where
 some:1<=ns.length
 b8:ns.length<=8
 each:∀n∈ns,1<=n/\n<=8
 sum:ns.sum<=8
theorem yp:∀{ns:List Int},(∀n∈ns,0<=n)->((ns.map xO).sum:Int)=ns.sum
 | [],_=>rfl
 | n::ns,h=>by
  have h1:=yp (ns:=ns) λm hm=>h m (wy _ hm)
  have h2:=h n (wC ..);rw[vb,Vu,Vu];omega
theorem cE.upTo{ns:List Int}(h:cE ns):upTo ns ns.length<=8:=by
 have h1:=yp (ns:=ns) λn hn=>by have:=h.each n hn;omega
 have h2:=h.sum;unfold GM.upTo;rw[WC];omega
def cZ(a b:Rat)(ns:List Int):List Rat:=cw a b ns (cC (ns.length-1))
def bS(a b:Rat)(ns:List Int)(n:Nat)(xs:List Rat):List Rat:=(wx xs.length).map λi=>fb (a^ns.sum.toNat) ((cZ a b ns).getD i 0) n (xs.getD i 0)
theorem Cg(n:Nat):(cC n).length=n:=Vg ..
theorem nE{a b:Rat}{ns:List Int}(h:1<=ns.length):(cZ a b ns).length=ns.length-1:=by
 unfold cZ;rw[lR (by rw[Cg];omega),Cg]
theorem cx(a b:Rat)(ns:List Int)(n:Nat)(xs:List Rat):(bS a b ns n xs).length=xs.length:=by unfold bS;rw[wm,vy]
theorem j7{a b:Rat}{ns:List Int}{n:Nat}{xs:List Rat}{i:Nat}(h:i<xs.length):(bS a b ns n xs).getD i 0=fb (a^ns.sum.toNat) ((cZ a b ns).getD i 0) n (xs.getD i 0):=by
 unfold bS;rw[wa,wu,vZ h];rfl
theorem Bn{xs ys:List Rat}(hl:xs.length=ys.length)(h:∀i,i<xs.length->xs.getD i 0=ys.getD i 0):xs=ys:=WM hl λi h1 h2=>by
 have:=h i h1;rw[wa,wa,wc h1,wc h2]at this;exact this
theorem lI(a b:Rat)(ns:List Int)(xs:List Rat):bS a b ns 0 xs=xs:=Bn (cx ..) λi hi=>by
 rw[cx]at hi;rw[j7 hi,zvf]
theorem C8(a b:Rat)(ns:List Int)(m n:Nat)(xs:List Rat):bS a b ns n (bS a b ns m xs)=bS a b ns (m+n) xs:=Bn (by rw[cx,cx,cx]) λi hi=>by
 rw[cx,cx]at hi;rw[j7 (by rw[cx];exact hi),j7 hi,j7 hi,U5]
theorem oH{a b:Rat}{ns:List Int}{xs:List Rat}(h:ns.length=xs.length+1)(hn:∀n∈ns,0<=n):bS a b ns 1 xs=cw a b ns xs:=Bn (by rw[cx,lR h]) λi hi=>by
 rw[cx]at hi;rw[j7 hi,UU,Jp h hn hi]
 rfl
structure d4(a b:Rat)(ns:List Int)(n:Nat):Prop where
 ok:aW a b
 sz:cE ns
 b8:n<=60
 k:(6*ns.sum.toNat+1+1)*n<=1600
theorem zzQ{a b:Rat}(h:aW a b):ag 6 a:=by
 have h1:=h.a0;have h2:=h.a4;have h3:=h.ad;have n0:0<=a.num:=Qs.mpr (vX h1)
 have n1:a.num<=4*a.den:=by
  have:=(xv a 4).mp h2
  simpa using this
 have e:(2:Nat)^6=64:=by decide
 exact⟨⟨by rw[e];omega⟩,⟨by rw[e];omega⟩⟩
theorem jH{a b:Rat}(h:aW a b)(S:Nat):ag (6*S+1) (a^S):=(zzQ h).pow S
theorem d4.le{a b:Rat}{ns:List Int}{m n:Nat}(h:d4 a b ns n)(e:m<=n):d4 a b ns m:=⟨h.ok,h.sz,Wk e h.b8,Wk (XD _ e) h.k⟩
theorem d4.pow{a b:Rat}{ns:List Int}{n:Nat}(h:d4 a b ns n){i:Nat}(hi:i<=n):ag 1601 ((a^ns.sum.toNat)^i):=((jH h.ok _).pow i).mono (by
 have h1:=(h.le hi).k;have h2:=Wj i (show 6*ns.sum.toNat+1<=6*ns.sum.toNat+1+1 by omega);omega)
theorem d4.aB{a b:Rat}{ns:List Int}{n:Nat}(h:d4 a b ns n){i:Nat}(hi:i<=n):ag 1601 (aB (a^ns.sum.toNat) 1 i):=(Rk (jH h.ok _) i).mono (by have:=(h.le hi).k;omega)
theorem kA{a b:Rat}{ns:List Int}(h:aW a b)(k:cE ns):cS a b ns (cC (ns.length-1)):=⟨h.ba,h.bb,λn hn=>by have:=k.each n hn;omega,by rw[Cg];have:=k.some;omega,by have:=k.b8;omega,⟨1,v_ _,by have:=k.b8;have:=k.upTo;omega⟩⟩
theorem BR{a b:Rat}{ns:List Int}(h:aW a b)(k:cE ns):Cm 185 (cZ a b ns):=(DR (ns:=ns) h.ba h.bb (v_ (ns.length-1))).mono (by have:=k.b8;have:=k.upTo;omega)
theorem Cs{a b:Rat}{ns:List Int}(h:aW a b)(k:cE ns)(i:Nat):ag 185 ((cZ a b ns).getD i 0):=(BR h k).get i
theorem cE.nn{ns:List Int}(k:cE ns):∀n∈ns,0<=n:=λn hn=>by have:=k.each n hn;omega
theorem cE.pos{ns:List Int}(k:cE ns):1<=ns.sum/\ns.sum<=8:=by
 refine⟨?_,k.sum⟩;have h1:=yp k.nn;have h2:=k.some
 match ns,h2,k.each with
 | n::ns,_,he =>
  have:=he n (wC ..);rw[vb,Vu]at h1;omega
theorem kT{a b:Rat}(h:aW a b){S:Nat}(hS:1<=S):a^S=1 ↔ a=1:=by
 obtain⟨m,rfl⟩:∃m,S=m+1:=⟨S-1,by omega⟩
 constructor
 ·intro e
  by_cases z:a<1
  ·have:=Oi h.a0 z m
   rw[e]at this;exact absurd this (by grind)
  ·by_cases y:a=1
   ·exact y
   ·have z3:1<a:=Vk (VD.mp z) (Wp y)
    have:=ztl z3 m;rw[e]at this;exact absurd this (by grind)
 ·intro e
  rw[e,GM.one_pow']
theorem zvH{a b:Rat}{ns:List Int}(hF:a^ns.sum.toNat≠1){i:Nat}(hi:i<(bR a b ns).length):(bR a b ns).getD i 0*(1-a^ns.sum.toNat)=(cZ a b ns).getD i 0:=by
 rw[OA hi];exact WL (λe=>hF (by grind))
theorem Zb{a b:Rat}(h:aW a b)(S n:Nat):ag ((6*S+3)*n+1) ((a^S)^n):=((jH h S).pow n).mono (by have:=Wj n (show 6*S+1<=6*S+3 by omega);omega)
theorem Rn{a b:Rat}(h:aW a b)(S n:Nat):ag ((6*S+3)*n+1) (aB (a^S) 1 n):=(Rk (jH h S) n).mono (by have:=Wj n (show 6*S+1+1<=6*S+3 by omega);omega)
def KI(K:wb):Sp:=λvs H Q _=>∃x0 x1 x2,vs=[x0,x1,x2] /\ ∃(F:Rat)(n:Int)(xs ss:List Rat),x2=.int n/\Is K H x0 (.tuple [N F,TN ss])/\Is K H x1 (TN xs)/\0<=n/\n<=64/\ss.length=xs.length/\xs.length<=50/\ag 2000 F/\(∀i,i<=n.toNat->ag 2000 (F^i))/\(∀i,i<=n.toNat->ag 2000 (aB F 1 i))/\(∀i,ag 6900 (xs.getD i 0))/\(∀i,ag 6900 (ss.getD i 0)) /\ ∀v H',ah H H'->Is K H' v (TN ((wx xs.length).map λi=>fb F (ss.getD i 0) n.toNat (xs.getD i 0)))->Q v H'
theorem Pa{K:wb}{H:Hp}{Q:VK}{E:XK}{F:Rat}{n:Int}{xs ss:List Rat}{v w:V}(h0:Is K H v (.tuple [N F,TN ss]))(h1:Is K H w (TN xs))(n0:0<=n)(n1:n<=64)(hl:ss.length=xs.length)(hf:xs.length<=50)(b0:ag 2000 F)(b1:∀i,i<=n.toNat->ag 2000 (F^i))(b2:∀i,i<=n.toNat->ag 2000 (aB F 1 i))(b3:∀i,ag 6900 (xs.getD i 0))(b4:∀i,ag 6900 (ss.getD i 0))(q:∀v H',ah H H'->Is K H' v (TN ((wx xs.length).map λi=>fb F (ss.getD i 0) n.toNat (xs.getD i 0)))->Q v H'):KI K [v,w,.int n] H Q E:=⟨_,_,_,rfl,F,n,xs,ss,rfl,h0,h1,n0,n1,hl,hf,b0,b1,b2,b3,b4,q⟩
theorem NO(T:Txt K mg a):aN P w K mg base aU 4 a.Iq a.Ho y7 (KI K):=by
 refine T.AV.F.ok Ka ?_ ?_;wtm_at "b3"
 refine⟨_,(ak (ay 3 Ka.nd (ar (yU T) hr T.oq (ae (bC (ae (au (pv 0)) (ae (bM (v:=.ref a.dU) rfl T.eU rfl) af))) (ae (pv 2) af))))
     (av (aG (ar (Se T) hr T.AO (ae (pv 0) (ae (pv 1) (ae (au (pv 3)) (ae (au (pv 3)) af)))))))),?_⟩
 wtm_at "cl";rw[show start Oy [x0,x1,x2]=[some x0,some x1,some x2,none]from rfl];obtain⟨F,n,xs,ss,rfl,h0,h1,n0,n1,hl,hf,b0,b1,b2,b3,b4,q⟩:=h;o_head aH (j:=0) h0 rfl (λv1 i1=>?_);o_head zBl i1 (dX 1 (T.r8 _) rfl rfl) (λv2 H2 S2 i2=>?_);o_head Mi i2 (b0.mono (by decide)) (ag.one.mono (by decide)) n0 n1 (λi hi=>(b1 i hi).mono (by decide)) (λi hi=>(b2 i hi).mono (by decide)) (λv3 H3 S3 i3=>?_);k_few;rename_i v4 i4 v5 i5;have T3:=S2.trans S3;refine Ja (h0.by T3) (h1.by T3) i4 i5 hl hf (b1 _ (wp _)) (b2 _ (wp _)) b3 b4 (λv6 H6 S6 i6=>?_);exact q v6 H6 (T3.trans S6) i6
def ML(K:wb):Sp:=λvs H Q _=>∃x0 x1 x2 x3,vs=[x0,x1,x2,x3] /\ ∃(ra rb:Rat)(ns:List Int)(xs:List Rat)(n:Int),x3=.int n/\Is K H x0 (R ra rb)/\Is K H x1 (TZ ns)/\Is K H x2 (TN xs)/\ns.length=xs.length+1/\0<=n/\d4 ra rb ns n.toNat/\(∀i,ag 6900 (xs.getD i 0)) /\ ∀v H',ah H H'->Is K H' v (TN (bS ra rb ns n.toNat xs))->Q v H'
theorem zkA{K:wb}{H:Hp}{Q:VK}{E:XK}{ra rb:Rat}{ns:List Int}{xs:List Rat}{n:Int}{v w u:V}(h0:Is K H v (R ra rb))(h1:Is K H w (TZ ns))(h2:Is K H u (TN xs))(hl:ns.length=xs.length+1)(n0:0<=n)(ok:d4 ra rb ns n.toNat)(b:∀i,ag 6900 (xs.getD i 0))(q:∀v H',ah H H'->Is K H' v (TN (bS ra rb ns n.toNat xs))->Q v H'):ML K [v,w,u,.int n] H Q E:=⟨_,_,_,_,rfl,ra,rb,ns,xs,n,rfl,h0,h1,h2,hl,n0,ok,b,q⟩
theorem zkc(T:Txt K mg a):aN P w K mg base aU 8 a.F0 a.FJ ym (ML K):=by
 refine T.FO.F.ok zkk ?_ ?_;wtm_at "b4";refine⟨_,(av (aG (ar (NO T) hr T.AV (ae (ar (nz T) hr T.kO (ae (pv 0) (ae (pv 1) af))) (ae (pv 2) (ae (pv 3) af)))))),?_⟩;wtm_at "cl";rw[show start Fn [x0,x1,x2,x3]=[some x0,some x1,some x2,some x3]from rfl];obtain⟨ra,rb,ns,xs,n,rfl,hr',hn',hx',hl,n0,ok,bx,q⟩:=h;have h8:=ok.sz.b8;have hp:=ok.sz.pos;have hn60:=ok.b8;o_head nM hr' hn' (kA ok.ok ok.sz) (by omega) (by omega) (λv1 H1 S1 i1=>?_);o_head Pa (ss:=cZ ra rb ns) i1 (hx'.by S1) n0 (by omega) (by rw[nE (by omega)];omega) (by omega) (by have:=ok.sz.sum;exact(jH ok.ok _).mono (by omega)) (λi hi=>(ok.pow hi).mono (by decide)) (λi hi=>(ok.aB hi).mono (by decide)) bx (λi=>(Cs ok.ok ok.sz i).mono (by decide)) (λv2 H2 S2 i2=>?_);exact q v2 H2 (S1.trans S2) i2
theorem JV{k:Nat}{F:Rat}(h:ag k F):∀i:Nat,∃U:Int,GM.sumTo (aB F 1) i=wB U ((F.den:Int)^i)/\Bd ((k+2)*i+2) U
 | 0=>⟨0,by simp[GM.sumTo],⟨by simp⟩⟩
 | i+1=>by
  obtain⟨U,e,bU⟩:=JV h i;obtain⟨T,e2,bT,bd⟩:=Af h i;have hd:(F.den:Int)^i≠0:=qk (fU F);have hd1:(F.den:Int)^(i+1)≠0:=qk (fU F);have ed:(F.den:Int)^(i+1)=(F.den:Int)^i*(F.den:Int):=QJ ..;have h1:(k+2)*(i+1)=(k+2)*i+(k+2):=Qi ..;have h2:(k+1)*i<=(k+2)*i:=Wj i (by omega);refine⟨(U+T)*(F.den:Int),?_,((bU.add bT).mul h.b).mono (by omega)⟩
  symm
  refine fL hd1 ?_;have k1:=cy U hd;have k2:=cy T hd;have e3:(((U+T)*(F.den:Int):Int):Rat)=((U:Rat)+(T:Rat))*((F.den:Int):Rat):=by rw[Wq,QI]
  rw[GM.sumTo,e,e2,ed,Wq,e3,<- k1,<- k2]
  grind
theorem OS{k:Nat}{F:Rat}(h:ag k F)(i:Nat):ag ((k+2)*i+2) (GM.sumTo (aB F 1) i):=by
 obtain⟨U,e,bU⟩:=JV h i;obtain⟨T,e2,bT,bd⟩:=Af h i;rw[e];exact ag.divInt (qk (fU F)) bU (bd.mono (by have:=Wj i (show k<=k+2 by omega);omega))
theorem d4.sums{a b:Rat}{ns:List Int}{n:Nat}(h:d4 a b ns n){i:Nat}(hi:i<=n):ag 1662 (GM.sumTo (GM.aB (a^ns.sum.toNat) 1) i):=(OS (jH h.ok _) i).mono (by
 have h1:=(h.le hi).k;have h2:=(h.le hi).b8;have e:(6*ns.sum.toNat+1+2)*i=(6*ns.sum.toNat+1+1)*i+i:=by rw[<- Qp]
 omega)
theorem Zk(F s x:Rat)(n:Nat):GM.sumTo (λk=>fb F s k x) n=aB F 1 n*x+GM.sumTo (aB F 1) n*s:=by
 unfold fb;rw[OO]
 have e1:GM.sumTo (λk=>F^k*x) n=aB F 1 n*x:=by
  rw[<- OB F n,QP,<- Dh];exact tD n λk _=>QP ..
 have e2:GM.sumTo (λk=>aB F 1 k*s) n=GM.sumTo (aB F 1) n*s:=by
  rw[QP (GM.sumTo (aB F 1) n) s,<- Dh];exact tD n λk _=>QP ..
 rw[e1,e2]
def R1(K:wb):Sp:=λvs H Q _=>∃x0 x1 x2,vs=[x0,x1,x2] /\ ∃(a b:Rat)(ns:List Int)(n:Int)(xs:List Rat),x2=.int n/\Is K H x0 (.tuple [N (a^ns.sum.toNat),TN (cZ a b ns)])/\Is K H x1 (TN xs)/\0<=n/\d4 a b ns n.toNat/\ns.length=xs.length+1/\(∀i,ag 6900 (xs.getD i 0)) /\ ∀v H',ah H H'->Is K H' v (TN (fA (aB (a^ns.sum.toNat) 1 n.toNat) (GM.sumTo (aB (a^ns.sum.toNat) 1) n.toNat) xs (cZ a b ns)))->Q v H'
theorem zjq{K:wb}{H:Hp}{Q:VK}{E:XK}{a b:Rat}{ns:List Int}{n:Int}{xs:List Rat}{v w:V}(h0:Is K H v (.tuple [N (a^ns.sum.toNat),TN (cZ a b ns)]))(h1:Is K H w (TN xs))(n0:0<=n)(ok:d4 a b ns n.toNat)(hl:ns.length=xs.length+1)(bx:∀i,ag 6900 (xs.getD i 0))(q:∀v H',ah H H'->Is K H' v (TN (fA (aB (a^ns.sum.toNat) 1 n.toNat) (GM.sumTo (aB (a^ns.sum.toNat) 1) n.toNat) xs (cZ a b ns)))->Q v H'):R1 K [v,w,.int n] H Q E:=⟨_,_,_,rfl,a,b,ns,n,xs,rfl,h0,h1,n0,ok,hl,bx,q⟩
theorem zjA(T:Txt K mg a):aN P w K mg base aU 4 a.FR a.FC zK (R1 K):=by
 refine T.FH.F.ok oo ?_ ?_;wtm_at "b3"
 refine⟨_,(ak (ay 3 oo.nd (bM (v:=.ref a.c_) rfl T.dS rfl))
     (ak (ay 4 oo.nd (bM (v:=.ref a.c_) rfl T.dS rfl))
     (ak (fu vJ rfl (jj rfl T.z_range (ae (pv 2) af)) (aZ (i:=5) oo.nd rfl (Or.inl rfl)) (ak (ay 4 oo.nd (ar (gr T) hr T.fN (ae (pv 4) (ae (pv 3) af))))
     (av (ay 3 oo.nd (ar (gr T) hr T.fN (ae (ar (ky T) hr T.jD (ae (au (pv 0)) (ae (pv 3) af))) (ae (bM (v:=.ref a.dU) rfl T.eU rfl) af)))))))
     (av (aG (ar (Se T) hr T.AO (ae (pv 0) (ae (pv 1) (ae (pv 3) (ae (pv 4) af)))))))))),?_⟩
 wtm_at "cl";rw[show start JG [x0,x1,x2]=[some x0,some x1,some x2,none,none,none]from rfl];obtain⟨ra,rb,ns,n,xs,rfl,h0,h1,n0,ok,hl,bx,q⟩:=h;have h8:=ok.sz.b8;have h60:=ok.b8;have bF:ag 49 (ra^ns.sum.toNat):=(jH ok.ok _).mono (by have:=ok.sz.sum;omega);generalize hF:ra^ns.sum.toNat=F at *;o_head jR (n:=n) (by omega) (by omega) (λi σ H'=>∃(f g:V)(o:Option V),σ = [some x0,some x1,some (.int n),some f,some g,o]/\ah H H'/\Is K H' f (N (aB F 1 i))/\Is K H' g (N (GM.sumTo (aB F 1) i))) ⟨_,_,_,rfl,ah.refl H,dX 0 (T.eI _) rfl rfl,dX 0 (T.eI _) rfl rfl⟩ ?_ ?_
 . rintro i σ H' hi ⟨f,g,o,rfl,S1,hf,hg⟩
   have h01:=h0.by S1;have bf:ag 1601 (aB F 1 i):=by rw[<- hF];exact ok.aB (by omega)
   have bg:ag 1662 (GM.sumTo (aB F 1) i):=by rw[<- hF];exact ok.sums (by omega)
   have bm:ag 1700 (F*aB F 1 i):=(bF.mul bf).mono (by decide);k_few;rename_i v2 H2 S2 i2;refine aH (j:=0) (h01.by S2) rfl (λv3 i3=>?_);have hf2:=hf.by S2;k_few;rename_i v4 H4 S4 i4 v5 H5 S5 i5;exact⟨_,_,_,rfl,S1.trans (S2.trans (S4.trans S5)),i5,i2.by (S4.trans S5)⟩
 . rintro σ H' ⟨f,g,o,rfl,S1,hf,hg⟩
   have bf:ag 2000 (aB F 1 n.toNat):=by rw[<- hF];exact(ok.aB (wp _)).mono (by decide)
   have bg:ag 2000 (GM.sumTo (aB F 1) n.toNat):=by rw[<- hF];exact(ok.sums (wp _)).mono (by decide)
   o_head Ja (h0.by S1) (h1.by S1) hf hg (by rw[nE (by omega)];omega) (by omega) bf bg bx (λi=>(Cs ok.ok ok.sz i).mono (by decide)) (λv2 H2 S2 i2=>?_);exact q v2 H2 (S1.trans S2) i2
theorem LC{m j c d:Nat}{p q:Rat}{xs ss:List Rat}(hx:Cm m xs)(hs:Cm j ss)(bp:ag c p)(bq:ag d q):Cm (m+j+c+d+1) (fA p q xs ss):=by
 obtain⟨B,h0,h1,h2⟩:=hx;obtain⟨D,g0,g1,g2⟩:=hs;have hb:0<B*(p.den:Int)*(D*(q.den:Int)):=Wd (Wd h0 (den_pos p)) (Wd g0 (den_pos q));refine⟨_,hb,((h1.mul bp.b).mul (g1.mul bq.b)).mono (by omega),λx hx=>?_⟩;obtain⟨i,hi,rfl⟩:=wS.mp hx;have hi:=wI.mp hi;obtain⟨u,eu,bu⟩:=h2 _ (cU (d:=0) hi)
 have hv:∃v:Int,ss.getD i 0=wB v D/\Bd j v:=by
  rcases wz i ss.length with z | z
  ·exact g2 _ (cU z)
  ·rw[wa,wE z]
   exact⟨0,by simp,⟨by simp;exact Wr j⟩⟩
 obtain⟨v,ev,bv⟩:=hv;refine⟨p.num*u*(D*(q.den:Int))+q.num*v*(B*(p.den:Int)),?_,(((bp.t.mul bu).mul (g1.mul bq.b)).add ((bq.t.mul bv).mul (h1.mul bp.b))).mono (by omega)⟩
 symm
 show wB _ _=p*xs.getD i 0+q*ss.getD i 0
 refine fL (by omega) ?_;have k1:=cy u (show B≠0 by omega);have k2:=cy v (show D≠0 by omega);have k3:=kK p;have k4:=kK q;rw[eu,ev];simp only[QI,Wq];rw[<- k1,<- k2,<- k3,<- k4];generalize wB u B=y;generalize wB v D=z;generalize (B:Rat)=B';generalize (D:Rat)=D';generalize ((p.den:Int):Rat)=P';generalize ((q.den:Int):Rat)=Q'
 grind
theorem zB1{a b:Rat}{ns:List Int}{xs:List Rat}{n m:Nat}(ok:d4 a b ns n)(c:Cm m xs):Cm (m+188+2*((6*ns.sum.toNat+3)*n)) (bS a b ns n xs):=(LC c (BR ok.ok ok.sz) (Zb ok.ok _ n) (Rn ok.ok _ n)).mono (by omega)
def oR(a b:Rat)(ns:List Int)(xs:List Rat)(n:Nat):Rat:=GM.sumTo (λk=>eZ a b ns (bS a b ns k xs)) n
def iG(a b:Rat)(ns:List Int)(xs:List Rat)(n:Nat):List Rat:=(fA (aB (a^ns.sum.toNat) 1 n) (GM.sumTo (aB (a^ns.sum.toNat) 1) n) xs (cZ a b ns)).map λt=>t / ((n:Int):Rat)
theorem Ri(a b:Rat)(ns:List Int)(xs:List Rat)(n:Nat):(iG a b ns xs n).length=xs.length:=by unfold iG;rw[wm,zev]
theorem CT{n:Nat}(h:1<=n):((n:Int):Rat)≠0:=λe=>by
 have:=Vv.mp e;omega
theorem Rt{a b:Rat}{ns:List Int}{xs:List Rat}{n i:Nat}(hi:i<xs.length):(iG a b ns xs n).getD i 0=(fA (aB (a^ns.sum.toNat) 1 n) (GM.sumTo (aB (a^ns.sum.toNat) 1) n) xs (cZ a b ns)).getD i 0 / ((n:Int):Rat):=by
 unfold iG;rw[wa,wu,wc (by rw[zev];exact hi),wa,wc (by rw[zev];exact hi)]
 rfl
theorem zq0{a b:Rat}{ns:List Int}{xs:List Rat}(hl:ns.length=xs.length+1){n:Nat}(h1:1<=n):((n:Int):Rat)*eZ a b ns (iG a b ns xs n)=oR a b ns xs n:=by
 unfold oR;refine MN hl (λk=>bS a b ns k xs) (λk=>cx ..) n _ h1 (Ri ..) λi hi=>?_
 rw[Rt hi,WL (CT h1),Jx hi,<- Zk];exact tD n λk _=>(j7 hi).symm
theorem R6{n:Nat}(h:n<=60):ag 6 ((n:Int):Rat):=by
 have e:(2:Nat)^6=64:=by decide
 exact⟨⟨by rw[Ue,e];omega⟩,⟨by rw[Uf];decide⟩⟩
theorem zvV{a b:Rat}(h:aW a b)(S n:Nat):ag ((6*S+3)*n+2) (GM.sumTo (aB (a^S) 1) n):=OS (jH h S) n
theorem Kv{a b:Rat}{ns:List Int}{xs:List Rat}{n m:Nat}(ok:d4 a b ns n)(c:Cm m xs):Cm (m+189+2*((6*ns.sum.toNat+3)*n)) (fA (aB (a^ns.sum.toNat) 1 n) (GM.sumTo (aB (a^ns.sum.toNat) 1) n) xs (cZ a b ns)):=(LC c (BR ok.ok ok.sz) (Rn ok.ok _ n) (zvV ok.ok _ n)).mono (by omega)
theorem zwQ{a b:Rat}{ns:List Int}{xs:List Rat}{n m:Nat}(ok:d4 a b ns n)(h1:1<=n)(c:Cm m xs):Cm (m+195+2*((6*ns.sum.toNat+3)*n)) (iG a b ns xs n):=by
 unfold iG;exact(L_ (Kv ok c) (R6 ok.b8) (CT h1)).mono (by omega)
def Jb(K:wb):Sp:=λvs H Q _=>∃x0 x1 x2 x3,vs=[x0,x1,x2,x3] /\ ∃(ra rb:Rat)(ns:List Int)(xs:List Rat)(n:Int)(m:Nat),x3=.int n/\Is K H x0 (R ra rb)/\Is K H x1 (TZ ns)/\Is K H x2 (TN xs)/\ns.length=xs.length+1/\0<=n/\d4 ra rb ns n.toNat/\Cm m xs/\m+2*((6*ns.sum.toNat+3)*n.toNat)<=6700 /\ ∀v H',ah H H'->Is K H' v (N (oR ra rb ns xs n.toNat))->Q v H'
theorem U7{K:wb}{H:Hp}{Q:VK}{E:XK}{ra rb:Rat}{ns:List Int}{xs:List Rat}{n:Int}{m:Nat}{v w u:V}(h0:Is K H v (R ra rb))(h1:Is K H w (TZ ns))(h2:Is K H u (TN xs))(hl:ns.length=xs.length+1)(n0:0<=n)(ok:d4 ra rb ns n.toNat)(c:Cm m xs)(hm:m+2*((6*ns.sum.toNat+3)*n.toNat)<=6700)(q:∀v H',ah H H'->Is K H' v (N (oR ra rb ns xs n.toNat))->Q v H'):Jb K [v,w,u,.int n] H Q E:=⟨_,_,_,_,rfl,ra,rb,ns,xs,n,m,rfl,h0,h1,h2,hl,n0,ok,c,hm,q⟩
theorem zzH{K:wb}{H:Hp}{Q:VK}{n:Int}(q:∀v H',ah H H'->Is K H' v (N (n:Rat))->Q v H'):lW K [.int n,.int 1] H Q:=ko (r:=(n:Rat)) (Ue n).symm (by rw[Uf];rfl) q
theorem zmS(T:Txt K mg a):aN P w K mg base aU 8 a.Gx a.FV yt (Jb K):=by
 refine T.FX.F.ok Cq ?_ ?_;wtm_at "b4"
 refine⟨_,(ak (bV (bZ rn (pv 3) aA (bL _)) (av (aG (bM (v:=.ref a.c_) rfl T.dS rfl))) bY)
     (ak (ay 4 Cq.nd (bC (ae (pv 3) (ae aA af))))
     (ak (ay 5 Cq.nd (dG (show aK _ (.type "tuple") (ee K)from fm) rfl T.z_tuple eG (ae (eH rfl (cn.by (N':=["total","count"]) (src:=[none,some 4]) rfl (show cK _ (az zZ).names Et ["total","count"] [none,some 4]=true from by decide +kernel)) (iM (ar (zjA T) hr T.FH (ae (ar (nz T) hr T.kO (ae (pv 0) (ae (pv 1) af))) (ae (pv 2) (ae (pv 3) af))))) (λ_ _ _ _ _=>(aZ (i:=0) (show(["total","count"]:List Str).Nodup from by decide) rfl (Or.inl rfl))) (λ_ _ _ _ _=>eA) (λ_ _ _ _ _=>(ar (P7 (K:=K) (mg:=mg) (a:=a) T) hr T.AZ (ae (pv 0) (ae (pv 1) af))))) af)))
     (av (aG (ar (ky T) hr T.jD (ae (pv 4) (ae (ar (znJ T) hr T.Gp (ae (pv 0) (ae (pv 1) (ae (pv 5) af)))) af)))))))),?_⟩
 wtm_at "cl";rw[show start Et [x0,x1,x2,x3]=[some x0,some x1,some x2,some x3,none,none]from rfl];obtain⟨ra,rb,ns,xs,n,m,rfl,hr',hn',hx',hl,n0,ok,c,hm,q⟩:=h;have h8:=ok.sz.b8;have hp:=ok.sz.pos;have h60:=ok.b8;have hu:=ok.sz.upTo;obtain⟨n,rfl⟩:∃j:Nat,n=(j:Int):=⟨n.toNat,by omega⟩;rw[wT]at q ok h60 hm;k_few
 . rename_i z
   have hz:n=0:=by omega
   subst hz;exact q _ H (ah.refl _) (dX 0 (T.eI _) rfl rfl)
 . rename_i z
   have h1n:1<=n:=by omega
   have cM:=zwQ ok h1n c;have hml:=Ri ra rb ns xs n;have hne:=CT h1n;have bn:ag 6 ((n:Int):Rat):=R6 h60;refine zzH (λv1 H1 S1 i1=>?_);o_head nM (hr'.by S1) (hn'.by S1) (kA ok.ok ok.sz) (by omega) (by omega) (λv2 H2 S2 i2=>?_);have T2:=S1.trans S2;o_head zjq (a:=ra) (b:=rb) (ns:=ns) i2 (hx'.by T2) (by omega) (by rw[wT];exact ok) hl (λi=>(c.get i).mono (by omega)) (λv3 H3 S3 i3=>?_);rw[wT]at i3;have i13:=i1.by (S2.trans S3);obtain⟨a3,us,rfl,hs3,t3⟩:=bW.mp i3;have hul:=t3.length;rw[wm,zev]at hul;have bw:∀i,ag 8100 ((fA (aB (ra^ns.sum.toNat) 1 n) (GM.sumTo (aB (ra^ns.sum.toNat) 1) n) xs (cZ ra rb ns)).getD i 0):=λi=>((Kv ok c).get i).mono (by omega)
   o_head jl hs3 (o0:=none) (tl:=[some v1]) rfl (λj y H'=>Is K H' y (N ((iG ra rb ns xs n).getD j 0))) ?_ ?_
   . intro D j x ys o H4 hx inv
     obtain⟨hj,ix⟩:=dM t3 hx;rw[zev]at hj;o_head KQ (ix.by inv.same) (i13.by inv.same) ((bw j).mono (by decide)) (bn.mono (by decide)) hne (λv5 H5 S5 i5=>?_);rw[<- Rt hj]at i5;exact eS inv (by omega) f_ ⟨_,rfl⟩ S5 i5
   . intro D ys H4 hn4 S4 e4 hl4 hr4
     have tz:ao K H4 ys ((iG ra rb ns xs n).map N):=gp (by rw[hl4,hul,hml]) hr4;o_head gY (dj e4 tz) (λv5 H5 S5 i5=>?_);have T5:=T2.trans (S3.trans (S4.trans S5));have rok:cS ra rb ns (iG ra rb ns xs n):=⟨ok.ok.ba,ok.ok.bb,λk hk=>by have:=ok.sz.each k hk;omega,by rw[hml];exact hl,by omega,⟨_,cM,by omega⟩⟩;o_head znw (hr'.by T5) (hn'.by T5) i5 rok cM (by omega) (λv6 H6 S6 i6=>?_);have bt:ag 8000 (eZ ra rb ns (iG ra rb ns xs n)):=(Mn rok cM (by omega) (wp _)).fO (wC ..);have i16:=i13.by (S4.trans (S5.trans S6));k_few;rename_i v7 H7 S7 i7;rw[zq0 hl h1n]at i7;exact q v7 H7 (T5.trans (S6.trans S7)) i7
def nX(ts:List Rat):List Bool:=ts.map λx=>decide (1<x)
theorem Z4{ts:List Rat}{i:Nat}(h:i<ts.length):(nX ts).getD i true=decide (1<ts.getD i 0):=by
 unfold nX;rw[wa,wu,wa,wc h]
 rfl
def jt(a b:Rat)(ns:List Int):Bool:=!((nX (cQ a b ns (bR a b ns))).any id)
theorem Zy{a b:Rat}{ns:List Int}(h:aW a b)(k:cE ns)(hF:a^ns.sum.toNat≠1):cS a b ns (bR a b ns):=⟨h.ba,h.bb,λn hn=>by have:=k.each n hn;omega,by rw[lD k.some];have:=k.some;omega,by have:=k.b8;omega,⟨268,MI h.ba h.bb k.b8 k.upTo (by have:=k.sum;omega) hF,by have:=k.b8;have:=k.upTo;omega⟩⟩
def Jm(K:wb):Sp:=λvs H Q _=>∃x0 x1,vs=[x0,x1] /\ ∃(a b:Rat)(ns:List Int),Is K H x0 (R a b)/\Is K H x1 (TZ ns)/\aW a b/\cE ns/\a≠1 /\ ∀H',ah H H'->Q (.bl (jt a b ns)) H'
theorem NR{K:wb}{H:Hp}{Q:VK}{E:XK}{a b:Rat}{ns:List Int}{v w:V}(h1:Is K H v (R a b))(h2:Is K H w (TZ ns))(ok:aW a b)(sz:cE ns)(ha:a≠1)(q:∀H',ah H H'->Q (.bl (jt a b ns)) H'):Jm K [v,w] H Q E:=⟨_,_,rfl,a,b,ns,h1,h2,ok,sz,ha,q⟩
theorem Rz(T:Txt K mg a):aN P w K mg base aU 9 a.Gi a.FK Ay (Jm K):=by
 refine T.AF.F.ok zlq ?_ ?_;wtm_at "b2";refine⟨_,(av (aG (nj (bK (show aK _ (.builtin "any") (Df K)from zvj rfl) rfl T.z_any zBT (ae (eH rfl (cn.by (N':=["top"]) (src:=[none]) rfl (show cK _ (az yg).names yG ["top"] [none]=true from by decide +kernel)) (iM (ar (Pb T) hr T.AY (ae (pv 0) (ae (pv 1) (ae (ar (A_ T) hr T.rR (ae (pv 0) (ae (pv 1) af))) af))))) (λ_ _ _ _ _=>(aZ (i:=0) (show(["top"]:List Str).Nodup from by decide) rfl (Or.inl rfl))) (λ_ _ _ _ _=>eA) (λ_ _ _ _ _=>(ar (gu (K:=K) (mg:=mg) (a:=a) T) hr T.fM (ae (bM (v:=.ref a.dU) rfl T.eU rfl) (ae (pv 0) af))))) af))))),?_⟩;wtm_at "cl";rw[show start yG [x0,x1]=[some x0,some x1]from rfl];obtain⟨ra,rb,ns,hr',hn',ok,sz,ha,q⟩:=h;have h8:=sz.b8;have hps:=sz.pos;have hF:ra^ns.sum.toNat≠1:=λe=>ha ((kT ok (by omega)).mp e)
 have rok:=Zy ok sz hF;o_head Fs hr' hn' (kA ok sz) (by omega) (by omega) (λe=>absurd e hF) (λ_ v1 H1 S1 i1=>?_);o_head KN (hr'.by S1) (hn'.by S1) i1 rok (λv2 H2 S2 i2=>?_);obtain⟨a2,us,rfl,hs2,t2⟩:=bW.mp i2;have hl2:=t2.length;rw[wm,gn]at hl2;refine jl hs2 (o0:=none) (tl:=[]) rfl (λi v H=>v=V.bl ((nX (cQ ra rb ns (bR ra rb ns))).getD i true)) ?_ ?_
 ·rintro D i x ys o H3 hx inv
  obtain⟨hi,ix⟩:=dM t2 hx;rw[gn]at hi;have ix3:=ix.by inv.same;have b1:=LK rok hi;have b2:ag 1 1:=ag.one;k_few;exact eS inv (by omega) (λ_ _ _ _ _ h=>h) ⟨_,rfl⟩ (ah.refl _) (by rw[Z4 (by rw[gn];exact hi)])
 ·rintro D ys H3 hn3 S3 e3 hl3 hr3
  have hz:=zC (bs:=nX (cQ ra rb ns (bR ra rb ns))) (by unfold nX;rw[wm,gn];omega) hr3;rw[hz]at e3;o_head zzg (.of e3) ?_;k_few;exact q _ (S1.trans (S2.trans S3))
def mH(ss:List Rat):List Bool:=ss.map λs=>decide (s=0)
theorem zvk{ts:List Rat}{i:Nat}(h:i<ts.length):(mH ts).getD i true=decide (ts.getD i 0=0):=by
 unfold mH;rw[wa,wu,wa,wc h]
 rfl
def dH(a b:Rat)(ns:List Int)(xs:List Rat):Bool:=if 1<a then decide (xs=bR a b ns)else if a=1 then(mH (cZ a b ns)).all id else jt a b ns
def MX(K:wb):Sp:=λvs H Q _=>∃x0 x1 x2,vs=[x0,x1,x2] /\ ∃(a b:Rat)(ns:List Int)(xs:List Rat),Is K H x0 (R a b)/\Is K H x1 (TZ ns)/\Is K H x2 (TN xs)/\aW a b/\cE ns /\ ∀H',ah H H'->Q (.bl (dH a b ns xs)) H'
theorem znE{K:wb}{H:Hp}{Q:VK}{E:XK}{a b:Rat}{ns:List Int}{xs:List Rat}{v w u:V}(h1:Is K H v (R a b))(h2:Is K H w (TZ ns))(h3:Is K H u (TN xs))(ok:aW a b)(sz:cE ns)(q:∀H',ah H H'->Q (.bl (dH a b ns xs)) H'):MX K [v,w,u] H Q E:=⟨_,_,_,rfl,a,b,ns,xs,h1,h2,h3,ok,sz,q⟩
theorem znM(T:Txt K mg a):aN P w K mg base aU 10 a.Ha a.FW sM (MX K):=by
 refine T.Gr.F.ok LS ?_ ?_;wtm_at "b3"
 refine⟨_,(ak (ay 3 LS.nd (ar (JP T) hr T.AX (ae (pv 0) af)))
     (ak (bV (bZ (show aM _ (wY .Eq) (df K)from d8 hu) (pv 3) dk (bL _)) (av (aG (gU (show aM _ (wY .Eq) (df K)from d8 hu) (dG (show aK _ (.type "tuple") (ee K)from fm) rfl T.z_tuple eG (ae (pv 2) af)) (ar (A_ T) hr T.rR (ae (pv 0) (ae (pv 1) af))) (bL _)))) bY)
     (ak (bV (bZ (show aM _ (wY .Eq) (df K)from d8 hu) (pv 3) dk (bL _)) (av (aG (bK (show aK _ (.builtin "all") (mF K)from Ak rfl) rfl T.z_all yJ (ae (eH rfl (cn.by (N':=["shift"]) (src:=[none]) rfl (show cK _ (az y9).names CP ["shift"] [none]=true from by decide +kernel)) (iM (au (ar (nz T) hr T.kO (ae (pv 0) (ae (pv 1) af))))) (λ_ _ _ _ _=>(aZ (i:=0) (show(["shift"]:List Str).Nodup from by decide) rfl (Or.inl rfl))) (λ_ _ _ _ _=>eA) (λ_ _ _ _ _=>(gU (show aM _ (wY .Eq) (df K)from d8 hu) (pv 0) (bM (v:=.ref a.c_) rfl T.dS rfl) (bL _)))) af)))) bY)
     (av (aG (ar (Rz T) hr T.AF (ae (pv 0) (ae (pv 1) af)))))))),?_⟩
 wtm_at "cl";rw[show start CP [x0,x1,x2]=[some x0,some x1,some x2,none]from rfl];obtain⟨ra,rb,ns,xs,hr',hn',hx',ok,sz,q⟩:=h;have h8:=sz.b8;have h1:=sz.some;have hps:=sz.pos;o_head NN hr' (ok.ba.mono (by decide)) ?_;unfold pB;unfold dH at q
 by_cases z1:1<ra
 . rw[if_pos z1]at q ⊢
   have hF:ra^ns.sum.toNat≠1:=λe=>absurd ((kT ok (by omega)).mp e) (by grind)
   o_head ik _ _ true (by rw[wV];decide) ?_;o_head IZ hx' ?_;o_head Fs hr' hn' (kA ok sz) (by omega) (by omega) (λe=>absurd e hF) (λ_ v1 H1 S1 i1=>?_);o_head DJ (hx'.by S1) i1 ?_;exact q _ S1
 . rw[if_neg z1]at q ⊢
   by_cases z2:ra=1
   . rw[if_pos z2]at q ⊢
     o_head ik _ _ false (by rw[wV];decide) ?_;o_head ik _ _ true (by rw[wV];decide) ?_;o_head nM hr' hn' (kA ok sz) (by omega) (by omega) (λv1 H1 S1 i1=>?_);o_head aH (j:=1) i1 rfl (λv2 i2=>?_);obtain⟨a2,us,rfl,hs2,t2⟩:=bW.mp i2;have hl2:=t2.length;rw[wm]at hl2;have hsl:(cZ ra rb ns).length=ns.length-1:=nE h1;have t2:ao K H1 us ((cZ ra rb ns).map N):=t2;have hl2:us.length=(cZ ra rb ns).length:=hl2;refine jl hs2 (o0:=none) (tl:=[]) rfl (λi v H=>v=V.bl ((mH (cZ ra rb ns)).getD i true)) ?_ ?_
     . rintro D i x ys o H3 hx inv
       obtain⟨hi,ix⟩:=dM t2 hx;have ix3:=ix.by inv.same;k_few;exact eS inv (by omega) (λ_ _ _ _ _ h=>h) ⟨_,rfl⟩ (ah.refl _) (by rw[zvk hi])
     . rintro D ys H3 hn3 S3 e3 hl3 hr3
       have hz:=zC (bs:=mH (cZ ra rb ns)) (by unfold mH;rw[wm];omega) hr3;rw[hz]at e3;o_head pG (.of e3) ?_;exact q _ (S1.trans S3)
   . rw[if_neg z2]at q ⊢
     o_head ik _ _ false (by rw[wV];decide) ?_;o_head ik _ _ false (by rw[wV];decide) ?_;k_few;exact NR hr' hn' ok sz z2 q
theorem kB{a b:Rat}{ns:List Int}{xs:List Rat}(hF:a^ns.sum.toNat≠1)(hl:ns.length=xs.length+1)(k:Nat):bS a b ns k xs=eY ((a^ns.sum.toNat)^k) (bR a b ns) xs:=by
 have hs:(bR a b ns).length=xs.length:=by rw[lD (by omega)];omega
 refine je (by rw[cx,mz hs,hs]) λi hi=>?_
 rw[cx]at hi;rw[gR hs (by omega),j7 hi,zws (zvH hF (by omega))]
theorem ZD{c x y:Rat}(c0:0<c)(c1:c<=1)(h:x<=1)(k:y<1):x+c*(y-x)<1:=by
 have h1:=qE (show 0<=1-c by grind) (show 0<=1-x by grind);have h2:=Vq c0 (show 0<1-y by grind)
 grind
theorem mY{a b:Rat}{ns:List Int}{xs:List Rat} : dP a b ns xs=true ↔ (∀i,i<xs.length+1->(dw xs).getD (i+1) 0<(dw xs).getD i 0) /\ ∀i,i<ns.length->(cQ a b ns xs).getD i 0<1:=by
 unfold dP;rw[w8,WN,WN]
 constructor
 ·rintro ⟨h1,h2⟩
  refine⟨λi hi=>?_,λi hi=>?_⟩
  ·have:=h1 _ (wS.mpr ⟨i,wI.mpr hi,rfl⟩)
   exact of_decide_eq_true this
  ·have:=h2 _ (wS.mpr ⟨_,cU (d:=0) (show i<(cQ a b ns xs).length by rw[gn];exact hi),rfl⟩)
   exact of_decide_eq_true this
 ·rintro ⟨h1,h2⟩
  refine⟨λx hx=>?_,λx hx=>?_⟩
  ·obtain⟨i,hi,rfl⟩:=wS.mp hx
   exact decide_eq_true (h1 i (wI.mp hi))
  ·obtain⟨t,ht,rfl⟩:=wS.mp hx
   obtain⟨i,hi,rfl⟩:=wS.mp ht;have:=h2 i (wI.mp hi);rw[jW (wI.mp hi)]at this;exact decide_eq_true this
theorem Pn{a b:Rat}{ns:List Int}(c:Rat){xs ys:List Rat}(hn:ns.length=xs.length+1)(h:xs.length=ys.length){i:Nat}(hi:i<ns.length):(cQ a b ns (eY c xs ys)).getD i 0=(cQ a b ns xs).getD i 0+c*((cQ a b ns ys).getD i 0-(cQ a b ns xs).getD i 0):=by
 have hm:(i+1) % ns.length<ns.length:=qN _ (by omega);rw[jW hi,jW hi,jW hi,<- Ll c h,D_ a b ns c (by simp[h]) (i+1) (by simp;omega),gR (by rw[cH,cH];simp[h]) (by rw[cH];simp;omega)]
theorem ON:∀l:List Rat,(∀i,i+1<l.length->l.getD (i+1) 0<l.getD i 0)->l.Pairwise (· > ·)
 | [],_=>.nil
 | x::l,h=>by
  have h':∀i,i+1<l.length->l.getD (i+1) 0<l.getD i 0:=λi hi=>by
   have:=h (i+1) (by simp;omega)
   simpa using this
  have hd:∀j,j<l.length->l.getD j 0<x:=λj=>by
   induction j with
   | zero=>intro hj;have:=h 0 (by simp;omega);simpa using this
   | succ j ih=>intro hj;have h3:=h' j hj;have h4:=ih (by omega);grind
  refine Vj.mpr ⟨λy hy=>?_,ON l h'⟩;obtain⟨j,hj,e⟩:=wX hy;have:=hd j hj;rw[wa,wc hj]at this
  show y<x
  rw[<- e];exact this
theorem zwu{l:List Rat}(h:l.Pairwise (· > ·)){i:Nat}(hi:i+1<l.length):l.getD (i+1) 0<l.getD i 0:=by
 rw[wa,wa,wc hi,wc (show i<l.length by omega)];exact(vY.mp h) i (i+1) (by omega) hi (by omega)
theorem mq(xs:List Rat)(i:Nat):(dw xs).getD (i+1) 0=(xs++[0]).getD i 0:=by
 unfold dw;rw[qy]
 rfl
theorem Lc{xs:List Rat}(h:∀i,i<xs.length+1->(dw xs).getD (i+1) 0<(dw xs).getD i 0):g9 (xs++[0])/\(xs++[0]).getD 0 0<1:=by
 have pw:(xs++[0]).Pairwise (· > ·):=ON _ λi hi=>by
  have:=h (i+1) (by simp at hi;omega);rw[mq,mq]at this;exact this
 refine⟨⟨pw,λy hy=>?_⟩,?_⟩
 ·rcases We.mp hy with z | z
  ·exact vX ((qM.mp pw).2.2 y z 0 (w5.mpr rfl))
  ·rw[w5.mp z];exact W1
 ·have:=h 0 (by omega)
  rw[mq]at this;exact this
theorem MJ{xs:List Rat}(pw:(xs++[0]).Pairwise (· > ·))(one:(xs++[0]).getD 0 0<1):∀i,i<xs.length+1->(dw xs).getD (i+1) 0<(dw xs).getD i 0
 | 0,_=>by rw[mq];exact one
 | i+1,hi=>by rw[mq,mq];exact zwu pw (by simp;omega)
theorem EN{a b:Rat}{ns:List Int}{xs:List Rat}(h:ns.length=xs.length+1):cw a b ns xs++[0]=aQ a b ns (xs++[0]) ns.length:=by
 have hl:=lR (a:=a) (b:=b) h;have hr:(aQ a b ns (xs++[0]) ns.length).length=xs.length+1:=by rw[cH];simp
 refine je (by rw[hr,wZ,hl];rfl) λi hi=>?_
 rw[wZ,hl]at hi;have hi:i<xs.length+1:=hi;rcases wz i xs.length with z | z
 ·rw[Ea (by omega),En h z]
 ·have e:i=xs.length:=by omega
  have e2:(cw a b ns xs++[0]).getD i 0=0:=by rw[e,<- hl];exact pM
  rw[e2,e,h,aQ,gv _ _ _ _ _ _ (by rw[cH];simp),if_pos rfl]
theorem PN{a b:Rat}(a0:0<a)(b0:0<=b){ns:List Int}{row:List Rat}(F:g9 row)(one:row.getD 0 0<1)(ia:∀t,t<row.length->dD a b ns row t<1):∀i,i<=row.length->g9 (turned a b ns row i)
 | 0,_=>F
 | i+1,hi=>by
  have ih:=PN a0 b0 F one ia i (by omega)
  have oi:(aQ a b ns row i).getD i 0<1:=by
   cases i with
   | zero=>exact one
   | succ j =>
    have:=ia j (by omega);unfold dD at this;rw[xE (by omega)]at this;exact this
  obtain⟨x,l,ex⟩:∃x l,turned a b ns row i=x::l:=by
   cases e:turned a b ns row i with
   | nil =>
    have:=yx a b ns row (by omega) i;rw[e]at this;simp at this;omega
   | cons x l=>exact⟨x,l,rfl⟩
  have hx:x=(aQ a b ns row i).getD i 0:=by
   have:=yi a b ns row (show i<row.length by omega);rw[ex]at this;exact this
  show g9 (lH a b (ns.getD i 0).toNat (turned a b ns row i))
  rw[ex]at ih ⊢;exact ih.step a0 b0 (by rw[hx];exact oi)
theorem MD{a b:Rat}{ns:List Int}{xs:List Rat}(ok:aW a b)(hn:ns.length=xs.length+1)(f:dP a b ns xs=true):∀i,i<(cw a b ns xs).length+1->(dw (cw a b ns xs)).getD (i+1) 0<(dw (cw a b ns xs)).getD i 0:=by
 obtain⟨h1,h2⟩:=mY.mp f;obtain⟨F,one⟩:=Lc h1;have hl:(xs++[0]).length=ns.length:=by simp[hn]
 have ia:∀t,t<(xs++[0]).length->dD a b ns (xs++[0]) t<1:=λt ht=>by
  have:=h2 t (by omega);rw[jW (by omega)]at this;unfold dD;rw[hl];exact this
 have Fl:=PN ok.a0 ok.b0 F one ia (xs++[0]).length (wp _);rw[hl,RT a b ns _ hl.symm,<- EN hn]at Fl;have t:=ia (ns.length-1) (by omega);unfold dD at t;rw[hl,show ns.length-1+1=ns.length by omega,Nat.mod_self,<- EN hn]at t;exact MJ Fl.pw t
theorem zh{a b:Rat}(h:aW a b){S:Nat}(hS:1<=S)(ha:a<1):0<a^S/\a^S<=1:=by
 obtain⟨m,rfl⟩:∃m,S=m+1:=⟨S-1,by omega⟩;exact⟨lO h.a0 _,vX (Oi h.a0 ha m)⟩
theorem zvm{a b:Rat}{ns:List Int}{xs:List Rat}(ok:aW a b)(sz:cE ns)(hn:ns.length=xs.length+1)(ha:a<1)(d:jt a b ns=true)(f:dP a b ns xs=true):dP a b ns (bS a b ns 1 xs)=true:=by
 have hps:=sz.pos
 have hF:a^ns.sum.toNat≠1:=λe=>by
  have:=(kT ok (by omega)).mp e;rw[this]at ha;exact absurd ha (by decide)
 have hs:(bR a b ns).length=xs.length:=by rw[lD sz.some];omega
 refine mY.mpr ⟨?_,λi hi=>?_⟩
 ·rw[oH hn sz.nn]
  exact MD ok hn f
 ·rw[kB hF hn 1,Pn _ (by omega) hs hi]
  have hp:=zh ok (show 1<=ns.sum.toNat by omega) ha;have e1:(a^ns.sum.toNat)^1=a^ns.sum.toNat:=by rw[WO,VH,ur]
  rw[e1];refine ZD hp.1 hp.2 ?_ ((mY.mp f).2 i hi);unfold jt at d;rw[WT,ui]at d;have:=d (decide (1<(cQ a b ns (bR a b ns)).getD i 0)) (wS.mpr ⟨_,cU (d:=0) (show i<(cQ a b ns (bR a b ns)).length by rw[gn];exact hi),rfl⟩)
  by_cases z:1<(cQ a b ns (bR a b ns)).getD i 0
  ·exact absurd (decide_eq_true z) this
  ·exact VD.mp z
theorem JS(c:Rat)(xs:List Rat):eY c xs xs=xs:=je (mz rfl) λi hi=>by
 rw[mz rfl]at hi;rw[gR rfl hi]
 grind
theorem ZO{a b:Rat}{ns:List Int}{xs:List Rat}(ok:aW a b)(sz:cE ns)(hn:ns.length=xs.length+1)(st:dH a b ns xs=true)(f:dP a b ns xs=true):∀k,dP a b ns (bS a b ns k xs)=true:=by
 have hps:=sz.pos;unfold dH at st
 by_cases z1:1<a
 ·rw[if_pos z1]at st
  have e:=of_decide_eq_true st;have hF:a^ns.sum.toNat≠1:=λe=>absurd ((kT ok (by omega)).mp e) (by grind)
  intro k;rw[kB hF hn k];rw[e]at f ⊢;rw[JS];exact f
 ·rw[if_neg z1]at st
  by_cases z2:a=1
  ·rw[if_pos z2]at st
   intro k
   have e:bS a b ns k xs=xs:=je (cx ..) λi hi=>by
    rw[cx]at hi;have hi':i<(cZ a b ns).length:=by rw[nE (by omega)];omega
    have hz:(cZ a b ns).getD i 0=0:=by
     rw[WN]at st;have:=st _ (wS.mpr ⟨_,cU (d:=0) hi',rfl⟩);exact of_decide_eq_true this
    rw[j7 hi,hz];unfold fb;rw[z2,GM.one_pow',GM.one_pow']
    grind
   rw[e];exact f
  ·rw[if_neg z2]at st
   have ha:a<1:=by
    by_cases h:a<1
    ·exact h
    ·exact absurd (Vk (VD.mp h) (Wp z2)) z1
   intro k
   induction k with
   | zero=>rw[lI];exact f
   | succ k ih =>
    rw[<- C8 a b ns k 1 xs];exact zvm ok sz (by rw[cx];exact hn) ha st ih
def cg(a b:Rat)(ns:List Int)(xs:List Rat)(k:Nat):Bool:=dP a b ns (bS a b ns k xs)
theorem yD{a b:Rat}{ns:List Int}(ok:aW a b)(sz:cE ns){k:Nat}(hk:k<=31):d4 a b ns k:=⟨ok,sz,by omega,by
 have h1:=sz.sum;have h2:(6*ns.sum.toNat+1+1)*k<=50*k:=Wj k (by omega);omega⟩
theorem KW{a b:Rat}{ns:List Int}{xs:List Rat}{m:Nat}(ok:aW a b)(sz:cE ns)(c:Cm m xs){k:Nat}(hk:k<=31):Cm (m+188+102*k) (bS a b ns k xs):=(zB1 (yD ok sz hk) c).mono (by
 have h1:=sz.sum;have h2:(6*ns.sum.toNat+3)*k<=51*k:=Wj k (by omega);omega)
theorem OF{a b:Rat}{ns:List Int}{xs:List Rat}{m:Nat}(ok:aW a b)(sz:cE ns)(hn:ns.length=xs.length+1)(c:Cm m xs)(hm:m<=3700){k:Nat}(hk:k<=30):cS a b ns (bS a b ns k xs):=⟨ok.ba,ok.bb,λn hn=>by have:=sz.each n hn;omega,by rw[cx];exact hn,by have:=sz.b8;omega,⟨_,KW ok sz c (by omega),by have:=sz.b8;have:=sz.upTo;omega⟩⟩
def C3(K:wb)(a:Ad):Sp:=λvs H Q E=>∃x0 x1 x2,vs=[x0,x1,x2] /\ ∃(ra rb:Rat)(ns:List Int)(xs:List Rat),Is K H x0 (R ra rb)/\Is K H x1 (TZ ns)/\Is K H x2 (TN xs)/\aW ra rb/\cE ns/\ns.length=xs.length+1/\cS ra rb ns xs/\(dH ra rb ns xs=false->∃n:Nat,n<=30/\(n=30\/cg ra rb ns xs n=false)/\(∀k,k<=n->cS ra rb ns (bS ra rb ns k xs))/\(∀k,k<n->∀j,ag 6900 ((bS ra rb ns k xs).getD j 0))) /\
 (cg ra rb ns xs 0=false->∀H',ah H H'->Q (.int 0) H') /\
 (cg ra rb ns xs 0=true->dH ra rb ns xs=true->∀H',ah H H'->Q .bG H') /\
 (∀c:Nat,1<=c->c<=30->dH ra rb ns xs=false->(∀k,k<c->cg ra rb ns xs k=true)->cg ra rb ns xs c=false->∀H',ah H H'->Q (.int (c:Int)) H') /\
 (dH ra rb ns xs=false->(∀k,k<=30->cg ra rb ns xs k=true)->∀H',ah H H'->E (.ref a.cJ) none H')
theorem zlo{K:wb}{a:Ad}{H:Hp}{Q:VK}{E:XK}{ra rb:Rat}{ns:List Int}{xs:List Rat}{v w u:V}(h1:Is K H v (R ra rb))(h2:Is K H w (TZ ns))(h3:Is K H u (TN xs))(ok:aW ra rb)(sz:cE ns)(hn:ns.length=xs.length+1)(r0:cS ra rb ns xs)(hb:dH ra rb ns xs=false->∃n:Nat,n<=30/\(n=30\/cg ra rb ns xs n=false)/\(∀k,k<=n->cS ra rb ns (bS ra rb ns k xs))/\(∀k,k<n->∀j,ag 6900 ((bS ra rb ns k xs).getD j 0)))
  (q0:cg ra rb ns xs 0=false->∀H',ah H H'->Q (.int 0) H')
  (q1:cg ra rb ns xs 0=true->dH ra rb ns xs=true->∀H',ah H H'->Q .bG H')
  (q2:∀c:Nat,1<=c->c<=30->dH ra rb ns xs=false->(∀k,k<c->cg ra rb ns xs k=true)->cg ra rb ns xs c=false->∀H',ah H H'->Q (.int (c:Int)) H')
  (q3:dH ra rb ns xs=false->(∀k,k<=30->cg ra rb ns xs k=true)->∀H',ah H H'->E (.ref a.cJ) none H'):C3 K a [v,w,u] H Q E:=⟨_,_,_,rfl,ra,rb,ns,xs,h1,h2,h3,ok,sz,hn,r0,hb,q0,q1,q2,q3⟩
theorem zm5{K:wb}{a:Ad}{H:Hp}{Q:VK}{E:XK}{ra rb:Rat}{ns:List Int}{xs:List Rat}{m:Nat}{v w u:V}(h1:Is K H v (R ra rb))(h2:Is K H w (TZ ns))(h3:Is K H u (TN xs))(ok:aW ra rb)(sz:cE ns)(hn:ns.length=xs.length+1)(c:Cm m xs)(hm:m<=3700)
  (q0:cg ra rb ns xs 0=false->∀H',ah H H'->Q (.int 0) H')
  (q1:cg ra rb ns xs 0=true->dH ra rb ns xs=true->∀H',ah H H'->Q .bG H')
  (q2:∀c:Nat,1<=c->c<=30->dH ra rb ns xs=false->(∀k,k<c->cg ra rb ns xs k=true)->cg ra rb ns xs c=false->∀H',ah H H'->Q (.int (c:Int)) H')
  (q3:dH ra rb ns xs=false->(∀k,k<=30->cg ra rb ns xs k=true)->∀H',ah H H'->E (.ref a.cJ) none H'):C3 K a [v,w,u] H Q E :=
 zlo h1 h2 h3 ok sz hn (by have:=OF ok sz hn c hm (k:=0) (by decide);rw[lI]at this;exact this) (λ_=>⟨30,wp 30,.inl rfl,λk hk=>OF ok sz hn c hm hk,λk hk j=>((KW ok sz c (k:=k) (by omega)).get j).mono (by omega)⟩) q0 q1 q2 q3
theorem zl5(T:Txt K mg a):aN P w K mg base (eJ P w) 11 a.GL a.FT tW (C3 K a):=by
 refine T.Gb.F.pJ pE ?_ ?_;wtm_at "b3"
 refine⟨_,(ak (bV (dR (dh (ar (Bk T) hr T.rH (ae (pv 0) (ae (pv 1) (ae (pv 2) af)))))) (av (aG aA)) bY)
     (ak (bV (dh (ar (znM T) hr T.Gr (ae (pv 0) (ae (pv 1) (ae (pv 2) af))))) (av (aG j8)) bY)
     (ak (ay 3 pE.nd (ar (nz T) hr T.kO (ae (pv 0) (ae (pv 1) af))))
     (ak (ay 4 pE.nd (pv 2))
     (ak (fu uk rfl (ZU rfl T.z_range (ae aA (ae (aD cN (pX rfl T.SU) aA) af))) (aZ (i:=5) pE.nd rfl (Or.inl rfl)) (ak (ay 4 pE.nd (ar (NO T) hr T.AV (ae (pv 3) (ae (pv 4) (ae aA af)))))
     (av (bV (dR (dh (ar (Bk T) hr T.rH (ae (pv 0) (ae (pv 1) (ae (pv 4) af)))))) (av (aG (pv 5))) bY))))
     (av (Kr T.Te rfl rfl T.Hu OR (ae dk af)))))))),?_⟩
 wtm_at "cl";rw[show start P_ [x0,x1,x2]=[some x0,some x1,some x2,none,none,none]from rfl];obtain⟨ra,rb,ns,xs,hr',hn',hx',ok,sz,hn,r0,hb,q0,q1,q2,q3⟩:=h;have h8:=sz.b8;have h1:=sz.some;have hps:=sz.pos;have e0:cg ra rb ns xs 0=dP ra rb ns xs:=by unfold cg;rw[lI]
 o_head Bp hr' hn' hx' r0 (λH1 S1=>?_);k_few
 . rename_i z
   exact q0 (by rw[e0];exact z) H1 S1
 . rename_i z
   have hr1:=hr'.by S1;have hn1:=hn'.by S1;have hx1:=hx'.by S1;refine znE hr1 hn1 hx1 ok sz (λH2 S2=>?_);k_few
   . rename_i y
     exact q1 (by rw[e0];exact z) y H2 (S1.trans S2)
   . rename_i y
     have y:dH ra rb ns xs=false:=by first | exact y | exact uK _ ▸ y
     obtain⟨n,n30,stop,rd,bd⟩:=hb y;refine nM (hr1.by S2) (hn1.by S2) (kA ok sz) (by omega) (by omega) (λv3 H3 S3 i3=>?_);have T3:ah H H3:=S1.trans (S2.trans S3);have hr3:=hr'.by T3;have hn3:=hn'.by T3;have hx3:=hx'.by T3;clear hr1 hn1 hx1 S1 S2 S3;o_head Yz ?_;o_head zr6 (lo:=1) (hi:=31) (by decide) (by decide) (by decide) (by decide) (λi σ H'=>∃(v:V)(o:Option V),σ = [some x0,some x1,some x2,some v3,some v,o]/\ah H3 H'/\Is K H' v (TN (bS ra rb ns i xs)) /\ ∀k,k<=i->cg ra rb ns xs k=true) ⟨_,_,rfl,ah.refl _,by rw[lI];exact hx3,λk hk=>by rw[show k=0 by omega,e0];exact z⟩ ?_ ?_
     . rintro i σ H4 hi ⟨v,o,rfl,S4,iv,fr⟩
       have hi:i<30:=hi;have i34:=i3.by S4
       have hin:i<n:=by
         rcases stop with e | e
         . omega
         . rcases wz i n with u | u
           . exact u
           . rw[fr n u]at e;cases e
       o_head Pa (ss:=cZ ra rb ns) i34 iv (by decide) (by decide) (by rw[nE h1,cx];omega) (by rw[cx];omega) ((jH ok _).mono (by have:=sz.sum;omega)) (λj hj=>((yD ok sz (k:=1) (by decide)).pow hj).mono (by decide)) (λj hj=>((yD ok sz (k:=1) (by decide)).aB hj).mono (by decide)) (λj=>bd i hin j) (λj=>(Cs ok sz j).mono (by decide)) (λv5 H5 S5 i5=>?_);have i5:Is K H5 v5 (TN (bS ra rb ns 1 (bS ra rb ns i xs))):=i5;rw[C8]at i5;have T5:=S4.trans S5;o_head Bp (hr3.by T5) (hn3.by T5) i5 (rd (i+1) (by omega)) (λH6 S6=>?_);have T6:=T5.trans S6;k_few
       . rename_i w
         have q:=q2 (i+1) (by omega) (by omega) y (λk hk=>fr k (by omega)) (by unfold cg;exact w) H6 (T3.trans T6);rw[show((i+1:Nat):Int)=1+(i:Int) by omega]at q;exact q
       . rename_i w
         refine⟨_,_,rfl,T6,i5.by S6,λk hk=>?_⟩;rcases wz k (i+1)with u | u
         . exact fr k (by omega)
         . have:k=i+1:=by omega
           subst this;unfold cg
           first | exact w | exact Bool.not_eq_false _ ▸ w
     . rintro σ H4 ⟨v,o,rfl,S4,iv,fr⟩
       k_few;exact⟨by simp;decide,q3 y (λk hk=>fr k hk) H4 (T3.trans S4)⟩
theorem Fq{a b:Rat}(ok:aW a b){xs ps:List Rat}{fl:Nat->Nat}{ns:List Int}(L:eO xs (ps++[0]) fl ns)(hn:ns.length=ps.length+1)(f:dP a b ns ps=true) :
  eO (aj a b xs ns.length) (cw a b ns ps++[0]) fl ns/\(∀t,t<ns.length->cf a b (aj a b xs t)=[br xs.length fl t])/\aS a b xs ns.length=eZ a b ns ps:=by
 have hl:(ps++[0]).length=ns.length:=by simp[hn]
 have ia:∀t,t<(ps++[0]).length->dD a b ns (ps++[0]) t<1:=λt ht=>by
  have:=(mY.mp f).2 t (by omega);rw[jW (by omega)]at this;unfold dD;rw[hl];exact this
 obtain⟨P,F,_,W⟩:=rl ok.a0 ok.b0 L _ (wp _) ia;have ht:=Sd ok.a0 ok.b0 L _ (wp _) ia;rw[hl]at P W ht;rw[<- EN hn]at P;have st:=Lc (MD ok hn f);have hbl:=lR (a:=a) (b:=b) hn;have hbl2:(cw a b ns ps++[0]).length=(ps++[0]).length:=by simp[hbl]
 have hpl:=bP a b xs ns.length;refine⟨⟨P,st.1,st.2,by rw[hbl2];exact L.len,λc hc=>?_,λc hc=>?_⟩,W,?_⟩
 ·rw[hpl];exact L.some c (by omega)
 ·rw[hpl];exact L.size c (by omega)
 ·rw[ht];rfl
theorem mQ{a b:Rat}(ok:aW a b){xs ps:List Rat}{fl:Nat->Nat}{ns:List Int}(L:eO xs (ps++[0]) fl ns)(hn:ns.length=ps.length+1)(n0:∀n∈ns,0<=n):∀k,(∀j,j<k->cg a b ns ps j=true) ->
  eO (aj a b xs (k*ns.length)) (bS a b ns k ps++[0]) fl ns/\aS a b xs (k*ns.length)=oR a b ns ps k
 | 0,_=>by
  rw[QQ,lI];exact⟨L,rfl⟩
 | k+1,h=>by
  obtain⟨Lk,Hk⟩:=mQ ok L hn n0 k λj hj=>h j (by omega)
  have hl:ns.length=(bS a b ns k ps).length+1:=by rw[cx];exact hn
  obtain⟨L1,_,H1⟩:=Fq ok Lk hl (h k (by omega));rw[eF,<- oH hl n0,C8]at L1;have e:(k+1)*ns.length=k*ns.length+ns.length:=Qp ..;rw[e];refine⟨L1,?_⟩;rw[<- mB,Hk,H1]
  rfl
theorem Rl{a b:Rat}(a0:0<a)(b0:0<=b){xs row:List Rat}{fl:Nat->Nat}{ns:List Int}(L:eO xs row fl ns):∀n,n<=row.length->(¬ ∀t,t<n->dD a b ns row t<1)->∃t,t<n/\1<(cf a b (aj a b xs t)).length
 | 0,_,z=>absurd (λt ht=>by omega) z
 | n+1,hn,z=>by
  by_cases y:∀t,t<n->dD a b ns row t<1
  ·refine⟨n,by omega,MF a0 b0 L (by omega) y (λu=>z λt ht=>?_)⟩
   rcases wz t n with k | k
   ·exact y t k
   ·have:t=n:=by omega
    rw[this];exact u
  ·obtain⟨t,h1,h2⟩:=Rl a0 b0 L n (by omega) y
   exact⟨t,by omega,h2⟩
theorem RY{a b:Rat}(ok:aW a b){xs ps:List Rat}{fl:Nat->Nat}{ns:List Int}(L:eO xs (ps++[0]) fl ns)(hn:ns.length=ps.length+1)(f:dP a b ns ps=false):∃t,t<ns.length/\1<(cf a b (aj a b xs t)).length:=by
 have hl:(ps++[0]).length=ns.length:=by simp[hn]
 refine Rl ok.a0 ok.b0 L ns.length (by omega) λz=>?_
 have:dP a b ns ps=true:=mY.mpr ⟨MJ L.mh.pw L.one,λi hi=>by
  have:=z i hi;unfold dD at this;rw[hl]at this;rw[jW hi];exact this⟩
 rw[f]at this;cases this
theorem zzq{xs row:List Rat}{fl:Nat->Nat}{ns:List Int}{n:Nat}(L:eO xs row fl ns)(hn:xs.length=n):((wx n).map λw=>row.getD (fl w) 0)=xs:=by
 refine je (by simp[hn]) λw hw=>?_
 have hw:w<n:=by simpa using hw
 rw[L.pl.at' w (by omega),wa,wu,vZ hw]
 rfl
theorem CQ{xs:List Rat}(h1:1<=xs.length)(h8:xs.length<=8):cE (aE xs):=by
 have hs:=oS xs;have hv:=kC xs;have hp:=nO h1;refine⟨by omega,by omega,λn hn=>?_,?_⟩
 ·have h2:=zs2 xs n hn
  refine⟨?_,by omega⟩;obtain⟨v,hv,rfl⟩:=wS.mp hn;have hm:=jw hv;obtain⟨j,hj,e⟩:=wX hm;have:j∈eQ xs v:=ve.mpr ⟨wI.mpr hj,decide_eq_true (by rw[wa,wc hj];exact e)⟩;have:=qt this;omega
 ·have h3:=Ej xs
  have:=yp (sk xs);omega
def kb(a b:Rat)(xs:List Rat)(r:Nat):Prop:=∀k,k<r->cg a b (aE xs) (aX xs) k=true
structure eT(a b:Rat)(xs:List Rat):Prop where
 ok:aW a b
 h1:1<=xs.length
 h8:xs.length<=8
 hp:cz xs
 h0:0∈xs
 cm:Cm 3600 xs
def Rr(K:wb):Sp:=λvs H Q _=>∃x0 x1,vs=[x0,x1] /\ ∃(a b:Rat)(xs:List Rat)(r:Nat),x1=.int (r:Int)/\Is K H x0 (bA a b xs)/\eT a b xs/\r<=30/\kb a b xs r /\ ∀v H',ah H H'->Is K H' v (BD a b xs (r*(ai xs).length))->Q v H'
theorem CK{K:wb}{H:Hp}{Q:VK}{E:XK}{a b:Rat}{xs:List Rat}{r:Nat}{v:V}(h:Is K H v (bA a b xs))(ok:eT a b xs)(h30:r<=30)(f:kb a b xs r)(q:∀v H',ah H H'->Is K H' v (BD a b xs (r*(ai xs).length))->Q v H'):Rr K [v,.int (r:Int)] H Q E:=⟨_,_,rfl,a,b,xs,r,rfl,h,ok,h30,f,q⟩
theorem BL{K:wb}{H:Hp} : ∀{xs:List Rat}{us:List V},ao K H us (xs.map N)->∃cs:List wf,us=cs.map V.ref
 | [],us,h=>⟨[],fq.mp h⟩
 | x::xs,us,h=>by
  obtain⟨v,r,rfl,iv,t⟩:=dg.mp h;obtain⟨a,_,rfl,_,_⟩:=bW.mp (show Is K H v (.tuple _)from iv);obtain⟨cs,rfl⟩:=BL t;exact⟨a::cs,rfl⟩
def fH(x:Rat):List Int:=[x.num,(x.den:Int)]
theorem zx7{x y:Rat}(h:fH x=fH y):x=y:=by
 unfold fH at h
 injection h with h1 h2
 injection h2 with h2 _
 exact Uk h1 (by omega)
theorem Yp{xs:List Rat}(h:xs.Nodup):(xs.map fH).Nodup:=by
 unfold List.Nodup at *;rw[qz];exact h.imp λ{a b} n e=>n (zx7 e)
theorem Nk{xs:List Rat}{j:Nat}(h:j<xs.length):(xs.map fH).getD j []=fH (xs.getD j 0):=by
 rw[wa,wu,wa,wc h]
 rfl
theorem zu2{ks:List (List Int)}{us ws:List wf}(nd:ks.Nodup)(hl:ks.length=us.length){j:Nat}(hj:j<us.length):lJ (gc ks us ws) (ks.getD j [])=some (ws.getD j 0):=by
 unfold lJ gc;rw[List.find?_map];have pw:=vY.mp nd;cases e:(wx us.length).find? ((λx:NE=>decide (x.1=ks.getD j [])) ∘ λj=>(ks.getD j [],us.getD j 0,ws.getD j 0))with
 | none =>
  have:=List.find?_eq_none.mp e j (wI.mpr hj);simp at this
 | some i =>
  have hm:=wI.mp (xy e);have hp:=Ud e;have hp:ks.getD i []=ks.getD j []:=of_decide_eq_true hp;have hi:i<ks.length:=by omega
  have hj':j<ks.length:=by omega
  rw[wa,wa,wc hi,wc hj']at hp
  have hij:i=j:=by
   rcases WS i j with z | z | z
   ·exact absurd hp (pw i j hi hj' z)
   ·exact z
   ·exact absurd hp.symm (pw j i hj' hi z)
  rw[hij];rfl
theorem zvN{K:wb}{H:Hp}{xs:List Rat}{cs ws:List wf}(t:ao K H (cs.map V.ref) (xs.map N)):AA K H (gc (xs.map fH) cs ws):=by
 intro x hx;obtain⟨j,hj,rfl⟩:=wS.mp hx;have hj:=wI.mp hj;have hl:=t.length;simp only[wm]at hl;have:=(dM t (i:=j) (x:=.ref (cs.getD j 0)) (by rw[wu,wa,wc hj];rfl)).2
 show Is K H (.ref (cs.getD j 0)) (TZ ((xs.map fH).getD j []))
 rw[Nk (by omega)];exact this
theorem Jr(T:Txt K mg a):aN P w K mg base aU 9 a.Gd a.FG zc (Rr K):=by
 refine T.AE.F.ok oK ?_ ?_;wtm_at "b2"
 refine⟨_,(ak (ay 2 oK.nd (jO (oI T) hr T.me oX (ae (pv 0) af)))
     (ak (ay 3 oK.nd (ar (zkc T) hr T.FO (ae (au (pv 0)) (ae (au (pv 2)) (ae (au (pv 2)) (ae (pv 1) af))))))
     (ak (ay 4 oK.nd (zwP rfl (Vi (XE (by decide) _) hu) rfl T.z_dict rfl T.z_zip (ae (aD (show aM _ (Vd .Add) (yV K)from Nm) (au (pv 2)) (bC (ae (bM (v:=.ref a.c_) rfl T.dS rfl) af))) (ae (aD (show aM _ (Vd .Add) (yV K)from Nm) (pv 3) (bC (ae (bM (v:=.ref a.c_) rfl T.dS rfl) af))) af))))
     (ak (ay 5 oK.nd (dG (show aK _ (.type "tuple") (ee K)from fm) rfl T.z_tuple eG (ae (eH rfl (cn.by (N':=["phase","now"]) (src:=[none,some 4]) rfl (show cK _ (az sE).names Dx ["phase","now"] [none,some 4]=true from by decide +kernel)) (iM (au (pv 0))) (λ_ _ _ _ _=>(aZ (i:=0) (show(["phase","now"]:List Str).Nodup from by decide) rfl (Or.inl rfl))) (λ_ _ _ _ _=>eA) (λ_ _ _ _ _=>(show PE _ _ (BI K _ _)from(zwU (by exact(Vi (XE (by decide) _) hu)) (pv 1) (pv 0) (λ_ _=>rfl))))) af)))
     (av (aG (bC (ae (ar (zmS T) hr T.FX (ae (au (pv 0)) (ae (au (pv 2)) (ae (au (pv 2)) (ae (pv 1) af))))) (ae (bC (ae (au (pv 0)) (ae (pv 5) af))) af))))))))),?_⟩
 wtm_at "cl";rw[show start Dx [x0,x1]=[some x0,some x1,none,none,none,none]from rfl];obtain⟨ra,rb,xs,r,rfl,hw,ok,h30,fr,q⟩:=h;have hz:aX xs++[0]=ai xs:=DI ok.hp ok.h0;have h1:=ok.h1;have h8:=ok.h8;have sz:=CQ h1 h8;have hsl:=oS xs;have hvl:=kC xs;have hvp:=nO h1;have hpl:(aX xs).length+1=(ai xs).length:=by rw[<- hz];simp
 have hn:(aE xs).length=(aX xs).length+1:=by omega
 have L:eO xs (aX xs++[0]) (aO xs) (aE xs):=by rw[hz];exact CL ok.hp.nn ok.hp.lt
 obtain⟨Lr,Hr⟩:=mQ ok.ok L hn (sk xs) r fr;rw[hsl]at Lr Hr;have hel:=zzq Lr (bP ra rb xs _);have bx:∀i,ag 4000 (xs.getD i 0):=λi=>(ok.cm.get i).mono (by decide)
 have cp:Cm 3600 (aX xs):=pQ ok.cm;have hlk:d4 ra rb (aE xs) ((r:Int)).toNat:=by rw[wT];exact yD ok.ok sz (by omega)
 have hbp:∀i,ag 6900 ((aX xs).getD i 0):=λi=>(cp.get i).mono (by decide)
 o_head rm hw h8 bx (λz=>absurd ok.h0 z) (λ_ vl H1 S1 il=>?_);have hw1:=hw.by S1;o_head aH (j:=0) hw1 rfl (λvr ir=>?_);o_head aH (j:=0) il rfl (λvz iz=>?_);o_head aH (j:=1) il rfl (λvp ip=>?_);o_head zkA ir iz ip hn (by omega) hlk hbp (λv2 H2 S2 i2=>?_);rw[wT]at i2;o_head aH (j:=1) (il.by S2) rfl (λvp2 ip2=>?_);o_head cc (ds:=[N 0]) (by simp) (.cons (dX 0 (T.eI _) rfl rfl) .nil) (λv3 H3 S3 i3=>?_);refine Kh (ip2.by S3) i3 (by rw[wm];simp;omega) (λv4 H4 S4 i4=>?_);o_head cc (ds:=[N 0]) (by simp) (.cons (dX 0 (T.eI _) rfl rfl) .nil) (λv5 H5 S5 i5=>?_);have S25:=S3.trans (S4.trans S5);refine Kh (i2.by S25) i5 (by rw[wm,cx];simp;omega) (λv6 H6 S6 i6=>?_)
 have i46:Is K H6 v4 (TN (ai xs)):=by
   have:=i4.by (S5.trans S6);rw[<- hz];unfold TN;rw[vx];exact this
 have i66:Is K H6 v6 (TN (bS ra rb (aE xs) r (aX xs)++[0])):=by
   unfold TN;rw[vx];exact i6
 have S16:=S2.trans (S25.trans S6);have hw6:=hw1.by S16;have il6:=il.by S16;have T6:=S1.trans S16;clear hw hw1 il ir iz ip i2 ip2 i3 i4 i5 i6 S1 S2 S3 S4 S5 S6 S25 S16;have hrl:(bS ra rb (aE xs) r (aX xs)++[0]).length=(ai xs).length:=by rw[wZ,cx];simp;omega
 generalize bS ra rb (aE xs) r (aX xs)++[0]=row at *;obtain⟨aa,us,rfl,hs1,tu⟩:=bW.mp i46;obtain⟨ab,ws,rfl,hs2,tw⟩:=bW.mp i66;obtain⟨cs,rfl⟩:=BL tu;obtain⟨ds,rfl⟩:=BL tw;have hcl:=tu.length;have hdl:=tw.length;simp only[wm]at hcl hdl;have nd:=Yp (ET xs);have hkl:((ai xs).map fH).length=cs.length:=by rw[wm];omega
 o_head ⟨aa,ab,(ai xs).map fH,cs,ds,rfl,hs1,hs2,by omega,by omega,?_,nd,λD ep hD=>?_⟩
 . rw[WH]
   exact tu
 . have S7:ah H6 (upd H6 D (g_ D ep (gc ((ai xs).map fH) cs ds))):=ah.upd hD
   have e7:upd H6 D (g_ D ep (gc ((ai xs).map fH) cs ds)) D=some (g_ D ep (gc ((ai xs).map fH) cs ds)):=cT;generalize upd H6 D (g_ D ep (gc ((ai xs).map fH) cs ds))=H7 at *;have tu7:ao K H7 (cs.map V.ref) ((ai xs).map N):=ao.same S7 _ _ tu;have tw7:ao K H7 (ds.map V.ref) (row.map N):=ao.same S7 _ _ tw;have hw7:=hw6.by S7;o_head aH (j:=1) hw7 rfl (λvq iq=>?_);obtain⟨aq,uq,rfl,hsq,tq⟩:=bW.mp iq;have hql:=tq.length;rw[wm]at hql;refine jl hsq (o0:=none) (tl:=[some (.ref D)]) rfl (λj y H'=>Is K H' y (N (((wx xs.length).map λw=>row.getD (aO xs w) 0).getD j 0))) ?_ ?_
   . intro D' j x ys o H8 hx inv
     obtain⟨hj,ix⟩:=dM tq hx;have S8:=inv.same;obtain⟨ax,_,rfl,_,_⟩:=bW.mp (show Is K H7 x (.tuple _)from ix);have hfl:=(ku xs).lt j hj;have hxe:xs.getD j 0=(ai xs).getD (aO xs j) 0:=(ku xs).at' j hj;o_head ⟨D,ax,ep,_,fH (xs.getD j 0),ds.getD (aO xs j) 0,rfl,rfl,S8 _ _ e7,zvN (ao.same S8 _ _ tu7),ix.by S8,?_,?_⟩
     . rw[hxe,<- Nk hfl]
       exact zu2 nd hkl (by omega)
     . refine eS inv (by omega) f_ ⟨_,rfl⟩ (ah.refl _) ?_
       have hr:((wx xs.length).map λw=>row.getD (aO xs w) 0).getD j 0=row.getD (aO xs j) 0:=by
         rw[wa,wu,vZ hj];rfl
       rw[hr];exact(dM tw7 (i:=aO xs j) (x:=.ref (ds.getD (aO xs j) 0)) (by rw[wu,wa,wc (by omega)];rfl)).2.by S8
   . intro D' ys H8 n8 S8 e8 hl8 hr8
     have t8:ao K H8 ys (((wx xs.length).map λw=>row.getD (aO xs w) 0).map N):=gp (by rw[hl8,hql];simp) hr8;rw[hel]at t8;o_head gY (dj e8 t8) (λv9 H9 S9 i9=>?_);have S69:=S7.trans (S8.trans S9);o_head aH (j:=0) (hw6.by S69) rfl (λvr9 ir9=>?_);o_head aH (j:=0) (il6.by S69) rfl (λvz9 iz9=>?_);o_head aH (j:=1) (il6.by S69) rfl (λvp9 ip9=>?_);k_few
     refine U7 ir9 iz9 ip9 hn (by omega) hlk cp (by
       have h5:=sz.sum;rw[wT];have:(6*(aE xs).sum.toNat+3)*r<=51*30:=V4 (by omega) h30;omega) (λv10 H10 S10 i10=>?_)
     rw[wT,<- Hr]at i10;o_head aH (j:=0) (hw6.by (S69.trans S10)) rfl (λvr10 ir10=>?_);o_head cc (ds:=[R ra rb,TN (aj ra rb xs (r*(ai xs).length))]) (by simp) (.cons ir10 (.cons (i9.by S10) .nil)) (λv11 H11 S11 i11=>?_);o_head cc (ds:=[N (aS ra rb xs (r*(ai xs).length)),bA ra rb (aj ra rb xs (r*(ai xs).length))]) (by simp) (.cons (i10.by S11) (.cons i11 .nil)) (λv12 H12 S12 i12=>?_);exact q v12 H12 (T6.trans (S69.trans (S10.trans (S11.trans S12)))) i12
def MK(K:wb):Sp:=λvs H Q _=>∃x0 x1 x2,vs=[x0,x1,x2] /\ ∃(a b:Rat)(xs:List Rat)(r g:Nat),x1=.int (r:Int)/\x2=.int (g:Int)/\Is K H x0 (bA a b xs)/\aW a b/\1<=xs.length/\xs.length<=8/\(1<=r->eT a b xs/\r<=30/\kb a b xs r)/\g<=40/\ag 8000 (aS a b xs (r*(ai xs).length))/\(∀i,i<=g->Cm 3700 (aS a b (aj a b xs (r*(ai xs).length)) i::aj a b (aj a b xs (r*(ai xs).length)) i)) /\ ∀v H',ah H H'->Is K H' v (BD a b xs (r*(ai xs).length+g))->Q v H'
theorem YQ{K:wb}{H:Hp}{Q:VK}{E:XK}{a b:Rat}{xs:List Rat}{r g:Nat}{v:V}(h:Is K H v (bA a b xs))(ok:aW a b)(h1:1<=xs.length)(h8:xs.length<=8)(f:1<=r->eT a b xs/\r<=30/\kb a b xs r)(hg:g<=40)(c:ag 8000 (aS a b xs (r*(ai xs).length)))(c2:∀i,i<=g->Cm 3700 (aS a b (aj a b xs (r*(ai xs).length)) i::aj a b (aj a b xs (r*(ai xs).length)) i))(q:∀v H',ah H H'->Is K H' v (BD a b xs (r*(ai xs).length+g))->Q v H'):MK K [v,.int (r:Int),.int (g:Int)] H Q E:=⟨_,_,_,rfl,a,b,xs,r,g,rfl,rfl,h,ok,h1,h8,f,hg,c,c2,q⟩
theorem Yv(T:Txt K mg a):aN P w K mg base aU 10 a.G1 a.F8 zS (MK K):=by
 refine T.Gk.F.ok A7 ?_ ?_;wtm_at "b3"
 refine⟨_,(ak (ay 3 A7.nd (yw (bZ lB (pv 1) aA (bL _)) (ar (Jr T) hr T.AE (ae (pv 0) (ae (pv 1) af))) (bC (ae (bM (v:=.ref a.c_) rfl T.dS rfl) (ae (pv 0) af)))))
     (ak (ay 4 A7.nd (ar (zvu T) hr T.HD (ae (au (pv 3)) (ae (pv 2) af))))
     (av (aG (bC (ae (ar (gr T) hr T.fN (ae (au (pv 3)) (ae (au (pv 4)) af))) (ae (au (pv 4)) af))))))),?_⟩
 wtm_at "cl";rw[show start Lh [x0,x1,x2]=[some x0,some x1,some x2,none,none]from rfl];obtain⟨ra,rb,xs,r,g,rfl,rfl,hw,ok,h1,h8,f,hg,c,c2,q⟩:=h;k_few
 . rename_i z
   obtain⟨sw,h30,fr⟩:=f (by omega);refine CK hw sw h30 fr (λv1 H1 S1 i1=>?_);o_head aH (j:=1) i1 rfl (λv2 i2=>?_);o_head NA i2 ok.ba ok.bb (by rw[bP];exact h1) (by rw[bP];exact h8) (by omega) (by omega) (by rw[wT];exact c2) (λv3 H3 S3 i3=>?_);rw[wT]at i3;have i13:=i1.by S3;o_head aH (j:=0) i13 rfl (λv4 i4=>?_);o_head aH (j:=0) i3 rfl (λv5 i5=>?_);have b5:ag 3700 (aS ra rb (aj ra rb xs (r*(ai xs).length)) g):=(c2 g (wp _)).fO (wC ..);k_few;rename_i v6 H6 S6 i6;refine aH (j:=1) (i3.by S6) rfl (λv7 i7=>?_);k_few;rw[mB]at i6;rw[eF]at i7;refine cc (ds:=[N (aS ra rb xs (r*(ai xs).length+g)),bA ra rb (aj ra rb xs (r*(ai xs).length+g))]) (by simp) (.cons i6 (.cons i7 .nil)) (λv8 H8 S8 i8=>?_);exact q v8 H8 (S1.trans (S3.trans (S6.trans S8))) i8
 . rename_i z
   have hr0:r=0:=by omega
   refine cc (ds:=[N 0,bA ra rb xs]) (by simp) (.cons (dX 0 (T.eI _) rfl rfl) (.cons hw .nil)) (λv1 H1 S1 i1=>?_);have i1:Is K H1 v1 (BD ra rb xs (r*(ai xs).length)):=by rw[hr0,QQ];exact i1
   o_head aH (j:=1) i1 rfl (λv2 i2=>?_);o_head NA i2 ok.ba ok.bb (by rw[bP];exact h1) (by rw[bP];exact h8) (by omega) (by omega) (by rw[wT];exact c2) (λv3 H3 S3 i3=>?_);rw[wT]at i3;have i13:=i1.by S3;o_head aH (j:=0) i13 rfl (λv4 i4=>?_);o_head aH (j:=0) i3 rfl (λv5 i5=>?_);have b5:ag 3700 (aS ra rb (aj ra rb xs (r*(ai xs).length)) g):=(c2 g (wp _)).fO (wC ..);k_few;rename_i v6 H6 S6 i6;refine aH (j:=1) (i3.by S6) rfl (λv7 i7=>?_);k_few;rw[mB]at i6;rw[eF]at i7;refine cc (ds:=[N (aS ra rb xs (r*(ai xs).length+g)),bA ra rb (aj ra rb xs (r*(ai xs).length+g))]) (by simp) (.cons i6 (.cons i7 .nil)) (λv8 H8 S8 i8=>?_);exact q v8 H8 (S1.trans (S3.trans (S6.trans S8))) i8
def cD(a b:Rat)(xs:List Rat):Option String :=
 if(ai xs).length=1 then some "one"
 else if dP a b (aE xs) (aX xs)=true then
  if cw a b (aE xs) (aX xs)=aX xs then some "rests"
  else if a<1/\jt a b (aE xs)=true then some "drawn" else none
 else none
def LB:Option String->V
 | none=>.bG
 | some s=>.str (vA s)
def J6(K:wb):Sp:=λvs H Q _=>∃x0,vs=[x0] /\ ∃(a b:Rat)(xs:List Rat),Is K H x0 (bA a b xs)/\eT a b xs /\ ∀H',ah H H'->Q (LB (cD a b xs)) H'
theorem zr7{K:wb}{H:Hp}{Q:VK}{E:XK}{a b:Rat}{xs:List Rat}{v:V}(h:Is K H v (bA a b xs))(ok:eT a b xs)(q:∀H',ah H H'->Q (LB (cD a b xs)) H'):J6 K [v] H Q E:=⟨_,rfl,a,b,xs,h,ok,q⟩
theorem eT.round{a b:Rat}{xs:List Rat}(h:eT a b xs):cS a b (aE xs) (aX xs)/\cE (aE xs)/\(aE xs).length=(aX xs).length+1:=by
 have hz:aX xs++[0]=ai xs:=DI h.hp h.h0;have h8:=h.h8;have sz:=CQ h.h1 h8;have hsl:=oS xs;have hvl:=kC xs;have hsu:=Fh xs;have hpl:(aX xs).length+1=(ai xs).length:=by rw[<- hz];simp
 refine⟨⟨h.ok.ba,h.ok.bb,λn hn=>by have:=sz.each n hn;omega,by omega,by omega,⟨3600,pQ h.cm,by omega⟩⟩,sz,by omega⟩
theorem zsY(T:Txt K mg a):aN P w K mg base aU 10 a.Ii a.G8 sJ (J6 K):=by
 refine T.Hx.F.ok RK ?_ ?_;wtm_at "b1"
 refine⟨_,(ak (bV (bZ (show aM _ (wY .Eq) (df K)from d8 hu) (bK (show aK _ (.builtin "len") (cP K)from eC) rfl T.z_len dQ (ae (ar (Ci T) hr T.rM (ae (pv 0) af)) af)) aA (bL _)) (av (aG dk)) bY)
     (ak (bV (dR (dh (ar (Kj T) hr T.AU (ae (pv 0) af)))) (av (aG j8)) bY)
     (ak (ay 1 RK.nd (jO (oI T) hr T.me oX (ae (pv 0) af)))
     (ak (bV (dR (dh (ar (Bk T) hr T.rH (ae (au (pv 0)) (ae (au (pv 1)) (ae (au (pv 1)) af)))))) (av (aG j8)) bY)
     (ak (bV (bZ (show aM _ (wY .Eq) (df K)from d8 hu) (ar (Js T) hr T.AG (ae (au (pv 0)) (ae (au (pv 1)) (ae (au (pv 1)) af)))) (au (pv 1)) (bL _)) (av (aG dk)) bY)
     (ak (bV (PW.pt (zJ (bZ (show aM _ (wY .Eq) (df K)from d8 hu) (ar (JP T) hr T.AX (ae (au (pv 0)) af)) dk (bL _)) (yr (dh (ar (Rz T) hr T.AF (ae (au (pv 0)) (ae (au (pv 1)) af))))))) (av (aG dk)) bY)
     (av (aG j8)))))))),?_⟩
 wtm_at "cl";rw[show start Lx [x0]=[some x0,none]from rfl];obtain⟨ra,rb,xs,hw,ok,q⟩:=h;obtain⟨rok,sz,hn⟩:=ok.round;have h8:=ok.h8;have bx:∀i,ag 4000 (xs.getD i 0):=λi=>(ok.cm.get i).mono (by decide)
 have bp:∀i,ag 4000 ((aX xs).getD i 0):=λi=>((pQ ok.cm).get i).mono (by decide)
 unfold cD at q;o_head BB hw h8 bx (λlf H1 us1 n1 S1 e1 t1=>?_);have hul:=t1.length;rw[wm]at hul;have hw1:=hw.by S1;o_head jM (.of e1) ?_;rw[hul];k_few
 . rename_i z
   have z:(ai xs).length=1:=by omega
   rw[if_pos z]at q;exact q _ S1
 . rename_i z
   have z:¬ (ai xs).length=1:=by omega
   rw[if_neg z]at q;refine MY hw1 ?_;rw[decide_eq_true ok.h0];o_head rm hw1 h8 bx (λz=>absurd ok.h0 z) (λ_ vl H2 S2 il=>?_);have hw2:=hw1.by S2;o_head aH (j:=0) hw2 rfl (λvr ir=>?_);o_head aH (j:=0) il rfl (λvz iz=>?_);o_head aH (j:=1) il rfl (λvp ip=>?_);o_head Bp ir iz ip rok (λH3 S3=>?_);have T3:=S1.trans (S2.trans S3);have hw3:=hw2.by S3;have il3:=il.by S3;clear hw hw1 hw2 il ir iz ip S1 S2 S3 e1 t1 n1;k_few
   . rename_i y
     rw[if_neg (by rw[y];decide)]at q;exact q _ T3
   . rename_i y
     rw[if_pos y]at q;refine aH (j:=0) hw3 rfl (λvr ir=>?_);o_head aH (j:=0) il3 rfl (λvz iz=>?_);o_head aH (j:=1) il3 rfl (λvp ip=>?_);o_head R9 ir iz ip rok (λv4 H4 S4 i4=>?_);o_head aH (j:=1) (il3.by S4) rfl (λvp4 ip4=>?_);refine DJ i4 ip4 ?_;k_few
     . rename_i u
       rw[if_pos u]at q;exact q _ (T3.trans S4)
     . rename_i u
       rw[if_neg u]at q;refine aH (j:=0) (hw3.by S4) rfl (λvr4 ir4=>?_);o_head NN ir4 (ok.ok.ba.mono (by decide)) ?_;unfold pB
       by_cases z1:1<ra
       . rw[if_pos z1]
         o_head ik _ _ false (by rw[wV];decide) ?_;k_few;rw[if_neg (λh=>absurd h.1 (by grind))]at q;exact q _ (T3.trans S4)
       . rw[if_neg z1]
         by_cases z2:ra=1
         . rw[if_pos z2]
           o_head ik _ _ false (by rw[wV];decide) ?_;k_few;rw[if_neg (λh=>absurd h.1 (by grind))]at q;exact q _ (T3.trans S4)
         . rw[if_neg z2]
           have ha:ra<1:=by
             by_cases h:ra<1
             . exact h
             . exact absurd (Vk (VD.mp h) (Wp z2)) z1
           o_head ik _ _ true (by rw[wV];decide) ?_;o_head aH (j:=0) (hw3.by S4) rfl (λvr5 ir5=>?_);o_head aH (j:=0) (il3.by S4) rfl (λvz5 iz5=>?_);o_head NR ir5 iz5 ok.ok sz z2 (λH5 S5=>?_);k_few
           . rename_i d
             rw[if_pos ⟨ha,d⟩]at q;exact q _ (T3.trans (S4.trans S5))
           . rename_i d
             rw[if_neg (λh=>by rw[h.2]at d;cases d)]at q;exact q _ (T3.trans (S4.trans S5))
def Sf(K:wb):Sp:=λvs H Q _=>∃x0,vs=[x0] /\ ∃(a b:Rat)(xs:List Rat)(g:Nat),Is K H x0 (bA a b xs)/\aW a b/\1<=xs.length/\xs.length<=8/\g<=8/\(∀t,t<=g->Cm 3700 (aj a b xs t))/\(∀t,t<g->(cf a b (aj a b xs t)).length=1)/\(cf a b (aj a b xs g)).length≠1 /\ ∀H',ah H H'->Q (.int ((g+1:Nat):Int)) H'
theorem Nb{K:wb}{H:Hp}{Q:VK}{E:XK}{a b:Rat}{xs:List Rat}{g:Nat}{v:V}(h:Is K H v (bA a b xs))(ok:aW a b)(h1:1<=xs.length)(h8:xs.length<=8)(hg:g<=8)(c:∀t,t<=g->Cm 3700 (aj a b xs t))(w1:∀t,t<g->(cf a b (aj a b xs t)).length=1)(w2:(cf a b (aj a b xs g)).length≠1)(q:∀H',ah H H'->Q (.int ((g+1:Nat):Int)) H'):Sf K [v] H Q E:=⟨_,rfl,a,b,xs,g,h,ok,h1,h8,hg,c,w1,w2,q⟩
theorem zky(T:Txt K mg a):aN P w K mg base aU 5 a.F7 a.FE sV (Sf K):=by
 refine T.FP.F.ok pV ?_ ?_;wtm_at "b1"
 refine⟨_,(ak (ay 1 pV.nd aA)
     (ak (ay 2 pV.nd (ar (CI T) hr T.rZ (ae (pv 0) af)))
     (ak (mT vJ (bZ (show aM _ (wY .Eq) (df K)from d8 hu) (bK (show aK _ (.builtin "len") (cP K)from eC) rfl T.z_len dQ (ae (au (pv 2)) af)) aA (bL _)) (ak (zA1 (i:=1) pV.nd rfl (Or.inl rfl) aA Yu)
     (av (ay 2 pV.nd (ar (CI T) hr T.rZ (ae (au (pv 2)) af))))))
     (av (aG (pv 1)))))),?_⟩
 wtm_at "cl";rw[show start Of [x0]=[some x0,none,none]from rfl];obtain⟨ra,rb,xs,g,hw,ok,h1,h8,hg,c,w1,w2,q⟩:=h;o_head DG hw ok.ba ok.bb h1 h8 (c 0 (by omega)) (by omega) (λv2 H2 S2 i2=>?_);o_head tK (λm σ' H'=>∃(t:Nat)(v:V),σ'=[some x0,some (.int ((t+1:Nat):Int)),some v]/\m=g-t/\t<=g/\ah H H'/\Is K H' v (GD ra rb (aj ra rb xs t))) _ ⟨0,v2,rfl,rfl,by omega,S2,i2⟩ ?_;rintro m σ' H3 ⟨t,v,rfl,rfl,ht,S3,iv⟩;o_head aH (j:=1) iv rfl (λv4 i4=>?_);o_head lZ i4 ?_;rw[wm];k_few
 . rename_i z
   have z:(cf ra rb (aj ra rb xs t)).length=1:=by omega
   have htg:t<g:=by
     rcases wz t g with y | y
     . exact y
     . have:t=g:=by omega
       subst this;exact absurd z w2
   have hpl:=bP ra rb xs t;have hpl2:=bP ra rb xs (t+1);refine yQ ?_;o_head YZ rfl ?_;o_head Y0 ?_;o_head aH (j:=2) iv rfl (λv5 i5=>?_);o_head DG (show Is K H3 v5 (bA ra rb (aj ra rb xs (t+1)))from i5) ok.ba ok.bb (by omega) (by omega) (c (t+1) (by omega)) (by omega) (λv6 H6 S6 i6=>?_);k_few;exact⟨g-(t+1),by omega,t+1,v6,by push_cast;rfl,rfl,by omega,S3.trans S6,i6⟩
 . rename_i z
   have htg:t=g:=by
     rcases wz t g with y | y
     . exact absurd (by rw[w1 t y];rfl) z
     . omega
   subst htg;exact q H3 S3
def Ov(B:Int)(x:Rat):Prop:=∃t:Int,x=wB t B
theorem Ov.zero(B:Int):Ov B 0:=⟨0,by simp⟩
theorem Ov.more{B d:Int}{x:Rat}(h:Ov B x)(hB:0<B)(hd:0<d):Ov (B*d) x:=by
 obtain⟨t,rfl⟩:=h;exact⟨t*d,p7 hB hd⟩
theorem zyC(t u:Int):∃m,Bd m t/\Bd m u:=⟨t.natAbs+u.natAbs,⟨Vi (by omega:t.natAbs<=t.natAbs+u.natAbs) XF⟩,⟨Vi (by omega:u.natAbs<=t.natAbs+u.natAbs) XF⟩⟩
theorem zCh{a b:Rat}(h:aW a b):Bd 6 a.num:=by
 have h1:=h.a0;have h2:=h.a4;have h3:=h.ad;have n0:0<=a.num:=Qs.mpr (vX h1)
 have n1:a.num<=4*a.den:=by
   have:=(xv a 4).mp h2
   simpa using this
 exact ⟨by have : (2 : Nat) ^ 6 = 64 := by decide
           omega⟩
theorem zCu{a b:Rat}(h:aW a b):Bd 4 (a.den:Int):=by
 have h3:=h.ad
 exact ⟨by have : (2 : Nat) ^ 4 = 16 := by decide
           omega⟩
theorem ZT{a b:Rat}(h:aW a b):Bd 4 b.num:=by
 have h1:=h.b0;have h2:=h.b1;have h3:=h.bd;have n0:0<=b.num:=Qs.mpr h1
 have n1:b.num<=b.den:=by
   have:=(xv b 1).mp h2
   simpa using this
 exact ⟨by have : (2 : Nat) ^ 4 = 16 := by decide
           omega⟩
theorem Ov.push{a b:Rat}(ok:aW a b){B:Int}{x:Rat}(hB:0<B)(hd:(b.den:Int) ∣ B)(h:Ov B x)(n:Nat):Ov (B*(a.den:Int)^n) (push a b n x):=by
 obtain⟨t,rfl⟩:=h;obtain⟨m,h1,h2⟩:=zyC t B;obtain⟨_,_,_,T,e,_⟩:=Px (zCh ok) (zCu ok) (ZT ok) hB hd h1 h2 n;exact⟨T,e⟩
theorem rq(a:Rat)(n:Nat):0<(a.den:Int)^n:=ut (den_pos a)
theorem Ov.up{a:Rat}{B:Int}{x:Rat}(h:Ov B x)(hB:0<B)(n:Nat):Ov (B*(a.den:Int)^n) x:=h.more hB (rq a n)
theorem N3{B:Int}{xs:List Rat}(h:∀x∈xs,Ov B x)(i:Nat):Ov B (xs.getD i 0):=by
 rcases wz i xs.length with z | z
 ·exact h _ (cU z)
 ·rw[wa,wE z];exact Ov.zero B
theorem zvr{B:Int}{xs:List Rat}(h:∀i,i<xs.length->Ov B (xs.getD i 0)):∀x∈xs,Ov B x:=λx hx=>by
 obtain⟨j,hj,rfl⟩:=wX hx;have:=h j hj;rw[wa,wc hj]at this;exact this
theorem Nv{a b:Rat}(ok:aW a b):∀(n:Nat)(B:Int)(ps:List Rat)(left:List Nat),0<B->(b.den:Int) ∣ B->left.Nodup->(∀w∈left,w<ps.length)->(∀x∈ps,Ov B x)->∀x∈(cv a b n ps left).2.2,Ov (B*(a.den:Int)^(cv a b n ps left).1.flatten.length) x
 | 0,B,ps,left,hB,_,_,_,h=>λx hx=>by
  have:Ov (B*(a.den:Int)^0) x:=by rw[XX,xS];exact h x hx
  exact this
 | n+1,B,ps,left,hB,hd,nd,lt,h=>by
  by_cases e:aC ps left=[]
  ·rw[mX e]
   intro x hx;have:Ov (B*(a.den:Int)^0) x:=by rw[XX,xS];exact h x hx
   exact this
  ·rw[jg e]
   have nd':(bQ left (aC ps left)).Nodup:=mn nd;have lt':=nG (wave:=aC ps left) lt
   have ih:=Nv ok n (B*(a.den:Int)^(aC ps left).length) (cA (a^(aC ps left).length) (aB a b (aC ps left).length) ps (bQ left (aC ps left))) (bQ left (aC ps left)) (Wd hB (rq a _)) (qR hd (VU ..)) nd' (λw hw=>by rw[iA];exact lt' w hw) (zvr λi hi=>by
    rw[jh _ _ _ _ nd' lt']
    split
    ·rw[<- iC];exact(N3 h i).push ok hB hd _
    ·exact(N3 h i).up hB _)
   intro x hx;have:=ih x hx
   show Ov (B*(a.den:Int)^(aC ps left::_).flatten.length) x
   rw[X8,wZ,uB,<- qi];exact this
theorem Ov.rise{B:Int}{x y:Rat}(hx:Ov B x)(hy:Ov B y)(hB:0<B):Ov B (x+(1-y)):=by
 obtain⟨t,rfl⟩:=hx;obtain⟨z,rfl⟩:=hy;refine⟨t+B-z,?_⟩
 symm
 refine fL (by omega) ?_;have q1:=cy t (show B≠0 by omega);have q2:=cy z (show B≠0 by omega);have q3:((t+B-z:Int):Rat)=(t:Rat)+(B:Rat)-(z:Rat):=by push_cast;rfl
 rw[q3,<- q1,<- q2]
 grind
def jk(a b:Rat)(xs:List Rat):Nat:=(cf a b xs).flatten.length
theorem zzs{a b:Rat}(ok:aW a b){B:Int}(hB:0<B)(hd:(b.den:Int) ∣ B){xs:List Rat}(h1:1<=xs.length)(h:∀x∈xs,Ov B x):∀y∈cV a b xs,Ov (B*(a.den:Int)^jk a b xs) y:=by
 have hr:∀x∈bE xs,Ov B x:=λx hx=>by
  obtain⟨y,hy,rfl⟩:=wS.mp hx;exact(h y hy).rise (h _ (gO h1)) hB
 have:=Nv ok xs.length B (bE xs) (wx xs.length) hB hd Vc (λw hw=>by rw[fh];exact wI.mp hw) hr;intro y hy;rcases zxP y hy with z | z
 ·exact this y z
 ·rw[z];exact Ov.zero _
def b_(a b:Rat)(xs:List Rat):Nat->Nat
 | 0=>0
 | k+1=>b_ a b xs k+jk a b (aj a b xs k)
theorem nR(a b:Rat)(xs:List Rat)(m:Nat):∀k,b_ a b xs (m+k)=b_ a b xs m+b_ a b (aj a b xs m) k
 | 0=>rfl
 | k+1=>by
  show b_ a b xs (m+k)+jk a b (aj a b xs (m+k))=b_ a b xs m+(b_ a b (aj a b xs m) k+jk a b (aj a b (aj a b xs m) k))
  rw[nR a b xs m k,eF];omega
theorem Jc{a b:Rat}(ok:aW a b){B:Int}(hB:0<B)(hd:(b.den:Int) ∣ B){xs:List Rat}(h1:1<=xs.length)(h:∀x∈xs,Ov B x):∀k,(∀y∈aj a b xs k,Ov (B*(a.den:Int)^b_ a b xs k) y)/\Ov (B*(a.den:Int)^b_ a b xs k) (aS a b xs k)
 | 0=>by
  show(∀y∈xs,Ov (B*(a.den:Int)^0) y)/\Ov (B*(a.den:Int)^0) 0
  rw[XX,xS];exact⟨h,Ov.zero B⟩
 | k+1=>by
  obtain⟨hp,hh⟩:=Jc ok hB hd h1 h k;have hBk:=Wd hB (rq a (b_ a b xs k));have hpl:=bP a b xs k
  have e:B*(a.den:Int)^b_ a b xs (k+1)=B*(a.den:Int)^b_ a b xs k*(a.den:Int)^jk a b (aj a b xs k):=by
   rw[qi,<- uB];rfl
  rw[e];refine⟨zzs ok hBk (qR hd (VU ..)) (by omega) hp,?_⟩;exact(Ov.rise hh (hp _ (gO (by omega))) hBk).up hBk _
theorem Lv{a b:Rat}(a0:0<a)(b0:0<=b){xs:List Rat}(h1:1<=xs.length)(hp:cz xs):∀k:Nat,0<=aS a b xs k/\aS a b xs k<=((k:Int):Rat)
 | 0=>⟨W1,W1⟩
 | k+1=>by
  obtain⟨l,u⟩:=Lv a0 b0 h1 hp k;have hk:=hp.at a0 b0 k;have hm:=gO (xs:=aj a b xs k) (by rw[bP];exact h1);have m0:=hk.nn _ hm;have m1:=hk.lt _ hm;have e:aS a b xs (k+1)=aS a b xs k+(1-bX (aj a b xs k)):=rfl;have ek:(((k+1:Nat):Int):Rat)=((k:Int):Rat)+1:=by push_cast;rfl
  rw[e,ek];exact⟨by grind,by grind⟩
theorem PM{B:Int}{m l:Nat}{x:Rat}(hB:0<B)(bB:Bd m B)(h:Ov B x)(x0:0<=x)(x1:x<=(((2^l:Nat):Int):Rat)):∃t:Int,x=wB t B/\Bd (m+l+1) t:=by
 obtain⟨t,rfl⟩:=h;refine⟨t,rfl,?_⟩;have q1:=cy t (show B≠0 by omega);have hBr:(0:Rat)<(B:Rat):=uW.mpr hB;have t0:(0:Rat)<=(t:Rat):=by rw[<- q1];exact qE x0 (vX hBr)
 have t1:(t:Rat)<=(((2^l:Nat):Int):Rat)*(B:Rat):=by
  rw[<- q1];exact qo x1 (vX hBr)
 have t0':0<=t:=Rat.intCast_nonneg.mp t0
 have t1':t<=((2^l:Nat):Int)*B:=by
  rw[<- Wq]at t1;exact W6.mp t1
 have b:=bB.lt;refine⟨?_⟩
 have hb:t.natAbs<=2^l*B.natAbs:=by
  have e:((2^l*B.natAbs:Nat):Int)=((2^l:Nat):Int)*B:=by
   rw[VN]
   congr 1
   omega
  omega
 have:2^l*B.natAbs<2^l*2^m:=Nat.mul_lt_mul_of_pos_left b (Wr l);have e2:2^(m+l+1)=2^l*2^m*2:=by rw[W5,Q2,Qm (2^m)]
 omega
theorem zzI{a b:Rat}(ok:aW a b){B:Int}{m:Nat}(h:Bd m B)(n:Nat):Bd (m+3*n) (B*(a.den:Int)^n):=by
 refine⟨?_⟩;have h1:=h.lt;have h8:=ok.ad;rw[Xa,Int.natAbs_pow,Int.natAbs_natCast,Q2,Nat.pow_mul];have e:(2:Nat)^3=8:=by decide
 rw[e];have h2:a.den^n<=8^n:=Nat.pow_le_pow_left h8 n;have hp:0<8^n:=Nat.pow_pos (by decide);exact Vi (XD _ h2) (Nat.mul_lt_mul_of_pos_right h1 hp)
theorem Ov.sub{B:Int}{x y:Rat}(hx:Ov B x)(hy:Ov B y)(hB:0<B):Ov B (x-y):=by
 obtain⟨t,rfl⟩:=hx;obtain⟨z,rfl⟩:=hy;refine⟨t-z,?_⟩
 symm
 refine fL (by omega) ?_;have q1:=cy t (show B≠0 by omega);have q2:=cy z (show B≠0 by omega);have q3:((t-z:Int):Rat)=(t:Rat)-(z:Rat):=by push_cast;rfl
 rw[q3,<- q1,<- q2]
 grind
theorem zyo{a b:Rat}(ok:aW a b){m:Nat}{xs:List Rat}(c:pb b.den m xs)(h1:1<=xs.length)(hp:cz xs){i k l:Nat}(hk:k<=2^l):Cm (m+3*b_ a b xs (i+k)+l+1) (aS a b (aj a b xs i) k::aj a b (aj a b xs i) k):=by
 obtain⟨B,hB,hd,bB,hx⟩:=c;have hov:=Jc ok hB hd h1 (λx hx'=>let ⟨t,e,_⟩:=hx x hx';⟨t,e⟩);obtain⟨hph,hh⟩:=hov (i+k);have hBk:=Wd hB (rq a (b_ a b xs (i+k)))
 have hi:Ov (B*(a.den:Int)^b_ a b xs (i+k)) (aS a b xs i):=by
  have:=((hov i).2).up (a:=a) (Wd hB (rq a (b_ a b xs i))) (b_ a b (aj a b xs i) k);rw[qi,<- uB,<- nR]at this;exact this
 have hhk:Ov (B*(a.den:Int)^b_ a b xs (i+k)) (aS a b (aj a b xs i) k):=by
  have e:aS a b (aj a b xs i) k=aS a b xs (i+k)-aS a b xs i:=by
   have:=mB a b xs i k
   grind
  rw[e];exact hh.sub hi hBk
 have bb:=zzI ok bB (b_ a b xs (i+k));have hpi:=hp.at ok.a0 ok.b0 i;have hpk:=hpi.at ok.a0 ok.b0 k;have hl:(((k:Nat):Int):Rat)<=(((2^l:Nat):Int):Rat):=W6.mpr (by omega)
 have h1l:(1:Rat)<=(((2^l:Nat):Int):Rat):=by
  have:((1:Int):Rat)<=(((2^l:Nat):Int):Rat):=W6.mpr (by have:=Wr l;omega);exact this
 refine⟨_,hBk,bb.mono (by omega),λx hx'=>?_⟩;rcases wQ.mp hx' with rfl | hx'
 ·have hb:=Lv ok.a0 ok.b0 (xs:=aj a b xs i) (by rw[bP];exact h1) hpi k
  exact PM hBk bb hhk hb.1 (xD hb.2 hl)
 ·have:=hph x (by rw[<- eF];exact hx')
  exact PM hBk bb this (hpk.nn x hx') (xD (vX (hpk.lt x hx')) h1l)
theorem zyf{a b:Rat}(a0:0<a)(b0:0<=b){xs:List Rat}(h1:1<=xs.length)(hp:cz xs):jk a b xs<=xs.length:=by
 obtain⟨v,J⟩:=tE a0 b0 h1 hp.nn hp.lt;unfold jk;rw[J.perm.length_eq];unfold seg;have:=WI (λw=>decide (0<=aO xs w)&&decide (aO xs w<v)) (wx xs.length);rw[vy]at this;exact this
theorem oG{a b:Rat}(a0:0<a)(b0:0<=b){xs:List Rat}(h1:1<=xs.length)(hp:cz xs):∀k,b_ a b xs k<=k*xs.length
 | 0=>Wu _
 | k+1=>by
  have ih:=oG a0 b0 h1 hp k;have hl:=bP a b xs k;have:=zyf a0 b0 (xs:=aj a b xs k) (by omega) (hp.at a0 b0 k);rw[Qp]
  show b_ a b xs k+jk a b (aj a b xs k)<=_
  omega
theorem L8{a b:Rat}(a0:0<a)(b0:0<=b){xs:List Rat}(h1:1<=xs.length)(hp:cz xs):1<=(cf a b xs).length:=by
 obtain⟨v,J⟩:=tE a0 b0 h1 hp.nn hp.lt;obtain⟨ws,e,_⟩:=J.first;rw[e];simp
theorem Py{a b:Rat}(a0:0<a)(b0:0<=b){xs:List Rat}(h1:1<=xs.length)(hp:cz xs):(ai (cV a b xs)).length<=(ai xs).length/\(1<(cf a b xs).length->(ai (cV a b xs)).length<(ai xs).length):=by
 obtain⟨v,J⟩:=tE a0 b0 h1 hp.nn hp.lt;have e:=congrArg qV J.new;rw[gX,wZ,Wa,gX,Wm]at e;have v1:=J.v1;have vm:=J.vm;exact⟨by omega,λh=>by have:=J.more.mp h;omega⟩
theorem OM{a b:Rat}(a0:0<a)(b0:0<=b){xs:List Rat}(h1:1<=xs.length)(hp:cz xs):∀k,(ai (aj a b xs k)).length<=(ai xs).length
 | 0=>wp _
 | k+1=>Wk (Py a0 b0 (xs:=aj a b xs k) (by rw[bP];exact h1) (hp.at a0 b0 k)).1 (OM a0 b0 h1 hp k)
theorem M3{a b:Rat}(ok:aW a b){xs ps:List Rat}{fl:Nat->Nat}{ns:List Int}(L:eO xs (ps++[0]) fl ns)(hn:ns.length=ps.length+1)(f:dP a b ns ps=true):∀t,t<=ns.length->b_ a b xs t=upTo ns t
 | 0,_=>rfl
 | t+1,ht=>by
  have ih:=M3 ok L hn f t (by omega);have hw:=(Fq ok L hn f).2.1 t (by omega);have hl:(ps++[0]).length=ns.length:=by simp[hn]
  have hs:=L.size t (by omega)
  show b_ a b xs t+jk a b (aj a b xs t)=_
  unfold jk;rw[hw,ih,mD (by omega),hs];simp
theorem Le{a b:Rat}(ok:aW a b){xs ps:List Rat}{fl:Nat->Nat}{ns:List Int}(L:eO xs (ps++[0]) fl ns)(hn:ns.length=ps.length+1)(n0:∀n∈ns,0<=n):∀k,(∀j,j<k->cg a b ns ps j=true)->b_ a b xs (k*ns.length)=k*upTo ns ns.length
 | 0,_=>by rw[QQ,QQ];rfl
 | k+1,h=>by
  have ih:=Le ok L hn n0 k λj hj=>h j (by omega)
  obtain⟨Lk,_⟩:=mQ ok L hn n0 k λj hj=>h j (by omega)
  have hl:ns.length=(bS a b ns k ps).length+1:=by rw[cx];exact hn
  rw[Qp,nR,ih,M3 ok Lk hl (h k (by omega)) _ (wp _),Qp]
structure fQ(a b:Rat)(xs:List Rat)(r g:Nat):Prop where
 lV:r<=30
 free:kb a b xs r
 ends:cg a b (aE xs) (aX xs) r=false
 g1:1<=g
 gN:g<=(ai xs).length
 one:∀t,t+1<g->(cf a b (aj a b (aj a b xs (r*(ai xs).length)) t)).length=1
 join:1<(cf a b (aj a b (aj a b xs (r*(ai xs).length)) (g-1))).length
theorem Ng{p:Nat->Prop} : ∀n,(∃t,t<n /\ ¬ p t)->∃g,g<n/\(∀t,t<g->p t) /\ ¬ p g
 | 0,h=>by obtain⟨t,ht,_⟩:=h;omega
 | n+1,h=>by
  by_cases z:∃t,t<n /\ ¬ p t
  ·obtain⟨g,h1,h2,h3⟩:=Ng n z
   exact⟨g,by omega,h2,h3⟩
  ·obtain⟨t,ht,hp⟩:=h
   have htn:t=n:=by
    rcases wz t n with y | y
    ·exact absurd ⟨t,y,hp⟩ z
    ·omega
   subst htn;exact⟨t,by omega,λs hs=>qB.mp λy=>z ⟨s,hs,y⟩,hp⟩
structure zBJ(a b:Rat)(xs:List Rat):Prop where
 hz:aX xs++[0]=ai xs
 hn:(aE xs).length=(aX xs).length+1
 hs:(aE xs).length=(ai xs).length
 L:eO xs (aX xs++[0]) (aO xs) (aE xs)
theorem zx{a b:Rat}{xs:List Rat}(hp:cz xs)(h0:0∈xs):zBJ a b xs:=by
 have hz:aX xs++[0]=ai xs:=DI hp h0;have hsl:=oS xs;have hpl:(aX xs).length+1=(ai xs).length:=by rw[<- hz];simp
 exact⟨hz,by omega,hsl,by rw[hz];exact CL hp.nn hp.lt⟩
theorem IU{a b:Rat}{xs:List Rat}(ok:aW a b)(h1:1<=xs.length)(hp:cz xs)(h0:0∈xs){r:Nat}(h30:r<=30)(f:kb a b xs r)(e:cg a b (aE xs) (aX xs) r=false):∃g,fQ a b xs r g:=by
 obtain⟨hz,hn,hs,L⟩:=zx (a:=a) (b:=b) hp h0;obtain⟨Lr,_⟩:=mQ ok L hn (sk xs) r f;obtain⟨t,ht,hj⟩:=RY ok Lr (by rw[cx];exact hn) e;rw[hs]at ht hj;obtain⟨g,g1,g2,g3⟩:=Ng (p:=λt=>(cf a b (aj a b (aj a b xs (r*(ai xs).length)) t)).length=1) (ai xs).length ⟨t,ht,λz=>by rw[z]at hj;omega⟩;refine⟨g+1,h30,f,e,by omega,by omega,λt ht=>g2 t (by omega),?_⟩;have:=L8 (a:=a) (b:=b) ok.a0 ok.b0 (xs:=aj a b (aj a b xs (r*(ai xs).length)) g) (by rw[bP,bP];exact h1) ((hp.at ok.a0 ok.b0 _).at ok.a0 ok.b0 _);rw[Qj];have g3:¬ (cf a b (aj a b (aj a b xs (r*(ai xs).length)) g)).length=1:=g3;omega
theorem fQ.b_{a b:Rat}{xs:List Rat}{r g:Nat}(R:fQ a b xs r g)(ok:aW a b)(h1:1<=xs.length)(hp:cz xs)(h0:0∈xs){t:Nat}(ht:t<=g):b_ a b xs (r*(ai xs).length+t)<=30*xs.length+xs.length*xs.length:=by
 obtain⟨hz,hn,hs,L⟩:=zx (a:=a) (b:=b) hp h0;have h2:=Le ok L hn (sk xs) r R.free;rw[hs]at h2;have h3:=Fh xs;rw[hs]at h3;have h4:=oG ok.a0 ok.b0 (xs:=aj a b xs (r*(ai xs).length)) (by rw[bP];exact h1) (hp.at ok.a0 ok.b0 _) t;rw[bP]at h4;rw[nR,h2];have h5:r*upTo (aE xs) (ai xs).length<=30*xs.length:=V4 R.lV h3;have h6:t*xs.length<=xs.length*xs.length:=Wj _ (by have:=R.gN;have:=kC xs;omega);omega
theorem fQ.Iw{a b:Rat}{xs:List Rat}{r g:Nat}(R:fQ a b xs r g)(ok:aW a b)(h1:1<=xs.length)(hp:cz xs):(ai (aj a b xs (r*(ai xs).length+g))).length<(ai xs).length:=by
 have g1:=R.g1
 have e:aj a b xs (r*(ai xs).length+g)=cV a b (aj a b (aj a b xs (r*(ai xs).length)) (g-1)):=by
  rw[<- eF];obtain⟨k,rfl⟩:∃k,g=k+1:=⟨g-1,by omega⟩
  rfl
 have h2:cz (aj a b (aj a b xs (r*(ai xs).length)) (g-1)):=(hp.at ok.a0 ok.b0 _).at ok.a0 ok.b0 _;have hl:(aj a b (aj a b xs (r*(ai xs).length)) (g-1)).length=xs.length:=by rw[bP,bP]
 have h3:=(Py ok.a0 ok.b0 (xs:=aj a b (aj a b xs (r*(ai xs).length)) (g-1)) (by omega) h2).2 R.join;have h4:=OM ok.a0 ok.b0 (xs:=xs) h1 hp (r*(ai xs).length+(g-1));rw[eF]at h3;rw[eF]at e;rw[e];omega
theorem Yt{a b:Rat}{ns:List Int}{xs:List Rat}(ok:aW a b)(sz:cE ns)(hn:ns.length=xs.length+1)(st:dH a b ns xs=true):cw a b ns xs=xs\/(a<1/\jt a b ns=true):=by
 have hps:=sz.pos;unfold dH at st
 by_cases z1:1<a
 ·rw[if_pos z1]at st
  have e:=of_decide_eq_true st;have hF:a^ns.sum.toNat≠1:=λe=>absurd ((kT ok (by omega)).mp e) (by grind)
  refine .inl ?_;rw[<- oH hn sz.nn,kB hF hn 1];rw[<- e,JS]
 ·rw[if_neg z1]at st
  by_cases z2:a=1
  ·rw[if_pos z2]at st
   refine .inl ?_;rw[<- oH hn sz.nn]
   exact je (cx ..) λi hi=>by
    rw[cx]at hi;have hi':i<(cZ a b ns).length:=by rw[nE (by omega)];omega
    have hz:(cZ a b ns).getD i 0=0:=by
     rw[WN]at st;have:=st _ (wS.mpr ⟨_,cU (d:=0) hi',rfl⟩);exact of_decide_eq_true this
    rw[j7 hi,hz];unfold fb;rw[z2,GM.one_pow',GM.one_pow']
    grind
  ·rw[if_neg z2]at st
   refine .inr ⟨?_,st⟩
   by_cases h:a<1
   ·exact h
   ·exact absurd (Vk (VD.mp h) (Wp z2)) z1
theorem zzR{a b:Rat}{xs:List Rat}(ok:eT a b xs)(h:cD a b xs=none)(f:cg a b (aE xs) (aX xs) 0=true):dH a b (aE xs) (aX xs)=false:=by
 obtain⟨_,sz,hn⟩:=ok.round;unfold cg at f;rw[lI]at f;cases e:dH a b (aE xs) (aX xs)with
 | false=>rfl
 | true =>
  unfold cD at h;rw[if_pos f]at h
  split at h
  ·cases h
  ·split at h
   ·cases h
   ·rename_i y
    rcases Yt ok.ok sz hn e with z | z
    ·exact absurd z y
    ·rw[if_pos z]at h;cases h
def ng(h:Rat)(xs:List Rat)(r g:Nat):wF:=.tuple [N h,TN xs,.int (r:Int),.int (g:Int)]
def Rf(K:wb)(a:Ad):Sp:=λvs H Q E=>∃x0 x1,vs=[x0,x1] /\ ∃(ra rb h:Rat)(xs:List Rat),Is K H x0 (N h)/\Is K H x1 (bA ra rb xs)/\eT ra rb xs/\cD ra rb xs=none/\(∀r g t,fQ ra rb xs r g->t<=g->Cm 3600 (aj ra rb xs (r*(ai xs).length+t))) /\
 ((∀k,k<=30->cg ra rb (aE xs) (aX xs) k=true)->∀H',ah H H'->E (.ref a.cJ) none H') /\ ∀r g v H',fQ ra rb xs r g->ah H H'->Is K H' v (ng h xs r g)->Q v H'
theorem zrJ{K:wb}{a:Ad}{H:Hp}{Q:VK}{E:XK}{ra rb h:Rat}{xs:List Rat}{v w:V}(h1:Is K H v (N h))(h2:Is K H w (bA ra rb xs))(ok:eT ra rb xs)(hw:cD ra rb xs=none)(c:∀r g t,fQ ra rb xs r g->t<=g->Cm 3600 (aj ra rb xs (r*(ai xs).length+t)))(qe:(∀k,k<=30->cg ra rb (aE xs) (aX xs) k=true)->∀H',ah H H'->E (.ref a.cJ) none H')(q:∀r g v H',fQ ra rb xs r g->ah H H'->Is K H' v (ng h xs r g)->Q v H'):Rf K a [v,w] H Q E:=⟨_,_,rfl,ra,rb,h,xs,h1,h2,ok,hw,c,qe,q⟩
theorem zrT(T:Txt K mg a):aN P w K mg base (eJ P w) 12 a.HK a.GF sv (Rf K a):=by
 refine T.Hc.F.pJ An ?_ ?_;wtm_at "b2"
 refine⟨_,(ak (ay 2 An.nd (jO (oI T) hr T.me tY (ae (pv 1) af)))
     (ak (ay 3 An.nd (jO (zl5 T) hr T.Gb tY (ae (au (pv 1)) (ae (au (pv 2)) (ae (au (pv 2)) af)))))
     (ak (ay 4 An.nd (ar (zky T) hr T.FP (ae (au (ar (Jr T) hr T.AE (ae (pv 1) (ae (pv 3) af)))) af)))
     (av (aG (bC (ae (pv 0) (ae (au (pv 1)) (ae (pv 3) (ae (pv 4) af)))))))))),?_⟩
 wtm_at "cl";rw[show start N1 [x0,x1]=[some x0,some x1,none,none,none]from rfl];obtain⟨ra,rb,hr',xs,ih,hw,ok,hno,hc,qe,q⟩:=h;obtain⟨rok,sz,hn⟩:=ok.round;have h8:=ok.h8;have bx:∀i,ag 4000 (xs.getD i 0):=λi=>(ok.cm.get i).mono (by decide)
 o_head rm hw h8 bx (λz=>absurd ok.h0 z) (λ_ vl H1 S1 il=>?_);have hw1:=hw.by S1;o_head aH (j:=0) hw1 rfl (λvr ir=>?_);o_head aH (j:=0) il rfl (λvz iz=>?_);o_head aH (j:=1) il rfl (λvp ip=>?_);o_head zm5 ir iz ip ok.ok sz hn (pQ ok.cm) (by decide) (λz H2 S2=>?_) (λz y H2 S2=>?_) (λc c1 c2 y z w H2 S2=>?_) (λy z H2 S2=>?_)
 . have RR:(0:Nat)<=30:=by decide
   have FF:kb ra rb xs 0:=λk hk=>by omega
   have EE:=z;k_few;obtain⟨g,R⟩:=IU ok.ok ok.h1 ok.hp ok.h0 RR FF EE;have g1:=R.g1;have gN:=R.gN;have hvl:=kC xs;refine CK (r:=0) (hw1.by S2) ok RR FF (λv3 H3 S3 i3=>?_);o_head aH (j:=1) i3 rfl (λv4 i4=>?_);k_few;have hj:=R.join;refine Nb (g:=g-1) i4 ok.ok (by rw[bP];exact ok.h1) (by rw[bP];exact h8) (by omega) (λt ht=>by rw[eF];exact(hc _ g t R (by omega)).mono (by decide)) (λt ht=>R.one t (by omega)) (by omega) (λH5 S5=>?_);rw[show g-1+1=g by omega];have S15:=S2.trans (S3.trans S5);o_head aH (j:=1) (hw1.by S15) rfl (λv6 i6=>?_);o_head cc (ds:=[N hr',TN xs,.int ((0:Nat):Int),.int (g:Int)]) (by simp) (.cons (ih.by (S1.trans S15)) (.cons i6 (.cons (cb.mpr rfl) (.cons (cb.mpr rfl) .nil)))) (λv7 H7 S7 i7=>?_);exact q 0 g v7 H7 R (S1.trans (S15.trans S7)) i7
 . rw[zzR ok hno z]at y
   cases y
 . have RR:=c2
   have FF:kb ra rb xs c:=z;have EE:=w;k_few;obtain⟨g,R⟩:=IU ok.ok ok.h1 ok.hp ok.h0 RR FF EE;have g1:=R.g1;have gN:=R.gN;have hvl:=kC xs;refine CK (r:=c) (hw1.by S2) ok RR FF (λv3 H3 S3 i3=>?_);o_head aH (j:=1) i3 rfl (λv4 i4=>?_);k_few;have hj:=R.join;refine Nb (g:=g-1) i4 ok.ok (by rw[bP];exact ok.h1) (by rw[bP];exact h8) (by omega) (λt ht=>by rw[eF];exact(hc _ g t R (by omega)).mono (by decide)) (λt ht=>R.one t (by omega)) (by omega) (λH5 S5=>?_);rw[show g-1+1=g by omega];have S15:=S2.trans (S3.trans S5);o_head aH (j:=1) (hw1.by S15) rfl (λv6 i6=>?_);o_head cc (ds:=[N hr',TN xs,.int (c:Int),.int (g:Int)]) (by simp) (.cons (ih.by (S1.trans S15)) (.cons i6 (.cons (cb.mpr rfl) (.cons (cb.mpr rfl) .nil)))) (λv7 H7 S7 i7=>?_);exact q c g v7 H7 R (S1.trans (S15.trans S7)) i7
 . exact qe z H2 (S1.trans S2)
def pH(a b:Rat)(xs:List Rat)(i r g:Nat):Prop:=(i=0/\r=0/\g=1)\/(1<=i/\cD a b (aj a b xs i)=none/\fQ a b (aj a b xs i) r g)
def d5(a b:Rat)(xs:List Rat)(i r g:Nat):Nat:=i+(r*(ai (aj a b xs i)).length+g)
def hV(a b:Rat)(xs:List Rat):Nat->List (Nat × Nat × Nat)->Nat->Prop
 | i,[],n=>i=n
 | i,e::es,n=>e.1=i/\pH a b xs i e.2.1 e.2.2/\hV a b xs (d5 a b xs i e.2.1 e.2.2) es n
theorem hV.snoc{a b:Rat}{xs:List Rat} : ∀{es:List (Nat × Nat × Nat)}{i n r g:Nat},hV a b xs i es n->pH a b xs n r g->hV a b xs i (es++[(n,r,g)]) (d5 a b xs n r g)
 | [],i,n,r,g,h,k=>by
  have e:i=n:=h;subst e;exact⟨rfl,k,rfl⟩
 | e::es,i,n,r,g,h,k=>⟨h.1,h.2.1,hV.snoc h.2.2 k⟩
def pY(a b:Rat)(xs:List Rat)(e:Nat × Nat × Nat):wF:=ng (aS a b xs e.1) (aj a b xs e.1) e.2.1 e.2.2
def B8(a b:Rat)(xs:List Rat)(n:Nat)(w:String):wF:=.tuple [N (aS a b xs n),TN (aj a b xs n),.str (vA w)]
def BZ(a b:Rat)(xs:List Rat)(es:List (Nat × Nat × Nat))(n:Nat)(w:String):List wF:=es.map (pY a b xs)++[B8 a b xs n w]
theorem DZ(h:Rat)(xs:List Rat)(r g:Nat):cO (ng h xs r g)=true:=by rw[ng,cO,b7,b7,b7,b7,b7,lz,tI];rfl
theorem Yd(a b:Rat)(xs:List Rat)(n:Nat)(w:String):cO (B8 a b xs n w)=true:=by rw[B8,cO,b7,b7,b7,b7,lz,tI];rfl
structure cY(a b:Rat)(xs:List Rat):Prop where
 ok:aW a b
 h1:1<=xs.length
 h6:xs.length<=6
 ph:∀x∈xs,fk x
theorem cY.hp{a b:Rat}{xs:List Rat}(h:cY a b xs):cz xs:=⟨λx hx=>(h.ph x hx).nn,λx hx=>(h.ph x hx).lt⟩
theorem cY.W_{a b:Rat}{xs:List Rat}(h:cY a b xs):pb b.den 47 xs:=by
 have h6:=h.h6
 have b6:∀j,ag 6 (xs.getD j 0):=λj=>by
  rcases wz j xs.length with z | z
  ·exact(h.ph _ (cU z)).fO
  ·rw[wa,wE z];exact ag.zero.mono (by decide)
 have c0:Cm 43 xs:=(Cm.Tz b6).mono (by omega);exact pb.of c0 (den_pos b) ⟨by have:=h.ok.bd;have:(2:Nat)^4=16:=(by decide);omega⟩
def kI(a b:Rat)(xs:List Rat)(i:Nat):Prop:=b_ a b xs i+216*(ai (aj a b xs i)).length<=6+216*6/\i+186*(ai (aj a b xs i)).length<=1+186*6
structure h9(a b:Rat)(xs:List Rat)(es:List (Nat × Nat × Nat))(n:Nat)(w:String):Prop where
 walk:hV a b xs 0 es n
 e1:1<=es.length
 b8:es.length<=9
 n1:1<=n
 word:cD a b (aj a b xs n)=some w
 sp:kI a b xs n
theorem cY.jV{a b:Rat}{xs:List Rat}(h:cY a b xs){i k:Nat}(hg:b_ a b xs (i+k)<=1100)(hk:k<=1024):Cm 3500 (aS a b (aj a b xs i) k::aj a b (aj a b xs i) k) :=
 (zyo h.ok h.W_ h.h1 h.hp (i:=i) (k:=k) (l:=10) (by rw[show(2:Nat)^10=1024 by decide];exact hk)).mono (by omega)
theorem cY.cm{a b:Rat}{xs:List Rat}(h:cY a b xs){i:Nat}(hg:b_ a b xs i<=1100)(hi:i<=1024):Cm 3500 (aS a b xs i::aj a b xs i):=h.jV (i:=0) (k:=i) (by rw[Nat.zero_add];exact hg) hi
theorem cY.A0{a b:Rat}{xs:List Rat}(h:cY a b xs){i:Nat}(h1:1<=i)(c:Cm 3500 (aS a b xs i::aj a b xs i)):eT a b (aj a b xs i) :=
 ⟨h.ok,by rw[bP];exact h.h1,by rw[bP];have:=h.h6;omega,h.hp.at h.ok.a0 h.ok.b0 i,h.hp.zero h.ok.a0 h.ok.b0 h.h1 h1,(l_ c λy hy=>wy _ hy).mono (by decide)⟩
theorem cY.nf{a b:Rat}{xs:List Rat}(h:cY a b xs)(i:Nat):1<=(ai (aj a b xs i)).length/\(ai (aj a b xs i)).length<=6:=by
 have:=kC (aj a b xs i);rw[bP]at this;have h6:=h.h6;exact⟨nO (by rw[bP];exact h.h1),by omega⟩
theorem cY.one{a b:Rat}{xs:List Rat}(h:cY a b xs):kI a b xs 1:=by
 have h6:=h.h6;have:=oG h.ok.a0 h.ok.b0 h.h1 h.hp 1;have:=(h.nf 1).2;exact⟨by omega,by omega⟩
theorem cY.within{a b:Rat}{xs:List Rat}(h:cY a b xs){i r g t:Nat}(i1:1<=i)(sp:kI a b xs i)(n2:2<=(ai (aj a b xs i)).length)(R:fQ a b (aj a b xs i) r g)(ht:t<=g):b_ a b xs (i+(r*(ai (aj a b xs i)).length+t))<=1100/\i+(r*(ai (aj a b xs i)).length+t)<=1024/\b_ a b xs (i+(r*(ai (aj a b xs i)).length+t))<=b_ a b xs i+216/\r*(ai (aj a b xs i)).length+t<=186:=by
 have h6:=h.h6;have nf:=(h.nf i).2;have hl:=bP a b xs i;have g1:=R.b_ h.ok (by rw[hl];exact h.h1) (h.hp.at h.ok.a0 h.ok.b0 i) (h.hp.zero h.ok.a0 h.ok.b0 h.h1 i1) ht;rw[hl]at g1
 have g2:30*xs.length+xs.length*xs.length<=216:=by
  have:xs.length*xs.length<=6*6:=V4 h6 h6;omega
 have g3:r*(ai (aj a b xs i)).length<=30*6:=V4 R.lV nf;have g4:=R.gN;obtain⟨s1,s2⟩:=sp;rw[nR];exact⟨by omega,by omega,by omega,by omega⟩
theorem cY.next{a b:Rat}{xs:List Rat}(h:cY a b xs){i r g:Nat}(i1:1<=i)(sp:kI a b xs i)(n2:2<=(ai (aj a b xs i)).length)(R:fQ a b (aj a b xs i) r g):kI a b xs (d5 a b xs i r g):=by
 obtain⟨_,_,w1,w2⟩:=h.within i1 sp n2 R (wp g);have f:=R.Iw h.ok (by rw[bP];exact h.h1) (h.hp.at h.ok.a0 h.ok.b0 i);rw[eF]at f;obtain⟨s1,s2⟩:=sp;unfold kI d5;exact⟨by omega,by omega⟩
theorem ND{a b:Rat}{xs:List Rat}(h:cD a b xs=none)(h1:1<=(ai xs).length):2<=(ai xs).length:=by
 unfold cD at h
 split at h
 ·cases h
 ·omega
def kM(a b:Rat)(xs:List Rat):Prop:=∃es i,hV a b xs 0 es i/\1<=i/\cD a b (aj a b xs i)=none /\ ∀k,k<=30->cg a b (aE (aj a b xs i)) (aX (aj a b xs i)) k=true
def P9(K:wb)(a:Ad):Sp:=λvs H Q E=>∃x0,vs=[x0] /\ ∃(ra rb:Rat)(xs:List Rat),Is K H x0 (bA ra rb xs)/\cY ra rb xs /\
 (kM ra rb xs->∀H',ah H H'->E (.ref a.cJ) none H') /\ ∀l H' es n w,h9 ra rb xs es n w->H l=none->ah H H'->Is K H' (.ref l) (.list (BZ ra rb xs es n w))->Q (.ref l) H'
theorem LW{K:wb}{a:Ad}{H:Hp}{Q:VK}{E:XK}{ra rb:Rat}{xs:List Rat}{v:V}(h:Is K H v (bA ra rb xs))(ok:cY ra rb xs)(qe:kM ra rb xs->∀H',ah H H'->E (.ref a.cJ) none H')(q:∀l H' es n w,h9 ra rb xs es n w->H l=none->ah H H'->Is K H' (.ref l) (.list (BZ ra rb xs es n w))->Q (.ref l) H'):P9 K a [v] H Q E:=⟨_,rfl,ra,rb,xs,h,ok,qe,q⟩
theorem RH(T:Txt K mg a):aN P w K mg base (eJ P w) 13 a.HC a.GB zO (P9 K a):=by
 refine T.AN.F.pJ kZ ?_ ?_;wtm_at "b1"
 refine⟨_,(ak (ay 1 kZ.nd (dC (ae (bC (ae (bM (v:=.ref a.c_) rfl T.dS rfl) (ae (au (pv 0)) (ae aA (ae aA af))))) af)))
     (ak (ay 2 kZ.nd j8)
     (ak (mT uk (bZ Lm (pv 2) j8 (bL _)) (ak (ay 3 kZ.nd (di cF (pv 1) (gE gz aA) (λ_ _=>rfl)))
     (ak (ay 4 kZ.nd (ar (Yv T) hr T.Gk (ae (bC (ae (au (pv 0)) (ae (au (pv 3)) af))) (ae (au (pv 3)) (ae (au (pv 3)) af)))))
     (ak (ay 5 kZ.nd (ar (gr T) hr T.fN (ae (au (pv 3)) (ae (au (pv 4)) af))))
     (ak (ay 2 kZ.nd (ar (zsY T) hr T.Hx (ae (au (pv 4)) af)))
     (av (iE (iO vV vS vT gZ (pv 1) (ae (yw (bZ Lm (pv 2) j8 (bL _)) (jO (zrT T) hr T.Hc tY (ae (pv 5) (ae (au (pv 4)) af))) (bC (ae (pv 5) (ae (au (au (pv 4))) (ae (pv 2) af))))) af)))))))))
     (av (aG (pv 1)))))),?_⟩
 wtm_at "cl";rw[show start Sb [x0]=[some x0,none,none,none,none,none]from rfl];obtain⟨ra,rb,xs,hw,ok,qe,q⟩:=h;o_head aH (j:=1) hw rfl (λv1 i1=>?_);o_head cc (ds:=[N 0,TN xs,.int 0,.int 1]) (by simp) (.cons (dX 0 (T.eI _) rfl rfl) (.cons i1 (.cons (cb.mpr rfl) (.cons (cb.mpr rfl) .nil)))) (λv2 H2 S2 i2=>?_);o_head fj (by simp) (λlr H3 n3 S3 e3=>?_);have hlr:H lr=none:=jz S2 n3;k_few
 refine tK (λm σ' H'=>∃(us:List V)(es:List (Nat × Nat × Nat))(vw:V)(o3 o4 o5:Option V),σ'=[some x0,some (.ref lr),some vw,o3,o4,o5]/\ah H H'/\H' lr=some (.lst us) /\
   ((vw=.bG /\ ∃i r g,hV ra rb xs 0 es i/\pH ra rb xs i r g/\ao K H' us ((es++[(i,r,g)]).map (pY ra rb xs))/\(1<=i->kI ra rb xs i)/\es.length+(ai (aj ra rb xs (d5 ra rb xs i r g))).length<=6/\m=(ai (aj ra rb xs (d5 ra rb xs i r g))).length) \/
     ∃n w,vw=.str (vA w)/\h9 ra rb xs es n w/\ao K H' us (BZ ra rb xs es n w)/\m=0)) _ ⟨[v2],[],.bG,_,_,_,rfl,S2.trans S3,e3,.inl ⟨rfl,0,0,1,rfl,.inl ⟨rfl,rfl,rfl⟩,.cons (i2.by S3) .nil,λh=>by omega,by have:=(ok.nf (d5 ra rb xs 0 0 1)).2;simpa using this,rfl⟩⟩ ?_
 rintro m σ' H4 ⟨us,es,vw,o3,o4,o5,rfl,S4,e4,C⟩;rcases C with⟨rfl,i,r,g,wk,ro,t4,sp,b8,rfl⟩ | ⟨n,w',rfl,P,t4,rfl⟩
 . have hN:=(ok.nf i).2
   have h6:=ok.h6
   have facts:g<=40/\(1<=r->eT ra rb (aj ra rb xs i)/\r<=30/\kb ra rb (aj ra rb xs i) r)/\b_ ra rb xs (d5 ra rb xs i r g)<=1100/\d5 ra rb xs i r g<=1024/\b_ ra rb xs i<=1100/\i<=1024/\(∀t,t<=g->b_ ra rb xs (i+(r*(ai (aj ra rb xs i)).length+t))<=1100)/\kI ra rb xs (d5 ra rb xs i r g)/\r<=30:=by
     rcases ro with⟨rfl,rfl,rfl⟩ | ⟨i1,hno,R⟩
     . have e:d5 ra rb xs 0 0 1=1:=by unfold d5;omega
       have h2:=oG ok.ok.a0 ok.ok.b0 ok.h1 ok.hp;refine⟨by omega,λz=>by omega,by rw[e];have:=h2 1;omega,by omega,by have:=h2 0;omega,by omega,λt ht=>?_,by rw[e];exact ok.one,by omega⟩;have h3:=h2 (0+(0*(ai (aj ra rb xs 0)).length+t));have h4:(0+(0*(ai (aj ra rb xs 0)).length+t))*xs.length<=1*6:=V4 (by omega) h6;omega
     . have n2:=ND hno (ok.nf i).1
       have sp:=sp i1;have w:=λ{t:Nat}(ht:t<=g)=>ok.within i1 sp n2 R ht
       have w0:=w (wp g);have g4:=R.gN;have si:=sp.1;have si2:=sp.2;have c:Cm 3500 (aS ra rb xs i::aj ra rb xs i):=ok.cm (by omega) (by omega);exact⟨by omega,λ_=>⟨ok.A0 i1 c,R.lV,R.free⟩,w0.1,w0.2.1,by omega,by omega,λt ht=>(w ht).1,ok.next i1 sp n2 R,R.lV⟩
   obtain⟨g40,fr,gl,nl,gi,ni,gw,sl,lV⟩:=facts;have cI:=ok.cm gi ni;have cL:=ok.cm gl nl
   have n1:1<=d5 ra rb xs i r g:=by
     unfold d5;rcases ro with⟨rfl,rfl,rfl⟩ | ⟨i1,hno,R⟩
     . omega
     . omega
   have swL:=ok.A0 n1 cL;have hrN:r*(ai (aj ra rb xs i)).length<=30*6:=V4 lV hN;have hul:=t4.length;rw[wm,wZ,Wm]at hul;have hnf:=(ok.nf (d5 ra rb xs i r g)).1;o_head yQ ?_;k_few
   have il:Is K H4 (.ref lr) (.list (es.map (pY ra rb xs)++[pY ra rb xs (i,r,g)])):=by
     rw[vx]at t4;exact cu.mpr ⟨lr,us,rfl,.of e4,t4⟩
   refine oh il (λv5 i5=>?_);have i5:Is K H4 v5 (ng (aS ra rb xs i) (aj ra rb xs i) r g):=i5;have hw4:=hw.by S4;o_head aH (j:=0) hw4 rfl (λv6 i6=>?_);o_head aH (j:=1) i5 rfl (λv7 i7=>?_);o_head cc (ds:=[R ra rb,TN (aj ra rb xs i)]) (by simp) (.cons i6 (.cons i7 .nil)) (λv8 H8 S8 i8=>?_);have i58:=i5.by S8;o_head aH (j:=2) i58 rfl (λv9 i9=>?_);rw[cb.mp i9];o_head aH (j:=3) i58 rfl (λv10 i10=>?_);rw[cb.mp i10];k_few;have bH:ag 8000 (aS ra rb (aj ra rb xs i) (r*(ai (aj ra rb xs i)).length)):=((ok.jV (i:=i) (k:=r*(ai (aj ra rb xs i)).length) (by have:=gw 0 (by omega);rw[XQ]at this;exact this) (by omega)).fO (wC ..)).mono (by decide)
   have cG:∀t,t<=g->Cm 3700 (aS ra rb (aj ra rb (aj ra rb xs i) (r*(ai (aj ra rb xs i)).length)) t::aj ra rb (aj ra rb (aj ra rb xs i) (r*(ai (aj ra rb xs i)).length)) t):=λt ht=>by
     rw[eF ra rb xs];exact(ok.jV (i:=i+r*(ai (aj ra rb xs i)).length) (k:=t) (by have:=gw t ht;rw[<- Vt]at this;exact this) (by omega)).mono (by decide)
   refine YQ (show Is K H8 v8 (bA ra rb (aj ra rb xs i))from i8) ok.ok (by rw[bP];exact ok.h1) (by rw[bP];omega) fr g40 bH cG (λv11 H11 S11 i11=>?_);have i11:Is K H11 v11 (.tuple [N (aS ra rb (aj ra rb xs i) (r*(ai (aj ra rb xs i)).length+g)),bA ra rb (aj ra rb (aj ra rb xs i) (r*(ai (aj ra rb xs i)).length+g))]):=i11;rw[eF]at i11;have i11:Is K H11 v11 (.tuple [N (aS ra rb (aj ra rb xs i) (r*(ai (aj ra rb xs i)).length+g)),bA ra rb (aj ra rb xs (d5 ra rb xs i r g))]):=i11;have i511:=i58.by S11;have bI:ag 3500 (aS ra rb xs i):=cI.fO (wC ..);have bJ:ag 3500 (aS ra rb (aj ra rb xs i) (r*(ai (aj ra rb xs i)).length+g)):=(ok.jV (i:=i) (k:=r*(ai (aj ra rb xs i)).length+g) gl (by omega)).fO (wC ..);o_head aH (j:=0) i511 rfl (λv12 i12=>?_);o_head aH (j:=0) i11 rfl (λv13 i13=>?_);k_few;rename_i v14 H14 S14 i14;rw[mB]at i14;have i14:Is K H14 v14 (N (aS ra rb xs (d5 ra rb xs i r g))):=i14;have i1114:=i11.by S14;refine aH (j:=1) i1114 rfl (λv15 i15=>?_);have i15:Is K H14 v15 (bA ra rb (aj ra rb xs (d5 ra rb xs i r g))):=i15;o_head zr7 i15 swL (λH16 S16=>?_);have S816:=S8.trans (S11.trans (S14.trans S16));have e16:=S816 _ _ e4;have t16:ao K H16 us ((es++[(i,r,g)]).map (pY ra rb xs)):=ao.same S816 _ _ t4;have S416:=S4.trans S816;have i1116:=i1114.by S16;have i1416:=i14.by S16;have i1516:=i15.by S16;have wk':=wk.snoc ro;generalize hlead:d5 ra rb xs i r g=n at *;cases hwd:cD ra rb (aj ra rb xs n)with
   | none =>
     show gg 2 V.bG _ _ _
     o_head gG (aI.of e16) ?_;o_head aH (j:=1) i1116 rfl (λv17 i17=>?_);k_few;have n2:=ND hwd hnf;refine zrJ i1416 (show Is K H16 v17 (bA ra rb (aj ra rb xs n))from i17) swL hwd (λr' g' t R ht=>?_) (λz H' S=>qe ⟨_,n,wk',n1,hwd,z⟩ H' (S416.trans S)) (λr' g' v18 H18 R S18 i18=>?_)
     . have w:=ok.within n1 sl n2 R ht
       rw[eF];exact(l_ (ok.cm w.1 w.2.1) λy hy=>wy _ hy).mono (by decide)
     . k_few
       have e18:=S18 _ _ e16;refine gq e18 (by omega) (λH19 E19 e19=>?_);have K19:=E19.keep e18;have fw:=R.Iw ok.ok (by rw[bP];exact ok.h1) (ok.hp.at ok.ok.a0 ok.ok.b0 n);rw[eF]at fw;have fw:(ai (aj ra rb xs (d5 ra rb xs n r' g'))).length<(ai (aj ra rb xs n)).length:=fw;o_head ⟨_,fw,us++[v18],es++[(i,r,g)],.bG,_,_,_,rfl,(S416.trans S18).grow hlr E19,e19,.inl ⟨rfl,n,r',g',wk',.inr ⟨n1,hwd,R⟩,?_,λ_=>sl,?_,rfl⟩⟩
       . rw[vx]
         exact(ao.keep K19 _ _ (rg _ (λe=>DZ _ _ _ _) _) (ao.same S18 _ _ t16)).append (.cons (i18.ly K19 (DZ _ _ _ _)) .nil)
       . rw[wZ,Wm]
         omega
   | some wd =>
     show gg 2 (V.str (vA wd)) _ _ _
     o_head gG (aI.of e16) ?_;k_few
     . rename_i z;cases z
     . refine aH (j:=1) i1116 rfl (λv17 i17=>?_)
       o_head aH (j:=1) i17 rfl (λv18 i18=>?_);o_head cc (ds:=[N (aS ra rb xs n),TN (aj ra rb xs n),.str (vA wd)]) (by simp) (.cons i1416 (.cons i18 (.cons (eK.mpr rfl) .nil))) (λv19 H19 S19 i19=>?_);k_few;have e19:=S19 _ _ e16;refine gq e19 (by omega) (λH20 E20 e20=>?_);have K20:=E20.keep e19;o_head ⟨0,by omega,us++[v19],es++[(i,r,g)],_,_,_,_,rfl,(S416.trans S19).grow hlr E20,e20,.inr ⟨n,wd,rfl,⟨wk',by simp,by rw[wZ,Wm];omega,n1,hwd,sl⟩,?_,rfl⟩⟩;exact(ao.keep K20 _ _ (rg _ (λe=>DZ _ _ _ _) _) (ao.same S19 _ _ t16)).append (.cons (i19.ly K20 (Yd _ _ _ _ _)) .nil)
 . k_few
   . rename_i z;cases z
   . exact q lr H4 es n w' P hlr S4 (cu.mpr ⟨lr,us,rfl,.of e4,t4⟩)
theorem zw2{a b:Rat}{xs:List Rat}{r g r' g':Nat}(R:fQ a b xs r g)(S:fQ a b xs r' g'):r=r'/\g=g':=by
 have er:r=r':=by
  rcases WS r r' with z | z | z
  ·have:=S.free r z;rw[R.ends]at this;cases this
  ·exact z
  ·have:=R.free r' z;rw[S.ends]at this;cases this
 subst er;refine⟨rfl,?_⟩;have g1:=R.g1;have g2:=S.g1;have j1:=R.join;have j2:=S.join;rcases WS g g' with z | z | z
 ·have:=S.one (g-1) (by omega);omega
 ·exact z
 ·have:=R.one (g'-1) (by omega);omega
theorem OJ{a b:Rat}{xs:List Rat}{i r g r' g':Nat}(R:pH a b xs i r g)(S:pH a b xs i r' g'):r=r'/\g=g':=by
 rcases R with⟨e,rfl,rfl⟩ | ⟨i1,_,R⟩<;>rcases S with⟨e',rfl,rfl⟩ | ⟨i1',_,S⟩
 ·exact⟨rfl,rfl⟩
 ·omega
 ·omega
 ·exact zw2 R S
theorem JN{a b:Rat}{xs:List Rat} : ∀{es es':List (Nat × Nat × Nat)}{i n n':Nat},hV a b xs i es n->hV a b xs i es' n'->1<=n->cD a b (aj a b xs n)≠none->1<=n'->cD a b (aj a b xs n')=none->(∀k,k<=30->cg a b (aE (aj a b xs n')) (aX (aj a b xs n')) k=true)->False
 | [],[],i,n,n',h,k,n1,w,_,w',_=>by
  have e:i=n:=h;have e':i=n':=k;subst e;subst e';exact w w'
 | [],f::fs,i,n,n',h,k,n1,w,_,_,_=>by
  have e:i=n:=h;subst e;rcases k.2.1 with⟨z,_,_⟩ | ⟨_,z,_⟩
  ·omega
  ·exact w z
 | e::es,[],i,n,n',h,k,_,_,n1',_,all=>by
  have e':i=n':=k;subst e';rcases h.2.1 with⟨z,_,_⟩ | ⟨_,_,R⟩
  ·omega
  ·have:=R.ends
   rw[all _ R.lV]at this;cases this
 | e::es,f::fs,i,n,n',h,k,n1,w,n1',w',all=>by
  obtain⟨e1,e2⟩:=OJ h.2.1 k.2.1;have k2:=k.2.2;rw[<- e1,<- e2]at k2;exact JN h.2.2 k2 n1 w n1' w' all
theorem Oz{a b:Rat}{xs:List Rat} : ∀{es es':List (Nat × Nat × Nat)}{i n n':Nat},hV a b xs i es n->hV a b xs i es' n'->1<=n->cD a b (aj a b xs n)≠none->1<=n'->cD a b (aj a b xs n')≠none->es=es'/\n=n'
 | [],[],i,n,n',h,k,_,_,_,_=>⟨rfl,(show i=n from h).symm.trans k⟩
 | [],f::fs,i,n,n',h,k,n1,w,_,_=>by
  have e:i=n:=h;subst e;rcases k.2.1 with⟨z,_,_⟩ | ⟨_,z,_⟩
  ·omega
  ·exact absurd z w
 | e::es,[],i,n,n',h,k,_,_,n1',w'=>by
  have e':i=n':=k;subst e';rcases h.2.1 with⟨z,_,_⟩ | ⟨_,z,_⟩
  ·omega
  ·exact absurd z w'
 | e::es,f::fs,i,n,n',h,k,n1,w,n1',w'=>by
  obtain⟨e1,e2⟩:=OJ h.2.1 k.2.1;have k2:=k.2.2;rw[<- e1,<- e2]at k2;obtain⟨q1,q2⟩:=Oz h.2.2 k2 n1 w n1' w';refine⟨?_,q2⟩;rw[q1]
  congr 1
  exact qK (h.1.trans k.1.symm) (qK e1 e2)
theorem ztf{a b:Rat}{xs:List Rat}{es es':List (Nat × Nat × Nat)}{n n':Nat}{w w':String}(P:h9 a b xs es n w)(S:h9 a b xs es' n' w'):es=es'/\n=n'/\w=w':=by
 have hw:=P.word;have hw':=S.word;obtain⟨e1,e2⟩:=Oz P.walk S.walk P.n1 (by rw[hw];simp) S.n1 (by rw[hw'];simp);subst e2;rw[hw]at hw';exact⟨e1,rfl,wK hw'⟩
theorem zu8{a b:Rat}{xs:List Rat}{es:List (Nat × Nat × Nat)}{n:Nat}{w:String}(P:h9 a b xs es n w)(F:kM a b xs):False:=by
 obtain⟨es',i,h,i1,hw,all⟩:=F;exact JN P.walk h P.n1 (by rw[P.word];simp) i1 hw all
def fD(w:String)(n:Nat):wF:=.tuple [.str (vA w),.int (n:Int)]
def B2(K:wb)(a:Ad):Sp:=λvs H Q E=>∃x0,vs=[x0] /\ ∃(ra rb:Rat)(xs:List Rat),Is K H x0 (bA ra rb xs)/\cY ra rb xs /\
 (kM ra rb xs->∀H',ah H H'->E (.ref a.cJ) none H') /\ ∀es n w v H',h9 ra rb xs es n w->ah H H'->Is K H' v (fD w (ai (aj ra rb xs n)).length)->Q v H'
theorem Zf{K:wb}{a:Ad}{H:Hp}{Q:VK}{E:XK}{ra rb:Rat}{xs:List Rat}{v:V}(h:Is K H v (bA ra rb xs))(ok:cY ra rb xs)(qe:kM ra rb xs->∀H',ah H H'->E (.ref a.cJ) none H')(q:∀es n w v H',h9 ra rb xs es n w->ah H H'->Is K H' v (fD w (ai (aj ra rb xs n)).length)->Q v H'):B2 K a [v] H Q E:=⟨_,rfl,ra,rb,xs,h,ok,qe,q⟩
theorem h9.cm{a b:Rat}{xs:List Rat}{es:List (Nat × Nat × Nat)}{n:Nat}{w:String}(P:h9 a b xs es n w)(ok:cY a b xs):Cm 3500 (aS a b xs n::aj a b xs n):=by
 have hnf:=ok.nf n;have s1:=P.sp.1;have s2:=P.sp.2;exact ok.cm (by omega) (by omega)
theorem zyR(T:Txt K mg a):aN P w K mg base (eJ P w) 14 a.IJ a.HS tV (B2 K a):=by
 refine T.rY.F.pJ Ox ?_ ?_;wtm_at "b1"
 refine⟨_,(ak (ay 1 Ox.nd (di cF (jO (RH T) hr T.AN tY (ae (pv 0) af)) (gE gz aA) (λ_ _=>rfl)))
     (av (aG (bC (ae (au (pv 1)) (ae (bK (show aK _ (.builtin "len") (cP K)from eC) rfl T.z_len dQ (ae (ar (Ci T) hr T.rM (ae (bC (ae (au (pv 0)) (ae (au (pv 1)) af))) af)) af)) af)))))),?_⟩
 wtm_at "cl";rw[show start Rp [x0]=[some x0,none]from rfl];obtain⟨ra,rb,xs,hw,ok,qe,q⟩:=h;have h6:=ok.h6;o_head LW hw ok qe (λl H1 es n wd P hl S1 i1=>?_);have c:=P.cm ok;have bx:∀i,ag 4000 ((aj ra rb xs n).getD i 0):=λi=>((l_ c λy hy=>wy _ hy).get i).mono (by decide)
 have hw1:=hw.by S1;o_head oh i1 (λv2 i2=>?_);have i2:Is K H1 v2 (.tuple [N (aS ra rb xs n),TN (aj ra rb xs n),.str (vA wd)]):=i2;o_head aH (j:=2) i2 rfl (λv3 i3=>?_);rw[eK.mp i3];o_head aH (j:=0) hw1 rfl (λv4 i4=>?_);o_head aH (j:=1) i2 rfl (λv5 i5=>?_);o_head cc (ds:=[R ra rb,TN (aj ra rb xs n)]) (by simp) (.cons i4 (.cons i5 .nil)) (λv6 H6 S6 i6=>?_);o_head BB (show Is K H6 v6 (bA ra rb (aj ra rb xs n))from i6) (by rw[bP];omega) bx (λlf H7 us7 n7 S7 e7 t7=>?_);have hul:=t7.length;rw[wm]at hul;o_head jM (.of e7) ?_;rw[hul];o_head cc (ds:=[.str (vA wd),.int ((ai (aj ra rb xs n)).length:Int)]) (by simp) (.cons (eK.mpr rfl) (.cons (cb.mpr rfl) .nil)) (λv8 H8 S8 i8=>?_);exact q es n wd v8 H8 P (S1.trans (S6.trans (S7.trans S8))) i8
def cB(H:Hp)(p:wf)(k:Int):Prop:=∃a b n:Int,H p=some (.lst [.int a,.int b,.int n])/\0<=n/\n<=k
theorem cB.same{H H':Hp}{p:wf}{k:Int}(s:ah H H')(h:cB H p k):cB H' p k:=by
 obtain⟨x,y,n,e,h1,h2⟩:=h;exact⟨x,y,n,s _ _ e,h1,h2⟩
theorem cB.le{H:Hp}{p:wf}{j k:Int}(h:cB H p j)(e:j<=k):cB H p k:=by
 obtain⟨x,y,n,z,h1,h2⟩:=h;exact⟨x,y,n,z,h1,Int.le_trans h2 e⟩
theorem cB.ne{H:Hp}{p q:wf}{k:Int}(e:H q=none)(h:cB H p k):q≠p:=by
 obtain⟨x,y,n,z,_⟩:=h;exact(jN z e).symm
def Mz(K:wb):Sp:=λvs H Q _=>∃x0 x1,vs=[x0,x1] /\ ∃(a:wf)(ns:List Int)(k:Int),x0=.ref a/\x1=.int k/\jT K H a (ns.map V.int)/\ns.length<=63/\0<=k/\k<=1000 /\
 ∀p H',H p=none->ah H H'->cB H' p 0->Q (.ref p) H'
theorem zsV{K:wb}{H:Hp}{Q:VK}{E:XK}{a:wf}{ns:List Int}{k:Int}(h:jT K H a (ns.map V.int))(hl:ns.length<=63)(h0:0<=k)(h1:k<=1000)
  (q:∀p H',H p=none->ah H H'->cB H' p 0->Q (.ref p) H'):Mz K [.ref a,.int k] H Q E:=⟨_,_,rfl,a,ns,k,rfl,rfl,h,hl,h0,h1,q⟩
local macro_rules | `(tactic| wtm_at "pen")=>`(tactic| first
 | assumption
 | (apply cB.same;(focus assumption);wtm_at "pen"))
local macro_rules | `(tactic| wtm_at "ne")=>`(tactic| ((with_reducible apply cB.ne); (focus assumption); wtm_at "pen"))
local macro_rules | `(tactic| wtm_at "penle")=>`(tactic| exact cB.le (by wtm_at "pen") (by omega))
theorem zsw(T:Txt K mg a):aN P w K mg base aU 1 a.Ie a.GW yR (Mz K):=by
 refine T.Hv.F.ok zj ?_ ?_;wtm_at "b2"
 refine⟨_,(ak (ay 2 zj.nd (aD cN (aD cN (aD cj (aD cj aA (pv 1)) (pv 1)) (aD cj aA (pv 1))) aA))
     (ak (bV (bZ rn (pv 1) (bK (show aK _ (.builtin "len") (cP K)from eC) rfl T.z_len dQ (ae (pv 0) af)) (bL _)) (av (ay 2 zj.nd (di cF (pv 0) (pv 1) (λ_ _=>rfl)))) (av (bV (bZ lB (bK (show aK _ (.builtin "len") (cP K)from eC) rfl T.z_len dQ (ae (pv 0) af)) aA (bL _)) (av (ay 2 zj.nd (aD cN (di cF (pv 0) (aD gH (pv 1) (bK (show aK _ (.builtin "len") (cP K)from eC) rfl T.z_len dQ (ae (pv 0) af))) (λ_ _=>rfl)) (aD cj aA (pv 1))))) bY)))
     (ak (bV (bZ Nn (pv 2) (Mj (v:=1000000000000000000) ⟨by decide,by decide,by decide⟩ (by decide +kernel)) (bL _)) (av (aG (dC (ae (aD n_ (pv 2) (Mj (v:=1000000000000000000) ⟨by decide,by decide,by decide⟩ (by decide +kernel))) (ae (aD gH (pv 2) aA) (ae aA af)))))) bY)
     (av (aG (dC (ae aA (ae (aD cN (aD gH (pv 2) aA) (aD cj aA (pv 1))) (ae aA af))))))))),?_⟩
 wtm_at "cl";rw[show start R5 [x0,x1]=[some x0,some x1,none]from rfl];obtain⟨a',ns,k,rfl,rfl,hs,hl,h0,h1,q⟩:=h;have fin:∀(x y:Int),zb K [.int x,.int y,.int 0] H Q:=λx y=>fj (by show 3<=1000;decide) λp H' hp s e=>q p H' hp s ⟨x,y,0,e,by decide,by decide⟩
 o_head jM hs.sq ?_;k_few
 . refine Sa hs h0 (by assumption) (λz=>?_)
   k_few
   all_goals exact fin _ _
 . refine jM hs.sq ?_
   k_few
   . refine jM hs.sq ?_
     o_head Sa hs (QN _ (by omega)) (Qo _ (by omega)) (λz=>?_);k_few
     all_goals exact fin _ _
   all_goals exact fin _ _
def Ro(K:wb):Sp:=λvs H Q _=>∃x0 x1,vs=[x0,x1] /\ ∃(p:wf)(k m:Int),x0=.ref p/\x1=.int m/\cB H p k/\k<=1000000/\0<m/\Bd 8999 m /\
 ∀(r:Int)(H':Hp),0<=r->r<m->Exc p H H'->bo H H'->cB H' p (k+1)->Q (.int r) H'
theorem zrY{K:wb}{H:Hp}{Q:VK}{E:XK}{p:wf}{k m:Int}(h:cB H p k)(hk:k<=1000000)(hm:0<m)(hb:Bd 8999 m)
  (q:∀(r:Int)(H':Hp),0<=r->r<m->Exc p H H'->bo H H'->cB H' p (k+1)->Q (.int r) H'):Ro K [.ref p,.int m] H Q E:=⟨_,_,rfl,p,k,m,rfl,rfl,h,hk,hm,hb,q⟩
local macro_rules | `(tactic| wtm_at "gs")=>`(tactic| ((with_reducible apply zrY); (focus wtm_at "pen"); (focus omega); (focus omega); (focus wtm_at "bd128"); intro _ _ _ _ _ _ _))
theorem ke(T:Txt K mg a):aN P w K mg base aU 1 a.HN a.GI zV (Ro K):=by
 refine T.iX.F.ok w_ ?_ ?_;wtm_at "b2"
 refine⟨_,(ak (kj (aD cN (au (pv 0)) aA) (yb (pv 0) aA zt))
     (ak (bV (bZ lB (au (pv 0)) aA (bL _)) (ak (ay 2 w_.nd (aD gH (au (pv 0)) (pv 1)))
     (ak (kj (aD fP (au (pv 0)) (pv 1)) (yb (pv 0) aA zt))
     (av (aG (pv 2))))) bY)
     (ak (ay 3 w_.nd (aD gH (aD cN (aD cN (aD cj (au (pv 0)) aA) (aD cj (aD cj aA (au (pv 0))) (au (pv 0)))) aA) aA))
     (ak (ay 3 w_.nd (aD gH (aD cj (pv 3) (aD cN (aD gH (pv 3) aA) (au (pv 0)))) aA))
     (av (aG (aD gH (aD fP (aD gH (aD cj (pv 3) (aD cN (aD gH (pv 3) aA) aA)) aA) aA) (pv 1)))))))),?_⟩
 wtm_at "cl";rw[show start OQ [x0,x1]=[some x0,some x1,none,none]from rfl];obtain⟨p,k,m,rfl,rfl,⟨x,y,n,hp,hn0,hn1⟩,hk,hm,hbm,q⟩:=h;k_few
 all_goals
   exact q _ _ (QN _ (by omega)) (Qo _ hm) (by wtm_at "exc") (Exc.keep (p:=p) (by wtm_at "exc") hp) ⟨_,_,_,by assumption,by omega,by omega⟩
def Bq(K:wb):Sp:=λvs H Q _=>∃x0 x1,vs=[x0,x1] /\ ∃(t b:Int),x0=.int t/\x1=.int b/\b≠0/\Bd 8999 b /\ ∀v H',ah H H'->Is K H' v (N (wB t b))->Q v H'
theorem pK{K:wb}{H:Hp}{Q:VK}{E:XK}{t b:Int}(hb:b≠0)(hB:Bd 8999 b)(q:∀v H',ah H H'->Is K H' v (N (wB t b))->Q v H'):Bq K [.int t,.int b] H Q E:=⟨_,_,rfl,t,b,rfl,rfl,hb,hB,q⟩
theorem Y4{K:wb}{H:Hp}{Q:VK}{E:XK}{t b:Int}(hb:b≠0)(h1 : -100000000000000000000000000000000000000<=t)(h2:t<=100000000000000000000000000000000000000)(h3 : -100000000000000000000000000000000000000<=b)(h4:b<=100000000000000000000000000000000000000)
  (q:∀v H' (x:Rat),ah H H'->Is K H' v (N x)->x=wB t b->ag 128 x->Q v H'):Bq K [.int t,.int b] H Q E :=
 pK hb ((Bd.mf h3 h4).mono (by decide)) λv H' s h=>q v H' _ s h rfl (ag.divInt hb (Bd.mf h1 h2) (Bd.mf h3 h4))
local macro_rules | `(tactic| wtm_at "gs")=>`(tactic| ((with_reducible apply Y4); (focus omega); (focus omega); (focus omega); (focus omega); (focus omega); intro _ _ _ _ _ _ _))
theorem jq(T:Txt K mg a):aN P w K mg base aU 1 a.HY a.He ye (Bq K):=by
 refine T.h_.F.ok oP ?_ ?_;wtm_at "b2"
 refine⟨_,(ak (ay 2 oP.nd (bK oj rfl T.z_abs nC (ae (pv 0) af)))
     (ak (ay 3 oP.nd (bK oj rfl T.z_abs nC (ae (pv 1) af)))
     (ak (mT vJ (bZ lB (pv 3) aA (bL _)) (av (zBg (i:=2) (j:=3) rfl oP.nd rfl rfl (by decide) rfl rfl (ae (pv 3) (ae (aD gH (pv 2) (pv 3)) af)) rfl)))
     (ak (bV (bZ rn (pv 1) aA (bL _)) (av (ay 2 oP.nd (aD n_ aA (pv 2)))) bY)
     (av (aG (bC (ae (aD fP (pv 0) (pv 2)) (ae (aD fP (pv 1) (pv 2)) af))))))))),?_⟩
 wtm_at "cl";rw[show start M0 [x0,x1]=[some x0,some x1,none,none]from rfl];obtain⟨t,b,rfl,rfl,hb,hB,q⟩:=h;o_head Rh (λσ H'=>∃(x y:Int),σ = [some (.int t),some (.int b),some (.int x),some (.int y)]/\0<=x/\0<=y/\vv x y=vv t b/\H'=H) (λσ=>(OE σ 3).toNat) ⟨_,_,rfl,by split<;>omega,by split<;>omega,?_,rfl⟩ ?_
 . have e1:vv (if t<0 then -t else t) (if b<0 then -b else b)=vv t b:=by
     split<;>split<;>simp
   exact e1
 rintro σ H' ⟨x,y,rfl,hx,hy,hg,rfl⟩
 have hgb:Bd 8999 ((vv t b:Nat):Int):=hB.le (by
   have:vv t b ∣ b.natAbs:=Int.gcd_dvd_natAbs_right t b;have:=Uu (by omega) this
   simpa using this)
 k_few
 . refine NL ?_
   k_few;have h1:=QN x (show y≠0 by omega);have h2:=Qo x (show 0<y by omega);refine⟨?_,_,_,rfl,hy,h1,?_,rfl⟩
   . show(x % y).toNat<y.toNat
     omega
   . rw[<- hg];exact J0 (by omega) hx
 . rename_i h0 hneg
   have e0:y=0:=by omega
   subst e0
   have e:x=((vv t b:Nat):Int):=by
     rw[<- hg,xb];omega
   have e1:0-x=dv t b:=by unfold dv;rw[if_pos hneg,<- e];omega
   rw[e1];have hd:kh t (dv t b):=⟨E_ hb,by unfold dv;rw[if_pos hneg];exact hgb.neg⟩;refine CU hd ?_;k_few;exact ko (EO hb) (JU hb) q
 . rename_i h0 hneg
   have e0:y=0:=by omega
   subst e0
   have e:x=((vv t b:Nat):Int):=by
     rw[<- hg,xb];omega
   have e1:x=dv t b:=by unfold dv;rw[if_neg hneg,<- e]
   rw[e1];have hd:kh t (dv t b):=⟨E_ hb,by unfold dv;rw[if_neg hneg];exact hgb⟩;refine CU hd ?_;k_few;exact ko (EO hb) (JU hb) q
def MU(K:wb):Sp:=λvs H Q _=>∃x0 x1,vs=[x0,x1] /\ ∃(x y:Rat),Is K H x0 (N x)/\Is K H x1 (N y)/\ag 4000 x/\ag 4000 y/\Q (.bl (decide (x<y))) H
theorem Fd{K:wb}{H:Hp}{Q:VK}{E:XK}{x y:Rat}{v w:V}(h1:Is K H v (N x))(h2:Is K H w (N y))(b1:ag 4000 x)(b2:ag 4000 y)(q:Q (.bl (decide (x<y))) H):MU K [v,w] H Q E:=⟨_,_,rfl,x,y,h1,h2,b1,b2,q⟩
local macro_rules | `(tactic| wtm_at "gs")=>`(tactic| ((with_reducible apply Fd); (focus wtm_at "is"); (focus wtm_at "is"); (focus wtm_at "bdr"); (focus wtm_at "bdr")))
theorem Rw(T:Txt K mg a):aN P w K mg base aU 1 a.HM a.GJ y_ (MU K):=by
 refine T.AM.F.ok Ym ?_ ?_;wtm_at "b2";refine⟨_,(av (aG (gU rn (aD cj (au (pv 0)) (au (pv 1))) (aD cj (au (pv 1)) (au (pv 0))) (bL _)))),?_⟩;wtm_at "cl";rw[show start Co [x0,x1]=[some x0,some x1]from rfl];obtain⟨x,y,hx,hy,⟨bx1,bx2⟩,⟨by1,by2⟩,q⟩:=h;k_few;rw[M9];exact q
def Cn(K:wb)(a:Ad):wf->wg->Sp:=λex C vs H Q _=>∃x0,vs=[x0]/\x0=.ref ex /\ ∃w,Li a C w /\ ∀H',ah H H'->Q (.str w) H'
theorem zqP{K:wb}{a:Ad}{H:Hp}{Q:VK}{E:XK}{ex:wf}{C:wg}{w:Str}(h:Li a C w)(q:∀H',ah H H'->Q (.str w) H'):Cn K a ex C [.ref ex] H Q E:=⟨_,rfl,rfl,w,h,q⟩
theorem zq1(T:Txt K mg a):Dd P w K mg base 1 a.HE a.GN yT (Cn K a):=by
 refine T.rE.F.okH lE (λex C vs H Q E h=>by obtain⟨_,rfl,_⟩:=h;rfl) (λcdv A outer s H vs Q E ex C oe hr hd h=>?_);obtain⟨x0,rfl,h⟩:=h;have hu:=hr.units
 refine⟨_,(ak (ay 1 lE.nd (dC (ae (bC (ae dk (ae (bK (jA hd) rfl T.z_isinstance fE (ae (pv 0) (ae (bM (v:=.ref a.rF) rfl T.SV rfl) af))) af))) (ae (bC (ae dk (ae (bK (jA hd) rfl T.z_isinstance fE (ae (pv 0) (ae (bM (v:=.ref a.rP) rfl T.Tn rfl) af))) af))) af))))
     (ak (ay 1 lE.nd (aD cN (pv 1) (dC (ae (bC (ae dk (ae (bK (jA hd) rfl T.z_isinstance fE (ae (pv 0) (ae (bM (v:=.ref a.rG) rfl T.Tc rfl) af))) af))) (ae (bC (ae dk (ae (bK (jA hd) rfl T.z_isinstance fE (ae (pv 0) (ae (bM (v:=.ref a.dY) rfl T.Hn rfl) af))) af))) af)))))
     (ak (ay 1 lE.nd (aD cN (pv 1) (dC (ae (bC (ae dk (ae (bK (jA hd) rfl T.z_isinstance fE (ae (pv 0) (ae (bM (v:=.ref a.cJ) rfl T.Hu rfl) af))) af))) (ae (bC (ae dk (ae (bK (jA hd) rfl T.z_isinstance fE (ae (pv 0) (ae (bM (v:=.ref a.rV) rfl T.Ts rfl) af))) af))) af)))))
     (ak (ay 1 lE.nd (aD cN (pv 1) (dC (ae (bC (ae dk (ae (bK (jA hd) rfl T.z_isinstance fE (ae (pv 0) (ae (bM (v:=.ref a.rJ) rfl T.Tj rfl) af))) af))) (ae (bC (ae dk (ae (bK (jA hd) rfl T.z_isinstance fE (ae (pv 0) (ae (bM (v:=.ref a.rQ) rfl T.Tr rfl) af))) af))) af)))))
     (ak (ay 1 lE.nd (aD cN (pv 1) (dC (ae (bC (ae dk (ae (bK (jA hd) rfl T.z_isinstance fE (ae (pv 0) (ae (bM (v:=.ref a.rN) rfl T.To rfl) af))) af))) af))))
     (ak (Y6 hd (i:=2) lE.nd rfl (Or.inl rfl) (cn.by (N':=["_law_word","_law_one"]) (src:=[none,none]) rfl (show cK _ (az yf).names Fm ["_law_word","_law_one"] [none,none]=true from by decide +kernel)) (zxo (pv 1)) (λ_ _ _ _ _=>by exact(ZW (n:=2) hd (cR (aZ (i:=0) (show(["_law_word","_law_one"]:List Str).Nodup from by decide) rfl (Or.inl rfl)) (cR (aZ (i:=1) (show(["_law_word","_law_one"]:List Str).Nodup from by decide) rfl (Or.inl rfl)) gf)))) (λ_ _ _ _ _=>by exact(nD (dh (pv 1)))) (λ_ _ _ _ _=>by exact(pv 0)))
     (ak (bV (PW.pt (kq (bZ (show aM _ (wY .NotEq) (eD K)from jy hu) (bK (show aK _ (.builtin "len") (cP K)from eC) rfl T.z_len dQ (ae (pv 2) af)) aA (bL _)) (kF (dR (dh (bK (jA hd) rfl T.z_isinstance fE (ae (pv 0) (ae (lh (v:=.ty "ValueError") rfl T.z_ValueError znp rfl) af)))))))) (av (aG dk)) bY)
     (av (aG (au (pv 2))))))))))),?_⟩
 wtm_at "cl";rw[show start Fm [x0]=[some x0,none,none]from rfl];obtain⟨rfl,w,hw,q⟩:=h;rcases hw with⟨rfl,rfl⟩ | ⟨rfl,rfl⟩
 all_goals
   wtm_at "ga";refine zw4 (by assumption) (by repeat' (first | exact fK.nil | with_reducible apply fK.app | with_reducible apply fK.cons | (apply Y1;(focus assumption);(focus wtm_at "same")))) (by decide) (λD H1 S1 e1=>?_);simp only[ji,xC,QK,WX,List.filter_nil,vb,QG,w6,if_false,if_true]at e1;o_head jM (aI.of e1) ?_;rw[show((qV [V.str _]:Nat):Int)=1 from rfl];k_few;exact q _ (by wtm_at "same")
def NY(K:wb):Sp:=λvs H Q _=>∃x0 x1,vs=[x0,x1] /\ ∃(p:wf)(k m:Int),x0=.ref p/\x1=.int m/\cB H p k/\k<=1000/\1<=m/\m<=8 /\ ∀(l:wf)(H':Hp)(us:List V)(xs:List Rat),H l=none->Exc p H H'->bo H H'->cB H' p (k+30)->H' l=some (.lst us)->ao K H' us (xs.map N)->1<=xs.length->(xs.length:Int)<=m->(∀x∈xs,fk x)->Q (.ref l) H'
theorem ZV{K:wb}{H:Hp}{Q:VK}{E:XK}{p:wf}{k m:Int}(h:cB H p k)(hk:k<=1000)(h1:1<=m)(h8:m<=8)(q:∀(l:wf)(H':Hp)(us:List V)(xs:List Rat),H l=none->Exc p H H'->bo H H'->cB H' p (k+30)->H' l=some (.lst us)->ao K H' us (xs.map N)->1<=xs.length->(xs.length:Int)<=m->(∀x∈xs,fk x)->Q (.ref l) H'):NY K [.ref p,.int m] H Q E:=⟨_,_,rfl,p,k,m,rfl,rfl,h,hk,h1,h8,q⟩
theorem znI(T:Txt K mg a):aN P w K mg base aU 2 a.G_ a.F9 sT (NY K):=by
 refine T.Gm.F.ok mw ?_ ?_;wtm_at "b2"
 refine⟨_,(ak (ay 2 mw.nd (aD cN aA (ar (ke T) hr T.iX (ae (pv 0) (ae aA af)))))
     (ak (ay 3 mw.nd (dC af))
     (ak (fu vJ rfl (jj rfl T.z_range (ae (aD cN aA (ar (ke T) hr T.iX (ae (pv 0) (ae (pv 1) af)))) af)) (aZ (i:=4) mw.nd rfl (Or.inl rfl)) (ak (ay 5 mw.nd (ar (ke T) hr T.iX (ae (pv 0) (ae aA af))))
     (av (bV (PW.pt (zJ (bZ (show aM _ (wY .Eq) (df K)from d8 hu) (pv 5) aA (bL _)) (yr (bZ (show aM _ (wY .NotEq) (eD K)from jy hu) (pv 3) (dC af) (bL _))))) (av (iE (iO vV vS vT gZ (pv 3) (ae (di cF (pv 3) (ar (ke T) hr T.iX (ae (pv 0) (ae (bK (show aK _ (.builtin "len") (cP K)from eC) rfl T.z_len dQ (ae (pv 3) af)) af))) (λ_ _=>rfl)) af)))) (ak (ay 6 mw.nd (di cF (dC (ae (pv 2) (ae (aD cN aA (ar (ke T) hr T.iX (ae (pv 0) (ae aA af)))) af))) (dG U1 rfl T.z_int R3 (ae (gU (show aM _ (wY .Eq) (df K)from d8 hu) (pv 5) aA (bL _)) af)) (λ_ _=>rfl)))
     (av (iE (iO vV vS vT gZ (pv 3) (ae (ar (jq T) hr T.h_ (ae (ar (ke T) hr T.iX (ae (pv 0) (ae (pv 6) af))) (ae (pv 6) af))) af)))))))))
     (av (aG (pv 3)))))),?_⟩
 wtm_at "cl";rw[show start Rm [x0,x1]=[some x0,some x1,none,none,none,none,none]from rfl];obtain⟨p,k,m,rfl,rfl,hp,hk,h1,h8,q⟩:=h;wtm_at "ga";rename_i ra Hd ra0 ra1 E1 K1 P1 lf H2 hf S2 e2 c H3 c0 c1 E3 K3 P3;have hr60:1<=1+ra/\1+ra<=60:=by omega
 generalize 1+ra=r at *;have nef:lf≠p:=cB.ne hf P1
 have hfr:H lf=none:=by
   cases e:H lf with
   | none=>rfl
   | some o=>rw[E1 lf o nef e]at hf;cases hf
 have X0:Exc p H H3:=E1.trans (S2.exc.trans E3);have K0:bo H H3:=K1.trans (S2.keep.trans K3);have e3:H3 lf=some (.lst []):=E3.at nef e2;have P0:=P3;clear E1 K1 P1 hp S2 E3 K3 P3 e2 hf
 refine jR (n:=1+c) (by omega) (by omega) (λi σ H'=>∃(o4 o5 o6:Option V)(us:List V)(xs:List Rat),σ = [some (.ref p),some (.int m),some (.int r),some (.ref lf),o4,o5,o6]/\Exc p H H'/\bo H H'/\cB H' p (k+5+3*(i:Int))/\H' lf=some (.lst us)/\ao K H' us (xs.map N)/\xs.length=i /\ ∀x∈xs,fk x)
   ⟨_,_,_,[],[],rfl,X0,K0,P0.le (by omega),e3,.nil,rfl,by simp⟩ ?_ ?_
 . rintro i σ H4 hi ⟨o4,o5,o6,us,xs,rfl,X4,K4,P4,e4,t4,hlen,ph⟩
   have hi8:i<8:=by omega
   have hul:us.length=xs.length:=by rw[t4.length,wm]
   have grown:∀(H5 H6:Hp)(v:V)(x:Rat),Exc p H H5->bo H H5->cB H5 p (k+5+3*((i+1:Nat):Int))->H5 lf=some (.lst us)->ao K H5 us (xs.map N)->Is K H5 v (N x)->fk x->Exc lf H5 H6->H6 lf=some (.lst (us++[v]))->∃(us':List V)(xs':List Rat),Exc p H H6/\bo H H6/\cB H6 p (k+5+3*((i+1:Nat):Int))/\H6 lf=some (.lst us')/\ao K H6 us' (xs'.map N)/\xs'.length=i+1 /\ ∀x∈xs',fk x:=by
     intro H5 H6 v x X5 L5 P5 e5 t5 iv px E6 e6;have k6:=E6.keep e5;obtain⟨q1,q2,q3,q4,q5,q6⟩:=P5;refine⟨us++[v],xs++[x],λb o hb h=>E6 b o (jN h hfr) (X5 b o hb h),L5.trans k6,⟨q1,q2,q3,E6 p _ (Wp nef) q4,q5,q6⟩,e6,?_,by simp[hlen],λy hy=>?_⟩
     . rw[vx]
       exact(ao.keep k6 _ _ (dZ _) t5).append (.cons (iv.gT k6) .nil)
     . rcases We.mp hy with h | h
       . exact ph y h
       . rw[w5.mp h];exact px
   wtm_at "ga"
   . rename_i way H5 w0 w1 E5 K5 P5 z ln H6 n6 S6 e6
     have e56:H6 lf=some (.lst us):=S6 _ _ (E5.at nef e4);have t56:ao K H6 us (xs.map N):=ao.keep (K5.trans S6.keep) _ _ (dZ _) t4;have X56:Exc p H H6:=X4.trans (E5.trans S6.exc);have L56:bo H H6:=K4.trans (K5.trans S6.keep);have P56:=P5.same S6;clear E5 K5 P5 S6;refine zyv (dj e56 t56) (dj (xs:=[]) e6 .nil) ?_
     by_cases hx:xs=[]
     . rw[decide_eq_true hx]
       wtm_at "ga";rename_i u H6b u0 u1 E6 K6 P6 lu H7 nu S7 e7 under hu;have X5:=X56;have L5:=L56;have e5:=e56;have t5:=t56;have X7:Exc p H H7:=X5.trans (E6.trans S7.exc);have L7:bo H H7:=L5.trans (K6.trans S7.keep);have e7':H7 lf=some (.lst us):=S7 _ _ (E6.at nef e5);have t7:ao K H7 us (xs.map N):=ao.keep (K6.trans S7.keep) _ _ (dZ _) t5;refine gG (aI.of e7') ?_;k_few;rename_i t H8 t0 t1 E8 K8 P8 v9 H9 x9 S9 i9 ex9 b9;have e9:=S9 _ _ (E8.at nef e7');refine gq e9 (by omega) (λH10 E10 e10=>?_);k_few;obtain⟨us',xs',g1,g2,g3,g4,g5,g6,g7⟩:=grown H9 H10 v9 x9 (X7.trans (E8.trans S9.exc)) (L7.trans (K8.trans S9.keep)) ((P8.same S9).le (by omega)) e9 (ao.keep (K8.trans S9.keep) _ _ (dZ _) t7) i9 (by rw[ex9];exact Eu (by omega) (by omega) (by omega)) E10 e10;exact⟨_,_,_,us',xs',rfl,g1,g2,g3,g4,g5,g6,g7⟩
     . rw[decide_eq_false hx]
       have hx1:1<=xs.length:=by
         cases xs with
         | nil=>exact absurd rfl hx
         | cons x xs=>simp
       o_head gG (aI.of e56) ?_;o_head jM (.of e56) ?_;k_few;rename_i t H8 t0 t1 E8 K8 P8;have e8:=E8.at nef e56;have t8:ao K H8 us (xs.map N):=ao.keep K8 _ _ (dZ _) t56;refine lT (dj e8 t8) t0 (by omega) (λv9 i9=>?_);o_head gq e8 (by omega) (λH10 E10 e10=>?_);k_few;obtain⟨us',xs',g1,g2,g3,g4,g5,g6,g7⟩:=grown H8 H10 v9 _ (X56.trans E8) (L56.trans K8) (P8.le (by omega)) e8 t8 i9 (ph _ (cU (by omega))) E10 e10;exact⟨_,_,_,us',xs',rfl,g1,g2,g3,g4,g5,g6,g7⟩
   . skip
     rename_i way H5 w0 w1 E5 K5 P5 z u H6b u0 u1 E6 K6 P6 lu H7 nu S7 e7 under hu;have X5:=X4.trans E5;have L5:=K4.trans K5;have e5:=E5.at nef e4;have t5:ao K H5 us (xs.map N):=ao.keep K5 _ _ (dZ _) t4;have X7:Exc p H H7:=X5.trans (E6.trans S7.exc);have L7:bo H H7:=L5.trans (K6.trans S7.keep);have e7':H7 lf=some (.lst us):=S7 _ _ (E6.at nef e5);have t7:ao K H7 us (xs.map N):=ao.keep (K6.trans S7.keep) _ _ (dZ _) t5;refine gG (aI.of e7') ?_;k_few;rename_i t H8 t0 t1 E8 K8 P8 v9 H9 x9 S9 i9 ex9 b9;have e9:=S9 _ _ (E8.at nef e7');refine gq e9 (by omega) (λH10 E10 e10=>?_);k_few;obtain⟨us',xs',g1,g2,g3,g4,g5,g6,g7⟩:=grown H9 H10 v9 x9 (X7.trans (E8.trans S9.exc)) (L7.trans (K8.trans S9.keep)) ((P8.same S9).le (by omega)) e9 (ao.keep (K8.trans S9.keep) _ _ (dZ _) t7) i9 (by rw[ex9];exact Eu (by omega) (by omega) (by omega)) E10 e10;exact⟨_,_,_,us',xs',rfl,g1,g2,g3,g4,g5,g6,g7⟩
 . rintro σ H4 ⟨o4,o5,o6,us,xs,rfl,X4,K4,P4,e4,t4,hlen,ph⟩
   k_few;exact q lf H4 us xs hfr X4 K4 (P4.le (by omega)) e4 t4 (by omega) (by omega) ph
theorem zrH{K:wb}{H:Hp}{us:List V}{u:V}{xs:List Rat}{x:Rat}(h:ao K H us (xs.map N))(k:Is K H u (N x)):ao K H (us++[u]) ((xs++[x]).map N):=by
 rw[vx];exact h.append (.cons k .nil)
theorem sL:∀{ts:List Int}{ys:List V},ys.length=ts.length->(∀(j:Nat)(y:V),ys[j]? = some y->y=V.int (ts.getD j 0))->ys=ts.map V.int
 | [],ys,hl,_=>WW hl
 | t::ts,[],hl,_=>by cases hl
 | t::ts,y::ys,hl,h=>by
  rw[vb,<- sL (by simpa using hl) λj y e=>h (j+1) y e,h 0 y rfl]
  rfl
theorem zG{ts:List Int}{i:Nat}{x:V}(h:(ts.map V.int)[i]? = some x):i<ts.length/\x=.int (ts.getD i 0):=by
 have hi:i<ts.length:=by
  rcases wz i ts.length with z | z
  ·exact z
  ·rw[wE (by simpa using z)]at h;cases h
 refine⟨hi,?_⟩;rw[wu,wc hi]at h;rw[wa,wc hi];exact(wK h).symm
theorem Bo{f:Int->Int}{ts:List Int}{i:Nat}(h:i<ts.length):(ts.map f).getD i 0=f (ts.getD i 0):=by
 rw[wa,wa,wu,wc h]
 rfl
theorem Fv{ts:List Int}{i:Nat}(h:i<ts.length):ts.getD i 0∈ts:=by
 rw[wa,wc h];exact vO h
theorem zsl{B:Int}{ts:List Int}{i:Nat}(h:i<ts.length):(dN B ts).getD i 0=wB (ts.getD i 0) B:=by
 unfold dN;rw[wa,wa,wu,wc h]
 rfl
theorem zvE{α β : Type}{f : α -> β}{xs:List α}{i:Nat}{d : α}{e : β}(h:i<xs.length):(xs.map f).getD i e=f (xs.getD i d):=by
 rw[wa,wa,wu,wc h]
 rfl
theorem Kc(ts:List Int):ts.map V.int++[V.int 0]=(ts++[0]).map V.int:=by simp
theorem zva{B t:Int}(hB:0<B):wB (B-t) B=1-wB t B:=by
 refine fL (by omega) ?_;have q2:=cy t (show B≠0 by omega);have q3:((B-t:Int):Rat)=(B:Rat)-(t:Rat):=by push_cast;rfl
 rw[q3,<- q2]
 grind
def om(a b:Rat)(ns:List Int)(xs:List Rat)(k:Nat):List Rat:=(wx k).map λj=>1-(aQ a b ns xs j).getD j 0
theorem Zp(a b:Rat)(ns:List Int)(xs:List Rat)(k:Nat):om a b ns xs (k+1)=om a b ns xs k++[1-(aQ a b ns xs k).getD k 0]:=by
 unfold om;rw[QM,vx]
 rfl
structure Pj(K:wb)(H:Hp)(a b:Rat)(ns:List Int)(ys:List Rat)(lw lr:wf)(k:Nat)(B:Int)(ts:List Int)(ln:wf)(H':Hp):Prop where
 pos:0<B
 bB:Bd (2700+2*k+21*upTo ns k) B
 bt:∀t∈ts,Bd (2700+2*k+21*upTo ns k) t
 eq:dN B ts=turned a b ns ys k
 same:ah H H'
 now:H' ln=some (.lst (ts.map V.int))
 nw:ln≠lw
 nr:ln≠lr
 w:∃ws,H' lw=some (.lst ws)/\ws.length=k/\ao K H' ws ((om a b ns ys k).map N)
 r:∃rs,H' lr=some (.lst rs)/\rs.length=k /\ ∀j v,rs[j]? = some v->∃lj us,v=.ref lj/\lj≠lw/\lj≠lr/\H' lj=some (.lst us)/\ao K H' us ((turned a b ns ys (j+1)).map N)
def mM(a b:Rat)(ns:List Int)(xs:List Rat):List (List Rat):=(wx ns.length).map λj=>turned a b ns xs (j+1)
theorem C2(a b:Rat)(ns:List Int)(xs:List Rat):(mM a b ns xs).length=ns.length:=by simp[mM]
theorem NH{a b:Rat}{ns:List Int}{xs:List Rat}{k:Nat}(h:k<ns.length):(mM a b ns xs).getD k []=turned a b ns xs (k+1):=by
 unfold mM;rw[wa,wu,vZ h]
 rfl
def JZ(K:wb):Sp:=λvs H Q _=>∃x0 x1 x2,vs=[x0,x1,x2] /\ ∃(a b:Rat)(ns:List Int)(xs:List Rat),Is K H x0 (R a b)/\Is K H x1 (TZ ns)/\Is K H x2 (TN xs)/\ag 10 a/\ag 10 b/\cE ns/\ns.length=xs.length+1/\(∀i,ag 330 (xs.getD i 0)) /\
 ∀v H',ah H H'->Is K H' v (.tuple [LN (om a b ns (xs++[0]) ns.length),LL (mM a b ns (xs++[0]))])->Q v H'
theorem zpK{K:wb}{H:Hp}{Q:VK}{E:XK}{a b:Rat}{ns:List Int}{xs:List Rat}{v w u:V}(h1:Is K H v (R a b))(h2:Is K H w (TZ ns))(h3:Is K H u (TN xs))(b1:ag 10 a)(b2:ag 10 b)(ok:cE ns)(hl:ns.length=xs.length+1)(hb:∀i,ag 330 (xs.getD i 0))
  (q:∀v H',ah H H'->Is K H' v (.tuple [LN (om a b ns (xs++[0]) ns.length),LL (mM a b ns (xs++[0]))])->Q v H'):JZ K [v,w,u] H Q E:=⟨_,_,_,rfl,a,b,ns,xs,h1,h2,h3,b1,b2,ok,hl,hb,q⟩
theorem zpc(T:Txt K mg a):aN P w K mg base aU 2 a.Hl a.Gu yB (JZ K):=by
 refine T.GP.F.ok fc ?_ ?_;wtm_at "b3"
 refine⟨_,(ak (kj (pv 0) (gC (n:=2) rfl (cR (gC (n:=2) rfl (cR (aZ (i:=3) fc.nd rfl (Or.inr rfl)) (cR (aZ (i:=4) fc.nd rfl (Or.inr rfl)) gf))) (cR (gC (n:=2) rfl (cR (aZ (i:=5) fc.nd rfl (Or.inr rfl)) (cR (aZ (i:=6) fc.nd rfl (Or.inr rfl)) gf))) gf))))
     (ak (ay 7 fc.nd aA)
     (ak (fu vJ rfl (iM (pv 2)) (aZ (i:=8) fc.nd rfl (Or.inl rfl)) (av (ay 7 fc.nd (aD cj (pv 7) (au (pv 8))))))
     (ak (ay 9 fc.nd (aD cN (eH rfl (cn.by (N':=["_law_one","_law_bottom"]) (src:=[none,some 7]) rfl (show cK _ (az lK).names mG ["_law_one","_law_bottom"] [none,some 7]=true from by decide +kernel)) (iM (pv 2)) (λ_ _ _ _ _=>(aZ (i:=0) (show(["_law_one","_law_bottom"]:List Str).Nodup from by decide) rfl (Or.inl rfl))) (λ_ _ _ _ _=>eA) (λ_ _ _ _ _=>(aD cj (p_ (K:=K) cF (pv 0)) (aD fP (pv 1) (p_ (K:=K) cF (pv 0)))))) (dC (ae aA af))))
     (ak (ay 10 fc.nd (dC af))
     (ak (ay 11 fc.nd (dC af))
     (ak (fu vJ rfl (iM (pv 1)) (aZ (i:=12) fc.nd rfl (Or.inl rfl)) (ak (ay 13 fc.nd (aD n_ (pv 7) (au (pv 9))))
     (ak (iE (iO vV vS vT gZ (pv 10) (ae (ar (jq T) hr T.h_ (ae (pv 13) (ae (pv 7) af))) af)))
     (ak (mI (i:=9) fc.nd rfl (Or.inl rfl) rfl (cn.by (N':=["_law_one","_law_rise"]) (src:=[none,some 13]) rfl (show cK _ (az lK).names mG ["_law_one","_law_rise"] [none,some 13]=true from by decide +kernel)) (iU (m5 nZ (pv 9) (nF aA) mL)) (λ_ _ _ _ _=>(aZ (i:=0) (show(["_law_one","_law_rise"]:List Str).Nodup from by decide) rfl (Or.inl rfl))) (λ_ _ _ _ _=>eA) (λ_ _ _ _ _=>(aD cN (pv 0) (pv 1))))
     (ak (fu vJ rfl (jj rfl T.z_range (ae (pv 12) af)) (aZ (i:=14) fc.nd rfl (Or.inl rfl)) (ak (mI (i:=9) fc.nd rfl (Or.inl rfl) rfl (cn.by (N':=["_law_one","_law_bottom","_law_a","_law_under_b","_law_b","_law_under_a"]) (src:=[none,some 7,some 3,some 6,some 5,some 4]) rfl (show cK _ (az lK).names mG ["_law_one","_law_bottom","_law_a","_law_under_b","_law_b","_law_under_a"] [none,some 7,some 3,some 6,some 5,some 4]=true from by decide +kernel)) (iU (pv 9)) (λ_ _ _ _ _=>(aZ (i:=0) (show(["_law_one","_law_bottom","_law_a","_law_under_b","_law_b","_law_under_a"]:List Str).Nodup from by decide) rfl (Or.inl rfl))) (λ_ _ _ _ _=>eA) (λ_ _ _ _ _=>(aD cN (aD cj (aD cj (pv 2) (pv 3)) (pv 0)) (aD cj (aD cj (pv 4) (pv 5)) (pv 1)))))
     (av (ay 7 fc.nd (aD cj (aD cj (pv 7) (pv 4)) (pv 6))))))
     (ak (iE (iO vV vS vT gZ (pv 9) (ae aA af)))
     (av (iE (iO vV vS vT gZ (pv 11) (ae (eH rfl (cn.by (N':=["_law_one","_law_bottom"]) (src:=[none,some 7]) rfl (show cK _ (az lK).names mG ["_law_one","_law_bottom"] [none,some 7]=true from by decide +kernel)) (iU (pv 9)) (λ_ _ _ _ _=>(aZ (i:=0) (show(["_law_one","_law_bottom"]:List Str).Nodup from by decide) rfl (Or.inl rfl))) (λ_ _ _ _ _=>eA) (λ_ _ _ _ _=>(ar (jq (K:=K) (mg:=mg) (a:=a) T) hr T.h_ (ae (pv 0) (ae (pv 1) af))))) af))))))))))
     (av (aG (bC (ae (pv 10) (ae (pv 11) af)))))))))))),?_⟩
 wtm_at "cl";rw[show start mG [x0,x1,x2]=[some x0,some x1,some x2,none,none,none,none,none,none,none,none,none,none,none,none]from rfl];obtain⟨a',b',ns,xs,hr',hn',hp',ba,bb,ok,hlen,hbx,q⟩:=h;have hfew:=ok.b8;have hsome:=ok.some;have bD:∀k,k<=xs.length->Bd 2320 (jK xs k):=λk hk=>(DV hbx k).mono (by omega)
 have ba1:=ba.t;have ba2:=ba.b;have bb1:=bb.t;have bb2:=bb.b;k_few;obtain⟨ap,vs,rfl,hsp,tp⟩:=bW.mp hp';have hvl:=tp.length;rw[wm]at hvl;refine Dy hsp (λk σ H'=>∃o,σ = [some x0,some x1,some (.ref ap),some (.int a'.num),some (.int (a'.den:Int)),some (.int b'.num),some (.int (b'.den:Int)),some (.int (jK xs k)),o,none,none,none,none,none,none]/\H'=H) ⟨_,rfl,rfl⟩ (by rintro i σ H' _ ⟨o,rfl,rfl⟩;exact hsp) ?_ ?_
 . rintro k x σ H' hx ⟨o,rfl,rfl⟩
   obtain⟨hk,ix⟩:=dM tp hx;have bk:=bD k (by omega);have bxk:=hbx k;k_few;exact⟨_,rfl,rfl⟩
 . rintro σ H' ⟨o,rfl,hH⟩
   have hH:=hH.symm;subst hH;rw[hvl];have hB0:=Ei xs xs.length;have bB:=bD xs.length (wp _);have hdv:=λj (hj:j<xs.length)=>C4 xs xs.length j hj
   generalize jK xs xs.length=B at hB0 bB hdv ⊢;o_head jl hsp (o0:=none) (tl:=[some (.int B)]) rfl (λi v _=>v=.int ((xs.getD i 0).num*B.fdiv ((xs.getD i 0).den:Int))) ?_ ?_
   . rintro D i x ys o H1 hx inv
     obtain⟨hi,ix⟩:=dM tp hx;have ix1:=ix.by inv.same;have bxk:=hbx i;have bx2:=bxk.b;have hf:kh B ((xs.getD i 0).den:Int):=⟨fU _,bx2.mono (by decide)⟩;have bq:=BK (den_pos (xs.getD i 0)) hB0 bB;k_few;exact eS inv (by omega) (λ_ _ _ _ _ h=>h) ⟨_,rfl⟩ (ah.refl _) rfl
   . rintro D ys H2 hn2 S2 e2 hl2 hr2
     have hys:ys=(xs.map λx=>x.num*B.fdiv (x.den:Int)).map V.int:=sL (by rw[wm];omega) (λj y hy=>by
       have hj:j<xs.length:=by
         rcases wz j ys.length with z | z
         . omega
         . rw[wE z]at hy;cases hy
       rw[hr2 j y hy,zvE (d:=0) hj])
     subst hys
     have ht0:dN B (xs.map λx=>x.num*B.fdiv (x.den:Int))=xs:=by
       unfold dN;rw[WH];refine WM (by simp) λj h1 h2=>?_
       have hd:=hdv j h2;rw[wa,wc h2]at hd;rw[WY];exact M7 hB0 hd
     have bt0:∀t∈(xs.map λx=>x.num*B.fdiv (x.den:Int)),Bd 2700 t:=λt ht=>by
       obtain⟨x,hx,rfl⟩:=wS.mp ht;obtain⟨j,hj,rfl⟩:=wX hx;have hb:=hbx j;rw[wa,wc hj]at hb;exact(hb.t.mul (BK (den_pos _) hB0 bB)).mono (by decide)
     have hts:(xs.map λx=>x.num*B.fdiv (x.den:Int)).length=xs.length:=wm ..;generalize (xs.map λx=>x.num*B.fdiv (x.den:Int))=ts at e2 ht0 bt0 hts;o_head fj (by simp) (λl3 H3 hl3 S3 e3=>?_);refine oO (S3 _ _ e2) e3 (VG (kr (by simp;omega))) (λln H4 hln S4 e4=>?_);rw[Kc]at e4;o_head fj (by simp) (λlw H5 hlw S5 e5=>?_);o_head fj (by simp) (λlr H6 hlr S6 e6=>?_);have T6:ah H H6:=S2.trans (S3.trans (S4.trans (S5.trans S6)));have hDw:=jz (S2.trans (S3.trans S4)) hlw;have hDr:=jz (S2.trans (S3.trans (S4.trans S5))) hlr;have newr:lw≠lr:=λz=>by subst z;rw[e5]at hlr;cases hlr
     have nw0:ln≠lw:=λz=>by subst z;rw[e4]at hlw;cases hlw
     have nr0:ln≠lr:=λz=>by subst z;rw[S5 _ _ e4]at hlr;cases hlr
     have bz:Bd 2700 (0:Int):=(Bd.mf (by decide) (by decide)).mono (by decide)
     have i0:Pj K H a' b' ns (xs++[0]) lw lr 0 B (ts++[0]) ln H6:={
       pos:=hB0
       bB:=bB.mono (by omega)
       bt:=λt ht=>by
         rcases We.mp ht with h | h
         . exact(bt0 t h).mono (by omega)
         . rw[w5.mp h];exact bz.mono (by omega)
       eq:=by rw[PZ,ht0];rfl
       same:=T6
       now:=S6 _ _ (S5 _ _ e4)
       nw:=nw0
       nr:=nr0
       w:=⟨[],S6 _ _ e5,rfl,.nil⟩
       r:=⟨[],e6,rfl,λj v h=>by simp at h⟩}
     obtain⟨an,rfl,hsn⟩:=nA.mp hn';clear e2 e3 e4 e5 e6 S2 S3 S4 S5 S6 hl3 hln hlw hlr hn2 hr2 hl2 bt0 ht0 T6;k_few
     refine Dy (i0.same.iV hsn) (λk σ H'=>∃B ts ln o8 o12 o13 o14,σ = [some x0,some (.ref an),some (.ref ap),some (.int a'.num),some (.int (a'.den:Int)),some (.int b'.num),some (.int (b'.den:Int)),some (.int B),o8,some (.ref ln),some (.ref lw),some (.ref lr),o12,o13,o14]/\Pj K H a' b' ns (xs++[0]) lw lr k B ts ln H')
       ⟨_,_,_,_,_,_,_,rfl,i0⟩ (by rintro k σ H' _ ⟨B,ts,ln,o8,o12,o13,o14,rfl,i⟩;exact i.same.iV hsn) ?_ ?_
     . clear i0
       rintro k x σ H7 hx ⟨B,ts,ln,o8,o12,o13,o14,rfl,iv⟩;obtain⟨hk,rfl⟩:=zG hx;have hnk:=ok.each (ns.getD k 0) (Fv hk);have hU:=ok.upTo;have hU1:=Eg (ns:=ns) (show k+1<=ns.length by omega) (wp _);have hUs:=mD hk
       have hlt:ts.length=xs.length+1:=by
         have h1:=congrArg qV iv.eq;rw[yx _ _ _ _ (by simp)]at h1
         simpa [dN] using h1
       obtain⟨t0,tr,rfl⟩:∃t0 tr,ts=t0::tr:=by
         cases ts with
         | nil=>simp at hlt
         | cons t0 tr=>exact⟨t0,tr,rfl⟩
       have hB0:=iv.pos;have bB:=iv.bB;have enow:=iv.now;rw[vb]at enow;have hhead:(turned a' b' ns (xs++[0]) k).headD 0=wB t0 B:=by rw[<- iv.eq];rfl
       have htail:(turned a' b' ns (xs++[0]) k).tail=dN B tr:=by rw[<- iv.eq];rfl
       have hrow:(aQ a' b' ns (xs++[0]) k).getD k 0=wB t0 B:=by rw[<- yi _ _ _ _ (by simp;omega),hhead]
       have htr:tr.length=xs.length:=by simpa using hlt
       obtain⟨ws,ew,hwl,tw⟩:=iv.w;obtain⟨rs,er,hrl,tR⟩:=iv.r;o_head jo (aI.of enow) (show gy _ (0:Int)=some (V.int t0)from kU (j:=0) rfl) ?_;o_head gG (aI.of ew) ?_;o_head pK (by omega) (bB.mono (by omega)) (λv8 H8 S8 i8=>?_);rw[zva hB0]at i8;o_head gq (S8 _ _ ew) (by omega) (λH9 E9 e9=>?_);have K9:bo H8 H9:=E9.keep (S8 _ _ ew);have en9:H9 ln=some (.lst (V.int t0::tr.map V.int)):=E9 _ _ iv.nw (S8 _ _ enow);have er9:=E9 _ _ (Wp newr) (S8 _ _ er);have T9:ah H H9:=(iv.same.trans S8).grow hDw E9;o_head Oo (aI.of en9) (λl10 H10 n10 S10 e10=>?_)
       have e10':H10 l10=some (.lst (tr.map V.int)):=by
         rw[e10,show jm (V.int t0::tr.map V.int) (some 1) none=iP (V.int t0::tr.map V.int) (some 1) none from rfl,Pz]
         rfl
       o_head lM (aI.of e10') (o0:=none) (tl:=[some (.int (B-t0))]) rfl (λi v _=>v=.int (tr.getD i 0+(B-t0))) ?_ ?_
       . rintro D' i x ys' o' H1 hx' inv
         obtain⟨hi,rfl⟩:=zG hx';k_few;exact eS inv (by omega) (λ_ _ _ _ _ h=>h) ⟨_,rfl⟩ (ah.refl _) rfl
       . rintro l11 ys' H11 n11 S11 e11 hl11 hr11
         have hys:ys'=(tr.map λt=>t+(B-t0)).map V.int:=sL (by simpa using hl11) (λj y hy=>by
           have hj:j<tr.length:=by
             rcases wz j ys'.length with z | z
             . simp at hl11;omega
             . rw[wE z]at hy;cases hy
           rw[hr11 j y hy,Bo hj])
         subst hys;have b0:Bd (2700+2*k+21*upTo ns k+2) B:=bB.mono (by omega)
         have bt0':∀t∈(tr.map λt=>t+(B-t0)),Bd (2700+2*k+21*upTo ns k+2) t:=λt ht=>by
           obtain⟨u,hu,rfl⟩:=wS.mp ht;exact((iv.bt u (wy _ hu)).add (bB.sub (iv.bt t0 (wC ..)))).mono (by omega)
         have eq0:dN B (tr.map λt=>t+(B-t0))=(turned a' b' ns (xs++[0]) k).tail.map λy=>push a' b' 0 (y+(1-(turned a' b' ns (xs++[0]) k).headD 0)):=by
           rw[zsM hB0,htail,hhead]
           rfl
         have n11':=jz S10 n11;have S9_11:=S10.trans S11;clear hr11 hl11 n11 S11 e10 e10' n10 enow en9;k_few
         refine jR (n:=ns.getD k 0) (by omega) (by omega) (λi σ H'=>∃(B':Int)(ts':List Int)(li:wf)(o14:Option V),σ = [some x0,some (.ref an),some (.ref ap),some (.int a'.num),some (.int (a'.den:Int)),some (.int b'.num),some (.int (b'.den:Int)),some (.int B'),o8,some (.ref li),some (.ref lw),some (.ref lr),some (.int (ns.getD k 0)),some (.int (B-t0)),o14]/\0<B'/\Bd (2700+2*k+21*upTo ns k+2+21*i) B'/\(∀t∈ts',Bd (2700+2*k+21*upTo ns k+2+21*i) t) /\
           dN B' ts'=((turned a' b' ns (xs++[0]) k).tail.map λy=>push a' b' i (y+(1-(turned a' b' ns (xs++[0]) k).headD 0)))/\ah H9 H'/\H' li=some (.lst (ts'.map V.int))/\H9 li=none) ⟨B,_,l11,_,rfl,hB0,b0.mono (by omega),λt ht=>(bt0' t ht).mono (by omega),eq0,S9_11,e11,n11'⟩ ?_ ?_
         . rintro i σ H12 hi ⟨B',ts',li,o14,rfl,hB',bB',bt',eq',S12,e12,n12⟩
           have hi8:i<8:=by omega
           have hlt':ts'.length=xs.length:=by
             have h1:=congrArg qV eq';rw[wm,htail]at h1
             simpa [dN,htr] using h1
           have bB7:Bd 3000 B':=bB'.mono (by omega);o_head lM (aI.of e12) (o0:=none) (tl:=[some (.int B'),some (.int a'.num),some (.int (b'.den:Int)),some (.int b'.num),some (.int (a'.den:Int))]) rfl (λj v _=>v=.int (a'.num*(b'.den:Int)*ts'.getD j 0+b'.num*(a'.den:Int)*B')) ?_ ?_
           . rintro D' j x ys' o' H1 hx' inv
             obtain⟨hj,rfl⟩:=zG hx';have bj:Bd 3000 (ts'.getD j 0):=(bt' _ (Fv hj)).mono (by omega);k_few;exact eS inv (by omega) (λ_ _ _ _ _ h=>h) ⟨_,rfl⟩ (ah.refl _) rfl
           . rintro l13 ys' H13 n13 S13 e13 hl13 hr13
             have hys:ys'=(ts'.map λt=>a'.num*(b'.den:Int)*t+b'.num*(a'.den:Int)*B').map V.int:=sL (by simpa using hl13) (λj y hy=>by
               have hj:j<ts'.length:=by
                 rcases wz j ys'.length with z | z
                 . simp at hl13;omega
                 . rw[wE z]at hy;cases hy
               rw[hr13 j y hy,Bo hj])
             subst hys;o_head ⟨_,_,l13,_,rfl,Wd (Wd hB' (den_pos a')) (den_pos b'),((bB'.mul ba2).mul bb2).mono (by omega),λt ht=>?_,?_,S12.trans S13,e13,jz S12 n13⟩
             . obtain⟨u,hu,rfl⟩:=wS.mp ht
               exact(((ba1.mul bb2).mul (bt' u hu)).add ((bb1.mul ba2).mul bB')).mono (by omega)
             . rw[zsk hB',eq',WH]
               rfl
         . rintro σ H12 ⟨B',ts',li,o14,rfl,hB',bB',bt',eq',S12,e12,n12⟩
           have hlt':ts'.length=xs.length:=by
             have h1:=congrArg qV eq';rw[wm,htail]at h1
             simpa [dN,htr] using h1
           have hli:H li=none:=jz T9 n12;have newl:li≠lw:=λz=>by subst z;rw[e9]at n12;cases n12
           have nerl:li≠lr:=λz=>by subst z;rw[er9]at n12;cases n12
           o_head gG (aI.of e12) ?_;o_head gq e12 (by simp;omega) (λH14 E14 e14=>?_);rw[Kc]at e14;have K14:bo H12 H14:=E14.keep e12;have T14:ah H H14:=(T9.trans S12).grow hli E14;have er14:=E14 _ _ (Wp nerl) (S12 _ _ er9);have ew14:=E14 _ _ (Wp newl) (S12 _ _ e9);o_head gG (aI.of er14) ?_;o_head lM (aI.of e14) (o0:=none) (tl:=[some (.int B')]) rfl (λj v H=>Is K H v (N ((dN B' (ts'++[0])).getD j 0))) ?_ ?_
           . rintro D' j x ys' o' H1 hx' inv
             obtain⟨hj,rfl⟩:=zG hx';rw[wZ,Wm]at hj;o_head pK (by omega) (bB'.mono (by omega)) (λv5 H5 S5 i5=>?_);exact eS inv (by omega) f_ ⟨_,rfl⟩ S5 (by rw[zsl (by simp;omega)];exact i5)
           . rintro l15 us H15 n15 S15 e15 hl15 hr15
             have n15w:l15≠lw:=λz=>by subst z;rw[ew14]at n15;cases n15
             have n15r:l15≠lr:=λz=>by subst z;rw[er14]at n15;cases n15
             o_head gq (S15 _ _ er14) (by omega) (λH16 E16 e16=>?_);have K16:bo H15 H16:=E16.keep (S15 _ _ er14);have K8_16:bo H8 H16:=K9.trans (S12.keep.trans (K14.trans (S15.keep.trans K16)));have hbits:2700+2*k+21*upTo ns k+2+21*(ns.getD k 0).toNat<=2700+2*(k+1)+21*upTo ns (k+1):=by omega
             have hnext:dN B' (ts'++[0])=turned a' b' ns (xs++[0]) (k+1):=by
               rw[PZ,eq']
               rfl
             refine⟨B',ts'++[0],li,_,_,_,_,rfl,?_⟩
             exact {
               pos:=hB'
               bB:=bB'.mono hbits
               bt:=λt ht=>by
                 rcases We.mp ht with h | h
                 . exact(bt' t h).mono hbits
                 . rw[w5.mp h];exact bz.mono (by omega)
               eq:=hnext
               same:=(T14.trans S15).grow hDr E16
               now:=E16 _ _ nerl (S15 _ _ e14)
               nw:=newl
               nr:=nerl
               w:=⟨ws++[v8],E16 _ _ newr (S15 _ _ ew14),by simp[hwl],by
                 rw[Zp,hrow];exact zrH (ao.keep (S8.keep.trans K8_16) _ _ (dZ _) tw) (i8.gT K8_16)⟩
               r:=⟨rs++[.ref l15],e16,by simp[hrl],λj v hv=>by
                 rcases wz j rs.length with z | z
                 . rw[Wf z]at hv
                   obtain⟨lj,uj,rfl,nj1,nj2,ej,tj⟩:=tR j v hv;have ej9:=E9 _ _ nj1 (S8 _ _ ej);have njl:lj≠li:=λz=>by subst z;rw[ej9]at n12;cases n12
                   exact⟨lj,uj,rfl,nj1,nj2,E16 _ _ nj2 (S15 _ _ (E14 _ _ njl (S12 _ _ ej9))),ao.keep (S8.keep.trans K8_16) _ _ (dZ _) tj⟩
                 . have hj:j=rs.length:=by
                     rcases wz rs.length j with q | q
                     . rw[wE (by simp;omega)]at hv;cases hv
                     . omega
                   subst hj;rw[vH (wp _),Vr]at hv;cases wK hv;rw[hrl];refine⟨l15,us,rfl,n15w,n15r,E16 _ _ n15r e15,ao.keep K16 _ _ (dZ _) ?_⟩;rw[<- hnext];exact gp (by rw[hl15];simp[dN]) hr15⟩}
     . rintro σ H7 ⟨B,ts,ln,o8,o12,o13,o14,rfl,iv⟩
       obtain⟨ws,ew,hwl,tw⟩:=iv.w;obtain⟨rs,er,hrl,tr⟩:=iv.r;rw[wm]at hwl hrl tw;o_head cc (by simp) (.cons (dj ew tw) (.cons (cu.mpr ⟨lr,rs,rfl,.of er,Ct (by rw[hrl,C2]) λj v hv=>?_⟩) .nil)) (λv H8 S8 i8=>q v H8 (iv.same.trans S8) i8)
       have hj:j<ns.length:=by
         rcases wz j rs.length with z | z
         . omega
         . rw[wE z]at hv;cases hv
       obtain⟨lj,us,rfl,_,_,ej,tj⟩:=tr j v hv;rw[NH hj];exact dj ej tj
def RW(K:wb):Sp:=λvs H Q _=>∃x0,vs=[x0] /\ ∃(ra rb:Rat)(xs:List Rat),Is K H x0 (bA ra rb xs)/\cY ra rb xs /\
 (kM ra rb xs->∀l H',ah H H'->H' l=some (.lst [.str "long"])->Q (.ref l) H') /\ ∀es n w v H',h9 ra rb xs es n w->ah H H'->Is K H' v (fD w (ai (aj ra rb xs n)).length)->Q v H'
theorem Zl{K:wb}{H:Hp}{Q:VK}{E:XK}{ra rb:Rat}{xs:List Rat}{v:V}(h:Is K H v (bA ra rb xs))(ok:cY ra rb xs)(qe:kM ra rb xs->∀l H',ah H H'->H' l=some (.lst [.str "long"])->Q (.ref l) H')(q:∀es n w v H',h9 ra rb xs es n w->ah H H'->Is K H' v (fD w (ai (aj ra rb xs n)).length)->Q v H'):RW K [v] H Q E:=⟨_,rfl,ra,rb,xs,h,ok,qe,q⟩
theorem zqI(T:Txt K mg a):aN P w K mg base aU 15 a.HQ a.Gy tO (RW K):=by
 refine T.Hf.F.ok pP ?_ ?_;wtm_at "b1"
 refine⟨_,(ak (ay 1 pP.nd j8)
     (ak (YR (i:=2) (tb:=λW=>kN (EJ (B2 K a) W (rh (lX 0) nT)) (gg 1)) (th:=λex C=>kN (B1 K (rh (kY (Cn K a ex C) [] E0 (rh (lX 2) nT)) nT)) (gg 1)) rfl rfl pP.nd rfl rfl rfl T.SS (λW pn E' hx=>by exact(av (ay 1 pP.nd (zwS (zyR T) (hr.mono (by decide)) rfl T.rY.g T.rY.F.kp T.rY.b hx (ae (pv 0) af))))) (λpn ex C oe hob=>by exact(av (ay 1 pP.nd (dC (ae (YV (zq1 T) ((hr.marked _).mono (by decide)) ⟨rfl,Wc _ (w5.mpr rfl),hob⟩ rfl T.rE.g T.rE.F.kp T.rE.b (ae (pv 2) af)) af))))))
     (av (aG (pv 1))))),?_⟩
 wtm_at "cl";rw[show start Mb [x0]=[some x0,none,none]from rfl];obtain⟨ra,rb,xs,h1,ok,qe,q⟩:=h;o_head zAW (λσ' C o H'=>σ'=[some x0,some .bG,none]/\C=.ref a.cJ/\ah H H' /\ ∀l H',ah H H'->H' l=some (.lst [.str "long"])->Q (.ref l) H') ?_ ?_
 . k_few
   refine Zf h1 ok (λz H' S=>⟨rfl,rfl,S,qe z⟩) (λes n w v H' P S hv=>?_);k_few;exact q es n w v H' P S hv
 . rintro σ' C o H' ⟨rfl,rfl,S0,qe⟩
   refine⟨T.Tf,λex hex=>?_⟩;o_head zqP (w:="long") (.inr ⟨rfl,rfl⟩) (λH1 S1=>?_);wtm_at "ga";rename_i l H2 n2 S2 e2;exact qe l H2 (S0.trans (S1.trans S2)) e2
def Lq(K:wb):Sp:=λvs H Q _=>∃x0,vs=[x0] /\ ∃(p:wf)(k:Int),x0=.ref p/\cB H p k/\k<=1000 /\ ∀v H' (a b:Rat),Exc p H H'->bo H H'->cB H' p (k+2)->Is K H' v (R a b)->aW a b->a<1->Q v H'
theorem zlY{K:wb}{H:Hp}{Q:VK}{E:XK}{p:wf}{k:Int}(h:cB H p k)(hk:k<=1000)(q:∀v H' (a b:Rat),Exc p H H'->bo H H'->cB H' p (k+2)->Is K H' v (R a b)->aW a b->a<1->Q v H'):Lq K [.ref p] H Q E:=⟨_,rfl,p,k,rfl,h,hk,q⟩
theorem Ls{x y:Rat}{z t:Int}(e:x=wB z 8)(e':y=wB t 8)(z1:1<=z)(z7:z<=7)(t0:0<=t)(t8:t<=8)(h:8<=z+t):aW x y/\x<1:=by
 obtain⟨a1,a2,a3⟩:=zCH e (by decide) (by decide) z1 (by omega);obtain⟨b1,b2,b3⟩:=zCg e' (by decide) (by decide) t0 t8;have hx:=cy z (show(8:Int)≠0 by decide);have hy:=cy t (show(8:Int)≠0 by decide);rw[<- e]at hx;rw[<- e']at hy;have h1:((8:Int):Rat)<=((z+t:Int):Rat):=W6.mpr h;have h2:((z+1:Int):Rat)<=((8:Int):Rat):=W6.mpr (by omega);have e8:((8:Int):Rat)=8:=rfl;have e1:((z+t:Int):Rat)=(z:Rat)+(t:Rat):=by push_cast;rfl
 have e2:((z+1:Int):Rat)=(z:Rat)+1:=by push_cast;rfl
 rw[e1,e8]at h1;rw[e2,e8]at h2;rw[e8]at hx hy;exact⟨⟨a1,a2,a3,b1,b2,b3,by grind⟩,by grind⟩
theorem zni(T:Txt K mg a):aN P w K mg base aU 2 a.GQ a.FU z6 (Lq K):=by
 refine T.F5.F.ok JO ?_ ?_;wtm_at "b1"
 refine⟨_,(ak (ay 1 JO.nd (aD cN aA (ar (ke T) hr T.iX (ae (pv 0) (ae aA af)))))
     (ak (bV (bZ (show aM _ (wY .Eq) (df K)from d8 hu) (ar (ke T) hr T.iX (ae (pv 0) (ae aA af))) aA (bL _)) (av (aG (bC (ae (ar (jq T) hr T.h_ (ae (pv 1) (ae aA af))) (ae (ar (jq T) hr T.h_ (ae (bK (show aK _ (.builtin "min") C6 from zuP rfl) rfl T.z_min zBu (ae aA (ae (aD n_ aA (pv 1)) af))) (ae aA af))) af))))) bY)
     (av (aG (bC (ae (ar (jq T) hr T.h_ (ae (pv 1) (ae aA af))) (ae (ar (jq T) hr T.h_ (ae (aD n_ aA (pv 1)) (ae aA af))) af))))))),?_⟩
 wtm_at "cl";rw[show start Mf [x0]=[some x0,none]from rfl];obtain⟨p,k,rfl,hp,hk,q⟩:=h;wtm_at "ga"
 . rename_i r1 H1 r10 r11 E1 K1 P1 r2 H2 r20 r21 E2 K2 P2 z v3 H3 x3 S3 i3 e3 b3 m m1 m2 m3 v4 H4 x4 S4 i4 e4 b4 v5 H5 S5 i5
   obtain⟨ok,lt⟩:=Ls e3 e4 (by omega) (by omega) (by omega) (by omega) (by omega);exact q _ _ x3 x4 (by wtm_at "exc") (by wtm_at "keep") (by wtm_at "penle") i5 ok lt
 . rename_i r1 H1 r10 r11 E1 K1 P1 r2 H2 r20 r21 E2 K2 P2 z v3 H3 x3 S3 i3 e3 b3 v4 H4 x4 S4 i4 e4 b4 v5 H5 S5 i5
   obtain⟨ok,lt⟩:=Ls e3 e4 (by omega) (by omega) (by omega) (by omega) (by omega);exact q _ _ x3 x4 (by wtm_at "exc") (by wtm_at "keep") (by wtm_at "penle") i5 ok lt
def RU(K:wb):Sp:=λvs H Q _=>∃x0 x1,vs=[x0,x1] /\ ∃(x y:Rat),Is K H x0 (N x)/\Is K H x1 (N y)/\ag 4000 x/\ag 4000 y /\ ∀v H',ah H H'->Is K H' v (N (y-x))->Q v H'
theorem Ks{K:wb}{H:Hp}{Q:VK}{E:XK}{x y:Rat}{v w:V}(h1:Is K H v (N x))(h2:Is K H w (N y))(b1:ag 4000 x)(b2:ag 4000 y)(q:∀v H',ah H H'->Is K H' v (N (y-x))->Q v H'):RU K [v,w] H Q E:=⟨_,_,rfl,x,y,h1,h2,b1,b2,q⟩
theorem MB(T:Txt K mg a):aN P w K mg base aU 2 a.HX a.G7 sQ (RU K):=by
 refine T.AQ.F.ok zs7 ?_ ?_;wtm_at "b2";refine⟨_,(av (aG (ar (jq T) hr T.h_ (ae (aD n_ (aD cj (au (pv 1)) (au (pv 0))) (aD cj (au (pv 0)) (au (pv 1)))) (ae (aD cj (au (pv 0)) (au (pv 1))) af))))),?_⟩;wtm_at "cl";rw[show start Dr [x0,x1]=[some x0,some x1]from rfl];obtain⟨x,y,hx,hy,⟨bx1,bx2⟩,⟨by1,by2⟩,q⟩:=h;o_head pK (oW x y) ((bx2.mul by2).mono (by decide)) (λv H' s hv=>?_);rw[Int.mul_comm (x.den:Int) (y.den:Int),OU]at hv;exact q v H' s hv
theorem KZ{a b x:Rat}(a0:0<a)(ab:a+b=1)(hx:x<1):∀n:Nat,push a b n x<1
 | 0=>hx
 | n+1=>by
  have h:=KZ a0 ab hx n;have:=qS h a0
  show a*push a b n x+b<1
  grind
theorem Kk{a b:Rat}(a0:0<a)(b0:0<=b)(ab:a+b=1){xs:List Rat}(h1:1<=xs.length)(hp:cz xs):(cf a b xs).length=1:=by
 have hw:=L8 a0 b0 h1 hp;have hj:=zrn a0 b0 hp h1;have hv:=nO h1
 have ht:dD a b (aE xs) (ai xs) 0<1:=by
  unfold dD
  show(dE a b _ (ai xs) 0).getD ((0+1) % (ai xs).length) 0<1
  have hm:(0+1) % (ai xs).length<(ai xs).length:=qN _ (by omega);rw[gv _ _ _ _ _ _ hm]
  split
  ·decide
  ·rename_i z
   have hpw:(ai xs).Pairwise (· > ·):=iD _ _;have:=oD hpw (c:=0) (d:=(0+1) % (ai xs).length) (by omega) hm;exact KZ a0 ab (by grind) _
 have:¬ 1<(cf a b xs).length:=λz=>(hj.mp z) ht
 omega
theorem Ky{a b:Rat}(a0:0<a)(b0:0<=b)(ab:a+b=1){xs:List Rat}(h1:1<=xs.length)(hp:cz xs):∀k,(ai (aj a b xs k)).length=(ai xs).length
 | 0=>rfl
 | k+1=>by
  have ih:=Ky a0 b0 ab h1 hp k;have hl:1<=(aj a b xs k).length:=by rw[bP];exact h1
  have hk:=hp.at a0 b0 k;obtain⟨v,J⟩:=tE a0 b0 hl hk.nn hk.lt;have e:=congrArg qV J.new;rw[gX,wZ,Wa,gX,Wm]at e;have v1:=J.v1;have vm:=J.vm;have:=J.more;have w1:=Kk a0 b0 ab hl hk;have hv:¬ 1<v:=λz=>by have:=J.more.mpr z;omega
  show(ai (cV a b (aj a b xs k))).length=_
  omega
theorem RS{a b:Rat}(ok:aW a b)(ab:a+b=1){xs ps:List Rat}{fl:Nat->Nat}{ns:List Int}(h1:1<=xs.length)(hp:cz xs)(L:eO xs (ps++[0]) fl ns)(hn:ns.length=ps.length+1):dP a b ns ps=true:=by
 cases e:dP a b ns ps with
 | true=>rfl
 | false =>
  obtain⟨t,_,hj⟩:=RY ok L hn e;have:=Kk ok.a0 ok.b0 ab (xs:=aj a b xs t) (by rw[bP];exact h1) (hp.at ok.a0 ok.b0 t);omega
theorem Kq{a b:Rat}(ok:aW a b)(ab:a+b=1){xs ps:List Rat}{fl:Nat->Nat}{ns:List Int}(h1:1<=xs.length)(hp:cz xs)(L:eO xs (ps++[0]) fl ns)(hn:ns.length=ps.length+1)(n0:∀n∈ns,0<=n):∀k,∀j,j<k->cg a b ns ps j=true
 | 0,j,hj=>by omega
 | k+1,j,hj=>by
  have ih:=Kq ok ab h1 hp L hn n0 k;rcases wz j k with z | z
  ·exact ih j z
  ·have:j=k:=by omega
   subst this;obtain⟨Lk,_⟩:=mQ ok L hn n0 j ih;exact RS ok ab (by rw[bP];exact h1) (hp.at ok.a0 ok.b0 _) Lk (by rw[cx];exact hn)
theorem NG{F:Rat}(f0:0<F)(f1:F<1):∀k:Nat,((k:Int):Rat)*F^k*(1-F)<=1-F^k/\0<F^k/\F^k<=1
 | 0=>by
  rw[VH];refine⟨?_,by decide,W1⟩
  show((0:Int):Rat)*1*(1-F)<=1-1
  have e:((0:Int):Rat)=0:=rfl;rw[e]
  grind
 | k+1=>by
  obtain⟨h1,h2,h3⟩:=NG f0 f1 k;rw[WO];have ek:(((k+1:Nat):Int):Rat)=((k:Int):Rat)+1:=by push_cast;rfl
  rw[ek];generalize F^k=P at *;generalize ((k:Int):Rat)=n at *;have q1:=QT h1 (vX f0);have q2:0<P*F:=Vq h2 f0;have q3:P*F<=1*F:=qo h3 (vX f0);have q4:0<=(1-P*F)*(1-F):=qE (by grind) (by grind);exact⟨by grind,q2,by grind⟩
theorem zu9{F M d:Rat}(f0:0<F)(f1:F<1)(hM:0<M)(hd:0<d):∃k:Nat,F^k*M<d:=by
 have hg:0<d*(1-F):=Vq hd (by grind);have hq:M / (d*(1-F))*(d*(1-F))=M:=WL (λe=>by rw[e]at hg;exact absurd hg (by decide));generalize M / (d*(1-F))=q at hq
 have hle:q<=((q.num.natAbs:Int):Rat):=by
  rw[xv];have h1:=q.den_pos;have h2:q.num<=(q.num.natAbs:Int):=by omega
  have h3:(q.num.natAbs:Int)*1<=(q.num.natAbs:Int)*(q.den:Int):=QR (by omega) (by omega);simp;omega
 refine⟨q.num.natAbs+1,?_⟩;obtain⟨h1,h2,h3⟩:=NG f0 f1 (q.num.natAbs+1);have ek:(((q.num.natAbs+1:Nat):Int):Rat)=((q.num.natAbs:Int):Rat)+1:=by push_cast;rfl
 rw[ek]at h1;generalize F^(q.num.natAbs+1)=P at *;generalize ((q.num.natAbs:Int):Rat)=n at *;have s1:q*(d*(1-F))<(n+1)*(d*(1-F)):=Rat.mul_lt_mul_of_pos_right (by grind) hg;rw[hq]at s1;have s2:P*M<P*((n+1)*(d*(1-F))):=qS s1 h2;have s3:(n+1)*P*(1-F)*d<=(1-P)*d:=qo h1 (vX hd);have s4:0<P*d:=Vq h2 hd
 grind
theorem zte{a b:Rat}(ok:aW a b)(ab:a+b=1)(ha:a<1){xs ps:List Rat}{fl:Nat->Nat}{ns:List Int}(sz:cE ns)(h1:1<=xs.length)(hp:cz xs)(L:eO xs (ps++[0]) fl ns)(hn:ns.length=ps.length+1):jt a b ns=true:=by
 have hps:=sz.pos
 have hF:a^ns.sum.toNat≠1:=λe=>by
  have:=(kT ok (by omega)).mp e;rw[this]at ha;exact absurd ha (by decide)
 have hs:(bR a b ns).length=ps.length:=by rw[lD sz.some];omega
 have hF1:a^ns.sum.toNat<1:=Vk (zh ok (show 1<=ns.sum.toNat by omega) ha).2 hF;have hF0:=(zh ok (show 1<=ns.sum.toNat by omega) ha).1;unfold jt;rw[WT,ui];intro x hx;obtain⟨t,ht,rfl⟩:=wS.mp hx;obtain⟨i,hi,e⟩:=wX ht;rw[gn]at hi;intro z;have z:1<t:=of_decide_eq_true z
 have et:(cQ a b ns (bR a b ns)).getD i 0=t:=by
  rw[wa,wc (by rw[gn];exact hi)];exact e
 have all:∀k,t+(a^ns.sum.toNat)^k*((cQ a b ns ps).getD i 0-t)<1:=λk=>by
  have f:=Kq ok ab h1 hp L hn sz.nn (k+1) k (by omega);unfold cg at f;have:=(mY.mp f).2 i hi;rw[kB hF hn k,Pn _ (by omega) hs hi,et]at this;exact this
 have h0:=all 0;rw[VH]at h0;obtain⟨k,hk⟩:=zu9 hF0 hF1 (M:=t-(cQ a b ns ps).getD i 0) (d:=t-1) (by grind) (by grind);have:=all k
 grind
theorem zvS{a b:Rat}(ok:aW a b)(ab:a+b=1)(ha:a<1){xs:List Rat}(h1:1<=xs.length)(h8:xs.length<=8)(hp:cz xs)(h0:0∈xs):cD a b xs≠none:=by
 obtain⟨hz,hn,hs,L⟩:=zx (a:=a) (b:=b) hp h0;have sz:=CQ h1 h8;unfold cD
 split
 ·simp
 ·rw[if_pos (RS ok ab h1 hp L hn)]
  split
  ·simp
  ·rw[if_pos ⟨ha,zte ok ab ha sz h1 hp L hn⟩]
   simp
theorem RM{a b:Rat}{xs:List Rat}(h:cD a b xs=some "drawn"):dP a b (aE xs) (aX xs)=true/\cw a b (aE xs) (aX xs)≠aX xs/\a<1/\jt a b (aE xs)=true:=by
 unfold cD at h
 split at h
 ·exact absurd (wK h) (by decide)
 ·split at h
  ·rename_i y
   split at h
   ·exact absurd (wK h) (by decide)
   ·rename_i u
    split at h
    ·rename_i z
     exact⟨y,u,z.1,z.2⟩
    ·cases h
  ·cases h
structure zyt(a b:Rat)(xs:List Rat)(t:Nat):Prop where
 ph:cz (aj a b xs (t*(ai xs).length))
 h0:0∈aj a b xs (t*(ai xs).length)
 places:aX (aj a b xs (t*(ai xs).length))=bS a b (aE xs) t (aX xs)
 Iz:aE (aj a b xs (t*(ai xs).length))=aE xs
 gJ:∀i,i<(ai xs).length->(cf a b (aj a b (aj a b xs (t*(ai xs).length)) i)).length=1
theorem eT.drawn{a b:Rat}{xs:List Rat}(ok:eT a b xs)(h:cD a b xs=some "drawn")(t:Nat):zyt a b xs t:=by
 obtain⟨f,hne,ha,hd⟩:=RM h;obtain⟨rok,sz,hn⟩:=ok.round;obtain⟨hz,hn',hs,L⟩:=zx (a:=a) (b:=b) ok.hp ok.h0
 have st:dH a b (aE xs) (aX xs)=true:=by
  unfold dH;rw[if_neg (by grind),if_neg (by grind)];exact hd
 have ev:=ZO ok.ok sz hn st f;have fa:∀k j,j<k->cg a b (aE xs) (aX xs) j=true:=λk j _=>ev j
 obtain⟨Lt,_⟩:=mQ ok.ok L hn sz.nn t (fa t);have hl:(aE xs).length=(bS a b (aE xs) t (aX xs)).length+1:=by rw[cx];exact hn
 have W:=(Fq ok.ok Lt hl (ev t)).2.1;rw[hs]at Lt W;have v1:=CO Lt.pl Lt.mh.pw Lt.some;have s1:=zpm Lt.pl Lt.mh.pw Lt.some (by rw[Lt.len]) sz.nn Lt.size;refine⟨ok.hp.at ok.ok.a0 ok.ok.b0 _,?_,?_,s1,λi hi=>by rw[W i hi];rfl⟩
 ·exact jw (by rw[v1];simp)
 ·unfold aX
  rw[v1,List.dropLast_concat]
  rfl
theorem zrh{a b:Rat}{xs:List Rat}(ok:eT a b xs)(h:cD a b xs=some "drawn")(t:Nat):bS a b (aE xs) (t+1) (aX xs)≠bS a b (aE xs) t (aX xs)/\a^(aE xs).sum.toNat≠1/\0<a^(aE xs).sum.toNat/\a^(aE xs).sum.toNat<1 /\
  ∀i,i<(aX xs).length->(bS a b (aE xs) (t+1) (aX xs)).getD i 0-(bR a b (aE xs)).getD i 0=((bS a b (aE xs) t (aX xs)).getD i 0-(bR a b (aE xs)).getD i 0)*a^(aE xs).sum.toNat:=by
 obtain⟨f,hne,ha,hd⟩:=RM h;obtain⟨rok,sz,hn⟩:=ok.round;have hps:=sz.pos
 have hF:a^(aE xs).sum.toNat≠1:=λe=>by
  have:=(kT ok.ok (by omega)).mp e;rw[this]at ha;exact absurd ha (by decide)
 have hp:=zh ok.ok (show 1<=(aE xs).sum.toNat by omega) ha;have hs:(bR a b (aE xs)).length=(aX xs).length:=by rw[lD sz.some];omega
 have key:∀i,i<(aX xs).length->(bS a b (aE xs) (t+1) (aX xs)).getD i 0-(bR a b (aE xs)).getD i 0=((bS a b (aE xs) t (aX xs)).getD i 0-(bR a b (aE xs)).getD i 0)*a^(aE xs).sum.toNat:=λi hi=>by
  rw[kB hF hn,kB hF hn,gR hs (by omega),gR hs (by omega),WO]
  grind
 refine⟨λe=>hne ?_,hF,hp.1,Vk hp.2 hF,key⟩;rw[<- oH hn sz.nn];have hpt:=lO hp.1 t;refine je (cx ..) λi hi=>?_
 rw[cx]at hi;have k1:=key i hi;rw[e]at k1;rw[kB hF hn t,gR hs (by omega)]at k1;rw[kB hF hn 1,gR hs (by omega)];generalize (aX xs).getD i 0=x at *;generalize (bR a b (aE xs)).getD i 0=y at *;generalize a^(aE xs).sum.toNat=F at *;generalize F^t=P at *;have k2:P*(x-y)*(1-F)=0:=by grind
 rcases Qb.mp k2 with k | k
 ·rcases Qb.mp k with k | k
  ·rw[k]at hpt;exact absurd hpt (by decide)
  ·grind
 ·exact absurd (by grind) hF
def N6(K:wb):Sp:=λvs H Q _=>∃x0,vs=[x0] /\ ∃(a b:Rat)(xs:List Rat),Is K H x0 (bA a b xs)/\eT a b xs/\cD a b xs=some "drawn"/\(∀t k,t<=3->k<=(ai xs).length->Cm 3600 (aS a b (aj a b xs (t*(ai xs).length)) k::aj a b (aj a b xs (t*(ai xs).length)) k)) /\ ∀H',ah H H'->Q (.bl true) H'
theorem znH{K:wb}{H:Hp}{Q:VK}{E:XK}{a b:Rat}{xs:List Rat}{v:V}(h:Is K H v (bA a b xs))(ok:eT a b xs)(hw:cD a b xs=some "drawn")(c:∀t k,t<=3->k<=(ai xs).length->Cm 3600 (aS a b (aj a b xs (t*(ai xs).length)) k::aj a b (aj a b xs (t*(ai xs).length)) k))(q:∀H',ah H H'->Q (.bl true) H'):N6 K [v] H Q E:=⟨_,rfl,a,b,xs,h,ok,hw,c,q⟩
theorem Yx(T:Txt K mg a):aN P w K mg base aU 9 a.G2 a.FZ sX (N6 K):=by
 refine T.Gf.F.ok fY ?_ ?_;wtm_at "b1"
 refine⟨_,(ak (ay 1 fY.nd (au (pv 0)))
     (ak (kj (jO (oI T) hr T.me oX (ae (pv 0) af)) (gC (n:=2) rfl (cR (aZ (i:=2) fY.nd rfl (Or.inl rfl)) (cR (aZ (i:=3) fY.nd rfl (Or.inl rfl)) gf))))
     (ak (ay 4 fY.nd (ar (A_ T) hr T.rR (ae (pv 1) (ae (pv 2) af))))
     (ak (ay 5 fY.nd (au (ar (nz T) hr T.kO (ae (pv 1) (ae (pv 2) af)))))
     (ak (bV (PW.pt (kq (dR (dh (ar (Rw T) hr T.AM (ae (bC (ae aA (ae aA af))) (ae (pv 5) af))))) (kF (dR (dh (ar (Rw T) hr T.AM (ae (pv 5) (ae (bC (ae aA (ae aA af))) af)))))))) (av (aG fI)) bY)
     (ak (bV (bZ (show aM _ (wY .NotEq) (eD K)from jy hu) (dG (show aK _ (.type "tuple") (ee K)from fm) rfl T.z_tuple eG (ae (m5 nZ (di cF (au (ar (zpc T) hr T.GP (ae (pv 1) (ae (pv 2) (ae (pv 4) af))))) (gE gz aA) (λ_ _=>rfl)) mL (nF (gE gz aA))) af)) (pv 4) (bL _)) (av (aG fI)) bY)
     (ak (fu vJ rfl (jj rfl T.z_range (ae aA af)) (aZ (i:=6) fY.nd rfl (Or.inl rfl)) (ak (ay 7 fY.nd (ar (JR T) hr T.AR (ae (bC (ae (pv 1) (ae (au (pv 0)) af))) (ae (bK (show aK _ (.builtin "len") (cP K)from eC) rfl T.z_len dQ (ae (pv 2) af)) af))))
     (ak (bV (bZ (show aM _ (wY .NotEq) (eD K)from jy hu) (eH rfl (cn.by (N':=["_law_row"]) (src:=[none]) rfl (show cK _ (az zl).names Es ["_law_row"] [none]=true from by decide +kernel)) (iU (pv 7)) (λ_ _ _ _ _=>(aZ (i:=0) (show(["_law_row"]:List Str).Nodup from by decide) rfl (Or.inl rfl))) (λ_ _ _ _ _=>(nD (bZ lB (bK (show aK _ (.builtin "len") (cP K)from eC) rfl T.z_len dQ (ae (p_ (K:=K) cF (pv 0)) af)) aA (bL _)))) (λ_ _ _ _ _=>(pv 0))) (dC af) (bL _)) (av (aG fI)) bY)
     (ak (ay 0 fY.nd (bC (ae (pv 1) (ae (au (di cF (pv 7) (gE gz aA) (λ_ _=>rfl))) af))))
     (ak (kj (jO (oI T) hr T.me oX (ae (pv 0) af)) (gC (n:=2) rfl (cR (aZ (i:=8) fY.nd rfl (Or.inl rfl)) (cR (aZ (i:=9) fY.nd rfl (Or.inl rfl)) gf))))
     (ak (bV (PW.pt (kq (bZ (show aM _ (wY .NotEq) (eD K)from jy hu) (pv 8) (pv 2) (bL _)) (kF (bZ (show aM _ (wY .Eq) (df K)from d8 hu) (pv 9) (pv 3) (bL _))))) (av (aG fI)) bY)
     (ak (fu vJ rfl (jj rfl T.z_range (ae (bK (show aK _ (.builtin "len") (cP K)from eC) rfl T.z_len dQ (ae (pv 4) af)) af)) (aZ (i:=10) fY.nd rfl (Or.inl rfl)) (ak (ay 11 fY.nd (ar (MB T) hr T.AQ (ae (di cF (pv 4) (pv 10) (λ_ _=>rfl)) (ae (di cF (pv 3) (pv 10) (λ_ _=>rfl)) af))))
     (av (bV (bZ (show aM _ (wY .NotEq) (eD K)from jy hu) (ar (MB T) hr T.AQ (ae (di cF (pv 4) (pv 10) (λ_ _=>rfl)) (ae (di cF (pv 9) (pv 10) (λ_ _=>rfl)) af))) (ar (jq T) hr T.h_ (ae (aD cj (au (pv 11)) (au (pv 5))) (ae (aD cj (au (pv 11)) (au (pv 5))) af))) (bL _)) (av (aG fI)) bY))))
     (av (ay 3 fY.nd (pv 9))))))))))
     (av (aG fI))))))))),?_⟩
 wtm_at "cl";rw[show start Es [x0]=[some x0,none,none,none,none,none,none,none,none,none,none,none]from rfl];obtain⟨ra,rb,xs,hw,ok,hword,hc,q⟩:=h;obtain⟨rok,sz,hn⟩:=ok.round;have h8:=ok.h8;have hps:=sz.pos;have hvl:=kC xs;have hsl:=oS xs;have hsu:=Fh xs;have mv:=zrh ok hword;have DA:=ok.drawn hword;obtain⟨_,hF,hF0,hF1,_⟩:=mv 0;have hsum:(aE xs).sum<=8:=by have:=Ej xs;have:=CV sz.nn;omega
 have hstl:(bR ra rb (aE xs)).length=(aX xs).length:=by rw[lD sz.some];omega
 have cs:Cm 268 (bR ra rb (aE xs)):=MI ok.ok.ba ok.ok.bb (by omega) (by omega) (by omega) hF;have bF:ag 81 (ra^(aE xs).sum.toNat):=(ok.ok.ba.pow _).mono (by omega)
 have cp:∀t,t<=3->∀i,ag 3600 ((bS ra rb (aE xs) t (aX xs)).getD i 0):=λt ht i=>by
   rw[<- (DA t).places];exact(pQ (l_ (hc t 0 ht (Wu _)) λy hy=>wy _ hy)).get i
 o_head aH (j:=0) hw rfl (λv1 i1=>?_);o_head rm hw h8 (λi=>(ok.cm.get i).mono (by decide)) (λz=>absurd ok.h0 z) (λ_ vl H2 S2 il=>?_);o_head yq il rfl (λys t=>?_);obtain⟨vz,r1,rfl,iz,t⟩:=dg.mp t;obtain⟨vp,r2,rfl,ip,t⟩:=dg.mp t;rw[fq.mp t];have ir2:=i1.by S2;have hw2:=hw.by S2;o_head Fs ir2 iz (kA ok.ok sz) (by omega) hsum (λe=>absurd e hF) (λ_ vg H3 S3 ig=>?_);o_head nM (ir2.by S3) (iz.by S3) (kA ok.ok sz) (by omega) (by omega) (λv4 H4 S4 i4=>?_);o_head aH (j:=0) i4 rfl (λvF iF=>?_);have S24:=S3.trans S4;o_head cc (ds:=[.int 0,.int 1]) (by simp) (.cons (cb.mpr rfl) (.cons (cb.mpr rfl) .nil)) (λv5 H5 S5 i5=>?_);o_head Fd (show Is K H5 v5 (N 0)from i5) (iF.by S5) (ag.zero.mono (by decide)) (bF.mono (by decide)) ?_;rw[decide_eq_true hF0];o_head cc (ds:=[.int 1,.int 1]) (by simp) (.cons (cb.mpr rfl) (.cons (cb.mpr rfl) .nil)) (λv6 H6 S6 i6=>?_);o_head Fd (iF.by (S5.trans S6)) (show Is K H6 v6 (N 1)from i6) (bF.mono (by decide)) (ag.one.mono (by decide)) ?_;rw[decide_eq_true hF1];have S26:=S24.trans (S5.trans S6);have iF6:=iF.by (S5.trans S6);have ig6:=ig.by (S4.trans (S5.trans S6));have ir6:=ir2.by S26;have iz6:=iz.by S26;have ip6:=ip.by S26;have hw6:=hw2.by S26;have SA:=S2.trans S26;clear iF ig ir2 iz ip hw2 i4 i5 i6 il S3 S4 S5 S6 S24 S26 S2 i1;o_head zpK ir6 iz6 ig6 ok.ok.ba ok.ok.bb sz (by omega) (λi=>(cs.get i).mono (by decide)) (λv7 H7 S7 i7=>?_)
 o_head aH (j:=1) i7 rfl (λv8 i8=>?_);o_head JK i8 (by rw[C2];omega) (λv9 i9=>?_);rw[C2,NH (by omega),show(aE xs).length-1+1=(aE xs).length by omega,RT _ _ _ _ (by simp;omega)]at i9;o_head ya i9 (λl10 H10 ys10 n10 S10 e10 t10=>?_);rw[C0,<- xr]at t10;o_head gY (dj e10 t10) (λv11 H11 S11 i11=>?_);have i11:Is K H11 v11 (TN (cw ra rb (aE xs) (bR ra rb (aE xs)))):=i11;rw[zqt sz.some sz.nn hF]at i11;have SB:=S7.trans (S10.trans S11);o_head UT i11 (ig6.by SB) ?_;rw[show(!decide (bR ra rb (aE xs)=bR ra rb (aE xs)))=false by rw[decide_eq_true rfl];rfl];have iF7:=iF6.by SB;have ig7:=ig6.by SB;have ir7:=ir6.by SB;have iz7:=iz6.by SB;have ip7:=ip6.by SB;have hw7:=hw6.by SB;have SC:=SA.trans SB;clear iF6 ig6 ir6 iz6 ip6 hw6 i7 i8 i9 e10 t10 i11 S7 S10 S11 SB SA n10;generalize hst:bR ra rb (aE xs)=st at *;generalize hFF:ra^(aE xs).sum.toNat=F at *;generalize hns:aE xs=ns at *;o_head jR (n:=3) (by decide) (by decide) (λt σ H'=>∃(vs' vp':V)(o6 o7 o8 o9 o10 o11:Option V),σ = [some vs',some v1,some vz,some vp',some vg,some vF,o6,o7,o8,o9,o10,o11]/\ah H11 H'/\Is K H' vs' (bA ra rb (aj ra rb xs (t*(ai xs).length)))/\Is K H' vp' (TN (bS ra rb ns t (aX xs)))) ⟨x0,vp,_,_,_,_,_,_,rfl,ah.refl _,by rw[QQ];exact hw7,by rw[lI];exact ip7⟩ ?_ ?_
 . rintro t σ H12 ht ⟨vs',vp',o6,o7,o8,o9,o10,o11,rfl,S12,iw,ipt⟩
   have ht:t<3:=by simpa using ht
   have D0:=DA t;have D1:=DA (t+1);obtain⟨mne,_,_,_,mkey⟩:=mv t;have ctl:∀k,k<=(ai xs).length->Cm 3600 (aS ra rb (aj ra rb xs (t*(ai xs).length)) k::aj ra rb (aj ra rb xs (t*(ai xs).length)) k):=λk hk=>hc t k (by omega) hk
   have hl0:(aj ra rb xs (t*(ai xs).length)).length=xs.length:=bP ..;have hnext:aj ra rb (aj ra rb xs (t*(ai xs).length)) (ai xs).length=aj ra rb xs ((t+1)*(ai xs).length):=by rw[eF,Qp]
   have cnx:=hc (t+1) 0 (by omega) (Wu _);have hv1:=D0.gJ;have cp0:=cp t (by omega);have cp1:=cp (t+1) (by omega);have ir12:=ir7.by S12;have iz12:=iz7.by S12;o_head aH (j:=1) iw rfl (λv13 i13=>?_);o_head cc (ds:=[R ra rb,TN (aj ra rb xs (t*(ai xs).length))]) (by simp) (.cons ir12 (.cons i13 .nil)) (λv14 H14 S14 i14=>?_);o_head yY (iz12.by S14) ?_;rw[hsl];o_head PY (show Is K H14 v14 (bA ra rb (aj ra rb xs (t*(ai xs).length)))from i14) ok.ok.ba ok.ok.bb (by omega) (by omega) (by omega) (by omega) (λi hi=>(ctl i (by omega)).mono (by decide)) (λlr H15 n15 S15 i15=>?_);rw[wT]at i15;obtain⟨lr',us,el,hs15,t15⟩:=cu.mp i15;cases el;have hul:=t15.length;rw[Bf]at hul;o_head nU hs15 (λD i ys σ' H'=>(∃o,σ'=[o])/\H15 D=none/\ah H15 H'/\H' D=some (.lst ys)/\ys=[]) (λD H' n s e=>⟨⟨_,rfl⟩,n,s,e,rfl⟩) (λD i ys σ' H' h=>h.2.2.1.seq hs15) ?_ ?_
   . rintro D i x ys σ' H3 hx ⟨⟨o,rfl⟩,n3,S3,e3,rfl⟩
     obtain⟨hi,ix⟩:=nN t15 hx;rw[Bf]at hi;rw[wa,Z0 hi]at ix;have ix3:Is K H3 x (zD ra rb (aj ra rb xs (t*(ai xs).length)) i):=ix.by S3;o_head aH (j:=1) ix3 rfl (λv4 i4=>?_);o_head lZ i4 ?_;rw[wm,hv1 i hi];k_few
     . rename_i z;exact absurd z (by decide)
     . exact⟨[],⟨_,rfl⟩,n3,S3,e3,rfl⟩
   . rintro D ys' σ' H3 ⟨_,n3,S3,e3,rfl⟩
     o_head fj (by simp) (λl4 H4 n4 S4 e4=>?_)
     try k_few
     refine zwc (ds:=[]) (cu.mpr ⟨D,[],rfl,.of (S4 _ _ e3),.nil⟩) (cu.mpr ⟨l4,[],rfl,.of e4,.nil⟩) (OY (n:=1) (ds:=[]) (by simp)) (by decide) ?_;rw[show(!([]:List wF).isEmpty)=false from rfl];have i16:=i15.by (S3.trans S4);have SD:=S14.trans (S15.trans (S3.trans S4));have ir16:=ir12.by SD;have iz16:=iz12.by SD;have ip16:=ipt.by SD;have SE:=S12.trans SD;clear i15 ir12 iz12 ipt iw i13 i14 hs15 t15 S3 S4 e3 e4 n3 n4 S14 S15 n15;obtain⟨k,hk⟩:∃k,(ai xs).length=k+1:=⟨(ai xs).length-1,by omega⟩;rw[hk,yl,<- hk]at i16;o_head oh i16 (λv5 i5=>?_);have i5:Is K H4 v5 (pS (aS ra rb (aj ra rb xs (t*(ai xs).length)) (k+1)) (cf ra rb (aj ra rb (aj ra rb xs (t*(ai xs).length)) k)) (aj ra rb (aj ra rb xs (t*(ai xs).length)) (k+1))):=i5;rw[<- hk,hnext]at i5;o_head aH (j:=2) i5 rfl (λv6 i6=>?_);o_head cc (ds:=[R ra rb,TN (aj ra rb xs ((t+1)*(ai xs).length))]) (by simp) (.cons ir16 (.cons i6 .nil)) (λv17 H17 S17 i17=>?_);have i17:Is K H17 v17 (bA ra rb (aj ra rb xs ((t+1)*(ai xs).length))):=i17;o_head rm i17 (by rw[bP];exact h8) (λi=>((l_ cnx λy hy=>wy _ hy).get i).mono (by decide)) (λz=>absurd D1.h0 z) (λ_ v18 H18 S18 i18=>?_);unfold DO at i18;rw[D1.places,D1.Iz,hns]at i18;o_head yq i18 rfl (λys t'=>?_);obtain⟨vt,r1,rfl,it,t'⟩:=dg.mp t';obtain⟨vq,r2,rfl,iq,t'⟩:=dg.mp t';rw[fq.mp t'];o_head O4 (n:=4) it (iz16.by (S17.trans S18)) ((zB9 _).mono (by decide)) (by decide) (zCY _) ?_
     o_head DJ iq (ip16.by (S17.trans S18)) ?_;rw[decide_eq_false mne];have SF:=SE.trans (S17.trans S18);have ig18:=ig7.by SF;have iF18:=iF7.by SF;have ip18:=ip16.by (S17.trans S18);have i17:=i17.by S18;clear it i18 i5 i6 i16 iz16 ir16 ip16 S17 S18 SE SD;o_head zw0 ig18 ?_;o_head jR (n:=(st.length:Int)) (by omega) (by omega) (λj σ H'=>∃(o10 o11:Option V),σ = [some v17,some v1,some vz,some vp',some vg,some vF,some (.int (t:Int)),some (.ref lr),some vt,some vq,o10,o11]/\ah H18 H') ⟨_,_,rfl,ah.refl _⟩ ?_ ?_
     . rintro j σ H19 hj ⟨o10,o11,rfl,S19⟩
       have hj:j<st.length:=by simpa using hj
       have bs:ag 268 (st.getD j 0):=cs.get j;have b0:=cp0 j;have b1:=cp1 j;o_head oV (ig18.by S19) (by omega) (by omega) (λu1 j1=>?_);rw[wT]at j1;o_head oV (ip18.by S19) (by omega) (by rw[cx];omega) (λu2 j2=>?_);rw[wT]at j2;o_head Ks j1 j2 (bs.mono (by decide)) (b0.mono (by decide)) (λu3 H20 S20 j3=>?_);have T20:=S19.trans S20;clear j1 j2;o_head oV (ig18.by T20) (by omega) (by omega) (λu1 j1=>?_);rw[wT]at j1;o_head oV (iq.by T20) (by omega) (by rw[cx];omega) (λu2 j2=>?_);rw[wT]at j2;o_head Ks j1 j2 (bs.mono (by decide)) (b1.mono (by decide)) (λu5 H21 S21 j5=>?_);have iF21:=iF18.by (T20.trans S21);have j3:=j3.by S21;have bw:ag 3900 ((bS ra rb ns t (aX xs)).getD j 0-st.getD j 0):=(b0.sub bs).mono (by decide);have bw1:=bw.t;have bw2:=bw.b;have bf1:=bF.t;have bf2:=bF.b;clear j1 j2;o_head pK (oW _ _) ((bw2.mul bf2).mono (by decide)) (λu6 H22 S22 j6=>?_);rw[Mm]at j6;refine Kt (j5.by S22) j6 ?_;rw[decide_eq_true (mkey j (by omega))];k_few;exact⟨_,_,rfl,T20.trans (S21.trans S22)⟩
     . rintro σ H19 ⟨o10,o11,rfl,S19⟩
       k_few;exact⟨v17,vq,_,_,_,_,_,_,rfl,SF.trans S19,i17.by S19,iq.by S19⟩
 . rintro σ H12 ⟨vs',vp',o6,o7,o8,o9,o10,o11,rfl,S12,iw,ipt⟩
   k_few;exact q _ (SC.trans S12)
def NT(K:wb):R2:=λx y H Q=>∃d ds,Is K H x d/\Is K H y (.tuple ds)/\Sh 60 d/\vR (.tuple ds)=true/\Q (.bl (!ds.any λe=>wV e d)) H
theorem Za{X:Cx}(hu:X.A.units+64<WF):aM X (wY .NotIn) (NT X.K):=by
 intro pins s σ H x y v u Q I rx ry h;obtain⟨d,ds,hd,he,sd,se,q⟩:=h;obtain⟨as,h1⟩:=I.reads d x v sd.1 hd rx;obtain⟨bs,h2⟩:=I.reads (.tuple ds) y u se he ry;have sd2:=sd.2;have hm:=xA (Wy ds) d.depth;exact PySem.SeqAt.notIn_tuple_reads h2 h1 (by rw[vR]at se;exact se) sd.1 (by omega) ⟨.bl _,H,I,rfl,q⟩
theorem mK{α : Type}[DecidableEq α]:∀{l m:List α},l.Nodup->(∀x∈l,x∈m)->l.length<=m.length
 | [],_,_,_=>Wu _
 | x::l,m,nd,h=>by
  have⟨h1,h2⟩:=W3.mp nd;have hx:=h x (wC ..);have:=mK (m:=m.erase x) h2 λy hy=>(Xr (λe=>h1 (by rw[<- e];exact hy))).mpr (h y (wy _ hy))
  rw[xF hx]at this;have:=qt hx;rw[vo];omega
theorem Zw{xs ys:List Rat}(nd:ys.Nodup)(h:∀y,y∈ys ↔ y∈xs):ys.length=(ai xs).length :=
 uX (mK nd λx hx=>p5 ((h x).mp hx)) (mK (ET xs) λx hx=>(h x).mpr (jw hx))
theorem Ms{a b:Rat}{xs:List Rat}{w:String}(h:cD a b xs=some w):(w="one"/\(ai xs).length=1)\/w="rests"\/w="drawn":=by
 unfold cD at h
 split at h
 ·rename_i z
  exact .inl ⟨(wK h).symm,z⟩
 ·split at h
  ·split at h
   ·exact .inr (.inl (wK h).symm)
   ·split at h
    ·exact .inr (.inr (wK h).symm)
    ·cases h
  ·cases h
theorem zvz{a b:Rat}{xs:List Rat}(h:cD a b xs=some "drawn"):(ai xs).length≠1:=λz=>by
 unfold cD at h;rw[if_pos z]at h;exact absurd (wK h) (by decide)
theorem La{a b:Rat}(h:a.num*(b.den:Int)+b.num*(a.den:Int)=(a.den:Int)*(b.den:Int)):a+b=1:=by
 rw[<- LJ a b,h];have d1:=den_pos a;have d2:=den_pos b;have:=Wd d1 d2;have hd:(a.den:Int)*(b.den:Int)≠0:=by omega
 generalize (a.den:Int)*(b.den:Int)=d at hd;have:=cy d hd;have hd':(d:Rat)≠0:=λe=>hd (by have h:=congrArg Rat.num e;simpa using h)
 have k:(wB d d-1)*(d:Rat)=0:=by grind
 rcases Qb.mp k with k | k
 ·grind
 ·exact absurd k hd'
theorem Zo{a b:Rat}{xs:List Rat}(ok:cY a b xs)(ab:a+b=1)(ha:a<1):¬ kM a b xs:=by
 rintro ⟨es,i,_,i1,hw,_⟩;exact zvS ok.ok ab ha (xs:=aj a b xs i) (by rw[bP];exact ok.h1) (by rw[bP];have:=ok.h6;omega) (ok.hp.at ok.ok.a0 ok.ok.b0 i) (ok.hp.zero ok.ok.a0 ok.ok.b0 ok.h1 i1) hw
theorem Ao(w:String)(n:Nat):Sh 2 (fD w n):=tU (pI ⟨by simp[vR,zy],by simp[W8]⟩ (yF _))
theorem Kf(w w':String)(n m:Nat):wV (fD w n) (fD w' m)=(wV (.str (vA w)) (.str (vA w'))&&decide (n=m)):=by
 have e:wV (.int (n:Int)) (.int (m:Int))=decide (n=m):=by
  rw[wV,vI,beq_iff_eq,decide_eq_true_eq];omega
 rw[<- e];simp only[fD,wV,WP,xk]
theorem zu3{K:wb}{H:Hp}{Q:VK}{v w:V}{wd:String}{n:Nat}(h:Is K H v (fD wd n))(k:Is K H w (.list [.str "long"]))(q:Q (.bl true) H):eD K v w H Q :=
 nY h k ((Ao wd n).shaped (by decide)) (by simp[vQ,vR,Wn,W8,Wy,zy]) (by rw[fD,wV];exact q)
def sG(K:wb):Sp:=λvs H Q _=>∃x0,vs=[x0] /\ ∃(a:wf)(ns:List Int),x0=.ref a/\jT K H a (ns.map V.int)/\ns.length<=63 /\ ∀H',Q (.bl true) H'
theorem zB2(T:Txt K mg a):aN P w K mg base aU 16 a.law a.Io sx (sG K):=by
 refine T.TR.F.ok iT ?_ ?_;wtm_at "b1"
 refine⟨_,(ak (fu vJ rfl (jj rfl T.z_range (ae aA af)) (aZ (i:=1) iT.nd rfl (Or.inl rfl)) (ak (ay 2 iT.nd (ar (zsw T) hr T.Hv (ae (pv 0) (ae (pv 1) af))))
     (ak (ay 3 iT.nd (ar (zni T) hr T.F5 (ae (pv 2) af)))
     (ak (ay 4 iT.nd (ar (znI T) hr T.Gm (ae (pv 2) (ae aA af))))
     (ak (iE (iO vV vS vT gZ (pv 4) (ae (ar (jq T) hr T.h_ (ae (ar (ke T) hr T.iX (ae (pv 2) (ae aA af))) (ae aA af))) af)))
     (ak (ay 5 iT.nd (ar (zqW T) hr T.G5 (ae (pv 3) (ae (pv 4) af))))
     (ak (ay 6 iT.nd (ar (zqI T) hr T.Hf (ae (pv 5) af)))
     (ak (kj (pv 3) (gC (n:=2) rfl (cR (gC (n:=2) rfl (cR (aZ (i:=7) iT.nd rfl (Or.inl rfl)) (cR (aZ (i:=8) iT.nd rfl (Or.inl rfl)) gf))) (cR (gC (n:=2) rfl (cR (aZ (i:=9) iT.nd rfl (Or.inl rfl)) (cR (aZ (i:=10) iT.nd rfl (Or.inl rfl)) gf))) gf))))
     (ak (bV (PW.pt (zJ (bZ (show aM _ (wY .Eq) (df K)from d8 hu) (aD cN (aD cj (pv 7) (pv 10)) (aD cj (pv 9) (pv 8))) (aD cj (pv 8) (pv 10)) (bL _)) (yr (bZ lB (bK (show aK _ (.builtin "len") (nv w)from Fc) rfl T.z_len dQ (ae (dG (show aK _ (.type "set") (ny K w)from Ca hu rfl) rfl T.z_set DC (ae (pv 4) af)) af)) aA (bL _))))) (av (bV (bZ (show aM _ (wY .NotIn) (NT K)from Za hu) (pv 6) (bC (ae (bC (ae dk (ae (bK (show aK _ (.builtin "len") (nv w)from Fc) rfl T.z_len dQ (ae (dG (show aK _ (.type "set") (ny K w)from Ca hu rfl) rfl T.z_set DC (ae (pv 4) af)) af)) af))) (ae (bC (ae dk (ae (bK (show aK _ (.builtin "len") (nv w)from Fc) rfl T.z_len dQ (ae (dG (show aK _ (.type "set") (ny K w)from Ca hu rfl) rfl T.z_set DC (ae (pv 4) af)) af)) af))) af))) (by with_unfolding_all rfl)) (av (aG fI)) bY)) bY)
     (av (bV (PW.pt (zJ (bZ (show aM _ (wY .NotEq) (eD K)from jy hu) (pv 6) (dC (ae dk af)) (bL _)) (yr (bZ (show aM _ (wY .Eq) (df K)from d8 hu) (au (pv 6)) dk (bL _))))) (av (bV (dR (dh (ar (Yx T) hr T.Gf (ae (bC (ae (pv 3) (ae (au (di cF (jO (RH T) hr T.AN oX (ae (pv 5) af)) (gE gz aA) (λ_ _=>rfl))) af))) af)))) (av (aG fI)) bY)) bY)))))))))))
     (av (aG fI))),?_⟩
 wtm_at "cl";rw[show start LP [x0]=[some x0,none,none,none,none,none,none,none,none,none,none]from rfl];obtain⟨a',ns0,rfl,hs,hl,q⟩:=h;o_head jR (n:=2) (by decide) (by decide) (λi σ H'=>bo H H' /\ ∃(o1 o2 o3 o4 o5 o6 o7 o8 o9 o10:Option V),σ = [some (.ref a'),o1,o2,o3,o4,o5,o6,o7,o8,o9,o10]) ⟨bo.refl _,_,_,_,_,_,_,_,_,_,_,rfl⟩ ?_ ?_
 . rintro i σ H0 hi ⟨K0,o1,o2,o3,o4,o5,o6,o7,o8,o9,o10,rfl⟩
   have hi:i<2:=by simpa using hi
   o_head zsV (K0.Mq hs) hl (by omega) (by omega) (λp1 H1 hp1 S1 P1=>?_);o_head zlY P1 (by decide) (λv2 H2 ra rb E2 K2 P2 i2 ok ha=>?_);o_head ZV P2 (by decide) (by decide) (by decide) (λl3 H3 us3 xs3 n3 E3 K3 P3 e3 t3 a3 b3 ph3=>?_);have nef:l3≠p1:=cB.ne n3 P2;have KA:bo H H3:=K0.trans (S1.keep.trans (K2.trans K3));have i3:=i2.sf K3;clear i2 S1 P1 P2 E2 K2 E3 K3 K0;o_head gG (aI.of e3) ?_;k_few;rename_i r H4 r0 r1 E4 K4 P4 v5 H5 x5 S5 i5 ex5 b5;have e4:H4 l3=some (.lst us3):=E4.at nef e3;have t4:ao K H4 us3 (xs3.map N):=ao.keep K4 _ _ (dZ _) t3;have i4:=i3.sf K4;have KB:=KA.trans K4;rw[ex5]at i5;clear P3 e3 t3 i3 KA E4 K4 P4;have hul:us3.length=xs3.length:=by rw[t4.length,wm]
   have e5:=S5 _ _ e4;refine gq e5 (by omega) (λH6 E6 e6=>?_);have k6:=E6.keep e5
   have t6:ao K H6 (us3++[v5]) ((xs3++[wB r 60]).map N):=by
     rw[vx];exact(ao.keep (S5.keep.trans k6) _ _ (dZ _) t4).append (.cons (i5.gT k6) .nil)
   have ph6:∀x∈xs3++[wB r 60],fk x:=λx hx=>by
     rcases We.mp hx with h | h
     . exact ph3 x h
     . rw[w5.mp h];exact Eu r0 r1 (by decide)
   have i6:=i4.sf (S5.keep.trans k6);have KC:=KB.trans (S5.keep.trans k6);have iS:=dj e6 t6;have bg:cY ra rb (xs3++[wB r 60]):=⟨ok,by simp,by simp;omega,ph6⟩;clear i4 S5 E6 k6 t4 e4 e5 i5 KB ph3 hul;generalize xs3++[wB r 60]=xs at *;have h6:=bg.h6;have h1:=bg.h1;o_head zrU i6 ok (.inl iS) h1 (by omega) ph6 (λvw H7 S7 iw=>?_);have i7:=i6.by S7;have iS7:=iS.by S7;have KD:=KC.trans S7.keep;clear i6 iS e6 t6 KC S7;o_head Zl iw bg (λF l H8 S8 e8=>?_) (λes n wd vf H8 P S8 iF=>?_)
   . have i8:=i7.by S8
     have iS8:=iS7.by S8;have KE:=KD.trans S8.keep;clear i7 iS7 KD S8 iw;have ba1:=ok.ba.t;have ba2:=ok.ba.b;have bb1:=ok.bb.t;have bb2:=ok.bb.b;k_few
     . rename_i z
       exact absurd F (Zo bg (La z) ha)
     . refine fj (by simp) (λl9 H9 n9 S9 e9=>?_)
       refine O4 (n:=2) (d:=.list [.str "long"]) (cu.mpr ⟨l,_,rfl,.of (S9 _ _ e8),.cons (eK.mpr rfl) .nil⟩) (cu.mpr ⟨l9,_,rfl,.of e9,.cons (eK.mpr rfl) .nil⟩) ⟨by simp[vR,Wn,zy],by simp[W8,Wy]⟩ (by decide) (by simp[wV,WP]) ?_;k_few;exact⟨KE.trans S9.keep,_,_,_,_,_,_,_,_,_,_,rfl⟩
   . have i8:=i7.by S8
     have iS8:=iS7.by S8;have KE:=KD.trans S8.keep;have iw8:=iw.by S8;have hnf:=bg.nf n;clear i7 iS7 KD S8 iw;k_few
     apply Z9 (H:=H8)
     . intro ck
       have ba1:=ok.ba.t;have ba2:=ok.ba.b;have bb1:=ok.bb.t;have bb2:=ok.bb.b;wtm_at "gt"
       . rename_i z
         have ab:=La z;have hm:(ai (aj ra rb xs n)).length=(ai xs).length:=Ky ok.a0 ok.b0 ab h1 bg.hp n;rw[hm]at iF
         have setr:∀(σ : L2.St)(H9:Hp)(Q':VK),ah H8 H9->(∀H10,ah H9 H10->Q' (.int ((ai xs).length:Int)) H10)->ny K w [V.ref l3] H9 λx H1=>nT σ H1 λxs H2=>nv w (x::xs) H2 Q':=by
           intro σ H9 Q' S9 q';refine Yq (iS8.by S9) (by omega) (λls H10 ws ys n10 S10 e10 t10 nd mem=>?_);have hyl:=Zw nd mem;have hwl:=t10.length;rw[wm]at hwl
           show nv w [.ref ls] H10 Q'
           refine⟨ls,ws,rfl,e10,?_⟩;rw[show ws.length=(ai xs).length by omega];exact q' H10 S10
         refine setr _ H8 _ (ah.refl _) (λH9 S9=>?_);wtm_at "gt"
         . rename_i z2
           refine setr _ H9 _ S9 (λH10 S10=>?_);wtm_at "gt";refine cc (ds:=[.str (vA "drawn"),.int ((ai xs).length:Int)]) (by simp) (.cons (eK.mpr rfl) (.cons (cb.mpr rfl) .nil)) (λv11 H11 S11 i11=>?_);wtm_at "gt";refine setr _ H11 _ (S9.trans (S10.trans S11)) (λH12 S12=>?_);wtm_at "gt";refine cc (ds:=[.str (vA "rests"),.int ((ai xs).length:Int)]) (by simp) (.cons (eK.mpr rfl) (.cons (cb.mpr rfl) .nil)) (λv13 H13 S13 i13=>?_);wtm_at "gt";refine cc (ds:=[fD "drawn" (ai xs).length,fD "rests" (ai xs).length]) (by simp) (.cons (i11.by (S12.trans S13)) (.cons i13 .nil)) (λv14 H14 S14 i14=>?_);have S84:=S9.trans (S10.trans (S11.trans (S12.trans (S13.trans S14))));refine⟨_,_,iF.by S84,i14,(Ao _ _).mono (by decide),(tU (pI (Ao _ _) (Ao _ _))).1,?_⟩
           have hx:(!([fD "drawn" (ai xs).length,fD "rests" (ai xs).length].any λe=>wV e (fD wd (ai xs).length)))=false:=by
             rw[qQ,qQ,List.any_nil,Kf,Kf,decide_eq_true rfl,xk,xk];rcases Ms P.word with⟨_,y⟩ | rfl | rfl
             . rw[hm]at y;omega
             . rw[show wV (.str (vA "rests")) (.str (vA "rests"))=true by rw[wV];decide];simp
             . rw[show wV (.str (vA "drawn")) (.str (vA "drawn"))=true by rw[wV];decide];simp
           rw[hx];wtm_at "gt";exact ck _ S84
         . exact ck _ S9
       . exact ck _ (ah.refl _)
     . intro H9 S9
       have i9:=i8.by S9;have iw9:=iw8.by S9;have iF9:=iF.by S9;have KF:=KE.trans S9.keep;clear i8 iw8 iF KE S9 iS8;o_head fj (by simp) (λl10 H10 n10 S10 e10=>?_);refine zu3 (iF9.by S10) (cu.mpr ⟨l10,_,rfl,.of e10,.cons (eK.mpr rfl) .nil⟩) ?_;o_head aH (j:=0) (iF9.by S10) rfl (λv11 i11=>?_);rw[eK.mp i11];k_few;rcases Ms P.word with⟨rfl,_⟩ | rfl | rfl
       . refine ik _ _ false (by rw[wV];decide) ?_
         k_few;exact⟨KF.trans S10.keep,_,_,_,_,_,_,_,_,_,_,rfl⟩
       . refine ik _ _ false (by rw[wV];decide) ?_
         k_few;exact⟨KF.trans S10.keep,_,_,_,_,_,_,_,_,_,_,rfl⟩
       . refine ik _ _ true (by rw[wV];decide) ?_
         have two:=zvz P.word;have c:=P.cm bg;o_head LW (iw9.by S10) bg (λF=>absurd F (zu8 P)) (λl H11 es' n' w' P' hl' S11 i12=>?_);obtain⟨rfl,rfl,rfl⟩:=ztf P P';o_head oh i12 (λv13 i13=>?_);have i13:Is K H11 v13 (.tuple [N (aS ra rb xs n),TN (aj ra rb xs n),.str (vA "drawn")]):=i13;o_head aH (j:=1) i13 rfl (λv14 i14=>?_);o_head cc (ds:=[R ra rb,TN (aj ra rb xs n)]) (by simp) (.cons (i9.by (S10.trans S11)) (.cons i14 .nil)) (λv15 H15 S15 i15=>?_);have KG:=KF.trans (S10.keep.trans (S11.keep.trans S15.keep));o_head znH (show Is K H15 v15 (bA ra rb (aj ra rb xs n))from i15) (bg.A0 P.n1 c) P.word (λt k ht hk=>?_) (λH16 S16=>?_)
         . rw[eF]
           refine(bg.jV (i:=n+t*(ai (aj ra rb xs n)).length) (k:=k) ?_ (by omega)).mono (by decide);have g1:=oG ok.a0 ok.b0 (xs:=aj ra rb xs n) (by rw[bP];exact bg.h1) (bg.hp.at ok.a0 ok.b0 n) (t*(ai (aj ra rb xs n)).length+k);rw[bP]at g1;have hsp:=P.sp.1;rw[Vt,nR];generalize (ai (aj ra rb xs n)).length=m at *;have g2:t*m<=3*m:=Wj _ ht;have g3:(t*m+k)*xs.length<=(4*m)*6:=V4 (by omega) h6;omega
         . k_few
           exact⟨KG.trans S16.keep,_,_,_,_,_,_,_,_,_,_,rfl⟩
 . rintro σ H0 ⟨K0,o1,o2,o3,o4,o5,o6,o7,o8,o9,o10,rfl⟩
   k_few;exact q _
end
theorem NU{us:List wg}(h:us.length=1):∃a,us=[a]:=by
 cases us with
 | nil=>cases h
 | cons a t=>exact⟨a,by rw[Qu.mp (xG h)]⟩
theorem Na{us:List wg}(h:us.length=2):∃a0 a1,us=[a0,a1]:=by
 cases us with
 | nil=>cases h
 | cons a0 t =>
  obtain⟨a1,e⟩:=NU (xG h);exact⟨a0,a1,by rw[e]⟩
theorem N8{us:List wg}(h:us.length=3):∃a0 a1 a2,us=[a0,a1,a2]:=by
 cases us with
 | nil=>cases h
 | cons a0 t =>
  obtain⟨a1,a2,e⟩:=Na (xG h);exact⟨a0,a1,a2,by rw[e]⟩
theorem zCm{us:List wg}(h:us.length=4):∃a0 a1 a2 a3,us=[a0,a1,a2,a3]:=by
 cases us with
 | nil=>cases h
 | cons a0 t =>
  obtain⟨a1,a2,a3,e⟩:=N8 (xG h);exact⟨a0,a1,a2,a3,by rw[e]⟩
inductive aV(K:wb)(n:Str)(st:vj)(f:wf):Prop
 | mk {od an:Option wf} {sl:Array (Option wg)} {oc kV dc pm cd ct:wg} (a:w9 K wN n=some (some (.ref f))) (l:K.lookup f=some ⟨oc,od,.func (V7 n n (my st) (jJ st) (az st) .none kV dc pm an cd ct),sl⟩) (c:QV K cd n=true) (k:Vz K (.ref f)=true):aV K n st f
theorem aV.dn{K:wb}{h:wH}{mg:Str->Option wg}{n:Str}{st:vj}{f:wf}{ps:List Str}(A:aV K n st f)(X:K.In h)(G:h.Ns wN mg)
  (b:∀(kV doc pm:wg)(an:Option wf)(cdv ct:wg)(us:List wg),us.length=ps.length->bindArgs (V7 n n (my st) (jJ st) (az st) .none kV doc pm an cdv ct) ⟨us,[]⟩=pure (ps.zip us)):∃fd,Dn K mg n st ps f fd:=by
 obtain⟨a,l,c,k⟩:=A;have F:=RF (st:=st) l c k;exact⟨_,F,vN X G a,F.binds b⟩
set_option hygiene false in
local macro_rules | `(tactic| wtm_at "bd")=>`(tactic| (intro _ _ _ _ _ _ us hl; first | (obtain ⟨_,rfl⟩:=NU hl; rfl) | (obtain ⟨_,_,rfl⟩:=Na hl; rfl) | (obtain ⟨_,_,_,rfl⟩:=N8 hl; rfl) | (obtain ⟨_,_,_,_,rfl⟩:=zCm hl; rfl)))
set_option maxHeartbeats 8000000 in
theorem all_mk{l:xM}{w:wM}{K:wb}{h:wH}{mg:Str->Option wg}{fa:wf}(X:K.In h)(G:h.Ns wN mg)(hfa:mg "law"=some (.ref fa))
  {f0 f1 f2 f3 f4 f5 f6 f7 f8 f9 f10 f11 f12 f13 f14 f15 f16 f17 f18 f19 f20 f21 f22 f23 f24 f25 f26 f27 f28 f29 f30 f31 f32 f33 f34 f35 f36 f37 f38 f39 f40 f41 f42 f43 f44 f45 f46 f47 f48 f49 f50 f51 f52 f53 f54 f55 f56 f57 f58 f59 f60 f61:wf}
  {e0:wf}
  {e1:wf}
  {e2:wf}
  {e3:wf}
  {e4:wf}
  {e5:wf}
  {e6:wf}
  {e7:wf}
  {e8:wf}
  {e9:wf}
  {g0:wf} {gn0:Nat} {gd0:Option wf} {gs0:Array (Option wg)} {tk0_0 tk0_1:Tok}
  {g1:wf} {gn1:Nat} {gd1:Option wf} {gs1:Array (Option wg)} {tk1_0 tk1_1:Tok}
  {g2:wf} {gn2:Nat} {gd2:Option wf} {gs2:Array (Option wg)} {tk2_0 tk2_1:Tok}
  {tk3:Tok}
  {tk4:Tok}
  {tk5:Tok}
  {tk6:Tok}
  {tk7:Tok}
  (a0:aV K "is_whole" EM f0)
  (a1:aV K "greatest_divisor" C_ f1)
  (a2:aV K "is_number" Fp f2)
  (a3:aV K "plus" B4 f3)
  (a4:aV K "minus" Di f4)
  (a5:aV K "times" EH f5)
  (a6:aV K "over" Em f6)
  (a7:aV K "less" B3 f7)
  (a8:aV K "is_factor" BH f8)
  (a9:aV K "is_shift" DW f9)
  (a10:aV K "make_rule" B6 f10)
  (a11:aV K "is_rule" A4 f11)
  (a12:aV K "bend" Fj f12)
  (a13:aV K "pushes" DU f13)
  (a14:aV K "pushed_by" EU f14)
  (a15:aV K "is_phase" C9 f15)
  (a16:aV K "are_phases" yj f16)
  (a17:aV K "swarm_of" Ew f17)
  (a18:aV K "greatest" BF f18)
  (a19:aV K "worms_at" t_ f19)
  (a20:aV K "flocks" z8 f20)
  (a21:aV K "at_the_end" tM f21)
  (a22:aV K "glow" m6 f22)
  (a23:aV K "history" Cf f23)
  (a24:aV K "behind" Be f24)
  (a25:aV K "is_laid" Fz f25)
  (a26:aV K "laid" oU f26)
  (a27:aV K "phases_behind" tX f27)
  (a28:aV K "stands" Dm f28)
  (a29:aV K "round_behind" CB f29)
  (a30:aV K "round_time" Cu f30)
  (a31:aV K "tops" Aj f31)
  (a32:aV K "is_free" oE f32)
  (a33:aV K "round_map" zm f33)
  (a34:aV K "still" Ah f34)
  (a35:aV K "weighed" yd f35)
  (a36:aV K "led_on" BU f36)
  (a37:aV K "rounds_behind" A3 f37)
  (a38:aV K "sums_of_places" Bh f38)
  (a39:aV K "rounds_time" zZ f39)
  (a40:aV K "draws_freely" yg f40)
  (a41:aV K "stays_free" y9 f41)
  (a42:aV K "free_rounds" Br f42)
  (a43:aV K "behind_rounds" sE f43)
  (a44:aV K "behind_row" DE f44)
  (a45:aV K "word_of" DY f45)
  (a46:aV K "glows_to_join" Du f46)
  (a47:aV K "next_row" C5 f47)
  (a48:aV K "paper_of" CS f48)
  (a49:aV K "fate" Ey f49)
  (a50:aV K "_law_pen" Dz f50)
  (a51:aV K "_law_draw" Cw f51)
  (a52:aV K "_law_low" Bb f52)
  (a53:aV K "_law_less" BQ f53)
  (a54:aV K "_law_kind" yf f54)
  (a55:aV K "_law_phases" Eo f55)
  (a56:aV K "_law_round" lK f56)
  (a57:aV K "_law_fate" Bu f57)
  (a58:aV K "_law_falling" Ce f58)
  (a59:aV K "_law_way" EI f59)
  (a60:aV K "_law_nearer" zl f60)
  (a61:aV K "law" yu f61)
  (n_NoStand:w9 K wN "NoStand"=some (some (.ref e0)))
  (n_TooLong:w9 K wN "TooLong"=some (some (.ref e1)))
  (n_NoBack:w9 K wN "NoBack"=some (some (.ref e2)))
  (n_NoRow:w9 K wN "NoRow"=some (some (.ref e3)))
  (n_NoText:w9 K wN "NoText"=some (some (.ref e4)))
  (n_NoWeb:w9 K wN "NoWeb"=some (some (.ref e5)))
  (n_NoSwarm:w9 K wN "NoSwarm"=some (some (.ref e6)))
  (n_NoRule:w9 K wN "NoRule"=some (some (.ref e7)))
  (n_NoNumber:w9 K wN "NoNumber"=some (some (.ref e8)))
  (n_GlowError:w9 K wN "GlowError"=some (some (.ref e9)))
  (z_ValueError:w9 K wN "ValueError"=some none)
  (z_abs:w9 K wN "abs"=some none)
  (z_all:w9 K wN "all"=some none)
  (z_any:w9 K wN "any"=some none)
  (z_bool:w9 K wN "bool"=some none)
  (z_dict:w9 K wN "dict"=some none)
  (z_enumerate:w9 K wN "enumerate"=some none)
  (z_int:w9 K wN "int"=some none)
  (z_isinstance:w9 K wN "isinstance"=some none)
  (z_len:w9 K wN "len"=some none)
  (z_list:w9 K wN "list"=some none)
  (z_min:w9 K wN "min"=some none)
  (z_range:w9 K wN "range"=some none)
  (z_set:w9 K wN "set"=some none)
  (z_sum:w9 K wN "sum"=some none)
  (z_tuple:w9 K wN "tuple"=some none)
  (z_zip:w9 K wN "zip"=some none)
  (h_x_NoStand:qj K e0 oM "ValueError.__new__"=true)
  (h_m_NoStand:qH K (.ref e0) (.ref e9)=some true)
  (h_e_NoStand:gI K e0)
  (h_k_NoStand_NoStand:wD K (.ref e0) (.ref e0)=some true)
  (h_k_NoStand_TooLong:wD K (.ref e0) (.ref e1)=some false)
  (h_k_NoStand_NoBack:wD K (.ref e0) (.ref e2)=some false)
  (h_k_NoStand_NoRow:wD K (.ref e0) (.ref e3)=some false)
  (h_k_NoStand_NoText:wD K (.ref e0) (.ref e4)=some false)
  (h_k_NoStand_NoWeb:wD K (.ref e0) (.ref e5)=some false)
  (h_k_NoStand_NoSwarm:wD K (.ref e0) (.ref e6)=some false)
  (h_k_NoStand_NoRule:wD K (.ref e0) (.ref e7)=some false)
  (h_k_NoStand_NoNumber:wD K (.ref e0) (.ref e8)=some false)
  (h_v_NoStand:wD K (.ref e0) (.type "ValueError")=some true)
  (h_x_TooLong:qj K e1 oM "ValueError.__new__"=true)
  (h_m_TooLong:qH K (.ref e1) (.ref e9)=some true)
  (h_e_TooLong:gI K e1)
  (h_k_TooLong_NoStand:wD K (.ref e1) (.ref e0)=some false)
  (h_k_TooLong_TooLong:wD K (.ref e1) (.ref e1)=some true)
  (h_k_TooLong_NoBack:wD K (.ref e1) (.ref e2)=some false)
  (h_k_TooLong_NoRow:wD K (.ref e1) (.ref e3)=some false)
  (h_k_TooLong_NoText:wD K (.ref e1) (.ref e4)=some false)
  (h_k_TooLong_NoWeb:wD K (.ref e1) (.ref e5)=some false)
  (h_k_TooLong_NoSwarm:wD K (.ref e1) (.ref e6)=some false)
  (h_k_TooLong_NoRule:wD K (.ref e1) (.ref e7)=some false)
  (h_k_TooLong_NoNumber:wD K (.ref e1) (.ref e8)=some false)
  (h_v_TooLong:wD K (.ref e1) (.type "ValueError")=some true)
  (q0:w9 K wN "NOUGHT"=some (some (.ref g0)))
  (r0:K.lookup g0=some ⟨.type "tuple",gd0,.seq #[.int 0 tk0_0,.int 1 tk0_1] gn0,gs0⟩)
  (q1:w9 K wN "ONE"=some (some (.ref g1)))
  (r1:K.lookup g1=some ⟨.type "tuple",gd1,.seq #[.int 1 tk1_0,.int 1 tk1_1] gn1,gs1⟩)
  (q2:w9 K wN "GREATEST_FACTOR"=some (some (.ref g2)))
  (r2:K.lookup g2=some ⟨.type "tuple",gd2,.seq #[.int 4 tk2_0,.int 1 tk2_1] gn2,gs2⟩)
  (q3:w9 K wN "FACTOR_BOTTOM"=some (some (.int 8 tk3)))
  (q4:w9 K wN "SHIFT_BOTTOM"=some (some (.int 12 tk4)))
  (q5:w9 K wN "MOST_WORMS"=some (some (.int 8 tk5)))
  (q6:w9 K wN "PHASE_BOTTOM"=some (some (.int 60 tk6)))
  (q7:w9 K wN "MOST_FREE"=some (some (.int 30 tk7)))
  : ∃fd:wG,(∀(s:wl)(v:wg),BindsTo s fd ⟨[v],[]⟩ [("_law_script",v)]) /\ ∀base:wH,K.In base->base.Ns wN mg->aN l.prog w K mg base aU 16 fa fd ["_law_script"] (sG K):=by
 obtain⟨aL,lL,cL,kL⟩:=a61;cases hfa.symm.trans (vN X G aL);have FL:=RF (st:=yu) lL cL kL;have D61:Dn K mg _ _ sx _ _:=⟨FL,vN X G aL,FL.binds (by wtm_at "bd")⟩;have⟨_,D0⟩:=a0.dn (ps:=yZ) X G (by wtm_at "bd");have⟨_,D1⟩:=a1.dn (ps:=Ax) X G (by wtm_at "bd");have⟨_,D2⟩:=a2.dn (ps:=Ai) X G (by wtm_at "bd");have⟨_,D3⟩:=a3.dn (ps:=yI) X G (by wtm_at "bd");have⟨_,D4⟩:=a4.dn (ps:=tF) X G (by wtm_at "bd");have⟨_,D5⟩:=a5.dn (ps:=sO) X G (by wtm_at "bd");have⟨_,D6⟩:=a6.dn (ps:=zM) X G (by wtm_at "bd");have⟨_,D7⟩:=a7.dn (ps:=zW) X G (by wtm_at "bd");have⟨_,D8⟩:=a8.dn (ps:=AB) X G (by wtm_at "bd");have⟨_,D9⟩:=a9.dn (ps:=Ar) X G (by wtm_at "bd");have⟨_,D10⟩:=a10.dn (ps:=As) X G (by wtm_at "bd");have⟨_,D11⟩:=a11.dn (ps:=tQ) X G (by wtm_at "bd");have⟨_,D12⟩:=a12.dn (ps:=zf) X G (by wtm_at "bd");have⟨_,D13⟩:=a13.dn (ps:=tG) X G (by wtm_at "bd");have⟨_,D14⟩:=a14.dn (ps:=u_) X G (by wtm_at "bd");have⟨_,D15⟩:=a15.dn (ps:=zu) X G (by wtm_at "bd");have⟨_,D16⟩:=a16.dn (ps:=za) X G (by wtm_at "bd");have⟨_,D17⟩:=a17.dn (ps:=yo) X G (by wtm_at "bd");have⟨_,D18⟩:=a18.dn (ps:=yK) X G (by wtm_at "bd");have⟨_,D19⟩:=a19.dn (ps:=Ap) X G (by wtm_at "bd");have⟨_,D20⟩:=a20.dn (ps:=yA) X G (by wtm_at "bd");have⟨_,D21⟩:=a21.dn (ps:=tP) X G (by wtm_at "bd");have⟨_,D22⟩:=a22.dn (ps:=sD) X G (by wtm_at "bd");have⟨_,D23⟩:=a23.dn (ps:=z9) X G (by wtm_at "bd");have⟨_,D24⟩:=a24.dn (ps:=Ac) X G (by wtm_at "bd");have⟨_,D25⟩:=a25.dn (ps:=tT) X G (by wtm_at "bd")
 have⟨_,D26⟩:=a26.dn (ps:=Au) X G (by wtm_at "bd");have⟨_,D27⟩:=a27.dn (ps:=sh) X G (by wtm_at "bd");have⟨_,D28⟩:=a28.dn (ps:=yO) X G (by wtm_at "bd");have⟨_,D29⟩:=a29.dn (ps:=zd) X G (by wtm_at "bd");have⟨_,D30⟩:=a30.dn (ps:=tJ) X G (by wtm_at "bd");have⟨_,D31⟩:=a31.dn (ps:=zP) X G (by wtm_at "bd");have⟨_,D32⟩:=a32.dn (ps:=zR) X G (by wtm_at "bd");have⟨_,D33⟩:=a33.dn (ps:=Ae) X G (by wtm_at "bd");have⟨_,D34⟩:=a34.dn (ps:=Al) X G (by wtm_at "bd");have⟨_,D35⟩:=a35.dn (ps:=zo) X G (by wtm_at "bd");have⟨_,D36⟩:=a36.dn (ps:=y7) X G (by wtm_at "bd");have⟨_,D37⟩:=a37.dn (ps:=ym) X G (by wtm_at "bd");have⟨_,D38⟩:=a38.dn (ps:=zK) X G (by wtm_at "bd");have⟨_,D39⟩:=a39.dn (ps:=yt) X G (by wtm_at "bd");have⟨_,D40⟩:=a40.dn (ps:=Ay) X G (by wtm_at "bd");have⟨_,D41⟩:=a41.dn (ps:=sM) X G (by wtm_at "bd");have⟨_,D42⟩:=a42.dn (ps:=tW) X G (by wtm_at "bd");have⟨_,D43⟩:=a43.dn (ps:=zc) X G (by wtm_at "bd");have⟨_,D44⟩:=a44.dn (ps:=zS) X G (by wtm_at "bd");have⟨_,D45⟩:=a45.dn (ps:=sJ) X G (by wtm_at "bd");have⟨_,D46⟩:=a46.dn (ps:=sV) X G (by wtm_at "bd");have⟨_,D47⟩:=a47.dn (ps:=sv) X G (by wtm_at "bd");have⟨_,D48⟩:=a48.dn (ps:=zO) X G (by wtm_at "bd");have⟨_,D49⟩:=a49.dn (ps:=tV) X G (by wtm_at "bd");have⟨_,D50⟩:=a50.dn (ps:=yR) X G (by wtm_at "bd");have⟨_,D51⟩:=a51.dn (ps:=zV) X G (by wtm_at "bd");have⟨_,D52⟩:=a52.dn (ps:=ye) X G (by wtm_at "bd");have⟨_,D53⟩:=a53.dn (ps:=y_) X G (by wtm_at "bd");have⟨_,D54⟩:=a54.dn (ps:=yT) X G (by wtm_at "bd")
 have⟨_,D55⟩:=a55.dn (ps:=sT) X G (by wtm_at "bd");have⟨_,D56⟩:=a56.dn (ps:=yB) X G (by wtm_at "bd");have⟨_,D57⟩:=a57.dn (ps:=tO) X G (by wtm_at "bd");have⟨_,D58⟩:=a58.dn (ps:=z6) X G (by wtm_at "bd");have⟨_,D59⟩:=a59.dn (ps:=sQ) X G (by wtm_at "bd");have⟨_,D60⟩:=a60.dn (ps:=sX) X G (by wtm_at "bd")
 have T:Txt K mg ⟨f0,_,f1,_,f2,_,f3,_,f4,_,f5,_,f6,_,f7,_,f8,_,f9,_,f10,_,f11,_,f12,_,f13,_,f14,_,f15,_,f16,_,f17,_,f18,_,f19,_,f20,_,f21,_,f22,_,f23,_,f24,_,f25,_,f26,_,f27,_,f28,_,f29,_,f30,_,f31,_,f32,_,f33,_,f34,_,f35,_,f36,_,f37,_,f38,_,f39,_,f40,_,f41,_,f42,_,f43,_,f44,_,f45,_,f46,_,f47,_,f48,_,f49,_,f50,_,f51,_,f52,_,f53,_,f54,_,f55,_,f56,_,f57,_,f58,_,f59,_,f60,_,_,_,e0,e1,e2,e3,e4,e5,e6,e7,e8,e9,g0,g1,g2⟩:=⟨D0,
  D1,
  D2,
  D3,
  D4,
  D5,
  D6,
  D7,
  D8,
  D9,
  D10,
  D11,
  D12,
  D13,
  D14,
  D15,
  D16,
  D17,
  D18,
  D19,
  D20,
  D21,
  D22,
  D23,
  D24,
  D25,
  D26,
  D27,
  D28,
  D29,
  D30,
  D31,
  D32,
  D33,
  D34,
  D35,
  D36,
  D37,
  D38,
  D39,
  D40,
  D41,
  D42,
  D43,
  D44,
  D45,
  D46,
  D47,
  D48,
  D49,
  D50,
  D51,
  D52,
  D53,
  D54,
  D55,
  D56,
  D57,
  D58,
  D59,
  D60,
  D61,
  vB X G z_ValueError,
  vB X G z_abs,
  vB X G z_all,
  vB X G z_any,
  vB X G z_bool,
  vB X G z_dict,
  vB X G z_enumerate,
  vB X G z_int,
  vB X G z_isinstance,
  vB X G z_len,
  vB X G z_list,
  vB X G z_min,
  vB X G z_range,
  vB X G z_set,
  vB X G z_sum,
  vB X G z_tuple,
  vB X G z_zip,
  vN X G n_NoStand,
  vN X G n_TooLong,
  vN X G n_NoBack,
  vN X G n_NoRow,
  vN X G n_NoText,
  vN X G n_NoWeb,
  vN X G n_NoSwarm,
  vN X G n_NoRule,
  vN X G n_NoNumber,
  vN X G n_GlowError,
  h_x_NoStand,
  h_m_NoStand,
  h_e_NoStand,
  h_k_NoStand_NoStand,
  h_k_NoStand_TooLong,
  h_k_NoStand_NoBack,
  h_k_NoStand_NoRow,
  h_k_NoStand_NoText,
  h_k_NoStand_NoWeb,
  h_k_NoStand_NoSwarm,
  h_k_NoStand_NoRule,
  h_k_NoStand_NoNumber,
  h_v_NoStand,
  h_x_TooLong,
  h_m_TooLong,
  h_e_TooLong,
  h_k_TooLong_NoStand,
  h_k_TooLong_TooLong,
  h_k_TooLong_NoBack,
  h_k_TooLong_NoRow,
  h_k_TooLong_NoText,
  h_k_TooLong_NoWeb,
  h_k_TooLong_NoSwarm,
  h_k_TooLong_NoRule,
  h_k_TooLong_NoNumber,
  h_v_TooLong,
  vN X G q0,
  λH=>.inr ⟨_,_,_,r0,rfl,rfl,by simp;decide,(.cons ⟨_,rfl⟩ (.cons ⟨_,rfl⟩ .nil))⟩,
  vN X G q1,
  λH=>.inr ⟨_,_,_,r1,rfl,rfl,by simp;decide,(.cons ⟨_,rfl⟩ (.cons ⟨_,rfl⟩ .nil))⟩,
  vN X G q2,
  λH=>.inr ⟨_,_,_,r2,rfl,rfl,by simp;decide,(.cons ⟨_,rfl⟩ (.cons ⟨_,rfl⟩ .nil))⟩,
  ⟨_,vN X G q3⟩,
  ⟨_,vN X G q4⟩,
  ⟨_,vN X G q5⟩,
  ⟨_,vN X G q6⟩,
  ⟨_,vN X G q7⟩⟩
 exact⟨_,λs v=>.of_eq rfl,λbase _ _=>zB2 T⟩
theorem walk{l:xM}{q:wJ}{loose:List Str}{XP:(Str->Option wg)->wH->Prop}{YP:wM->wH->Prop}{d:DefRec}{K:Params->wb}(hn:l.most=some 63)(hdf:d.params.defaults=[])
  (hY:∀(w:wM)(h:wH),YP w h->(K w.params).In h)
  (F:∀(w:wM)(mg:Str->Option wg)(fa:wf)(h:wH),(K w.params).In h->h.Ns wN mg->mg d.name=some (.ref fa) ->
   ∃fd:wG,(∀(s:wl)(u:wg),BindsTo s fd ⟨[u],[]⟩ [("_law_script",u)]) /\ ∀base:wH,(K w.params).In base->base.Ns wN mg->aN l.prog w (K w.params) mg base aU 16 fa fd ["_law_script"] (sG (K w.params))) :
  Ur q loose XP YP l.row.toRowW d [] (λf vs=>uT f vs) :=
 L2.Tu (n:=63) (k:=16) (x:="_law_script") (CX:=λ_=>aU) (sp:=λw=>sG (K w.params)) hn (by decide) hdf ⟨rfl,by decide,by decide,rfl⟩ hY F (λ_ H a ns hl hO hS=>⟨.ref a,rfl,a,ns,rfl,zA5 hO hS,hl,λ_=>rfl⟩) λ_ _ _ _ _ z=>z
end G
local macro_rules | `(tactic| wtm_at "fk")=>`(tactic| (refine' G.aV.mk ?a ?l ?c ?k; (case a=>k_is); (case l=>k_is); (case c=>k_is); (case k=>k_is)))
open PySem PySem.W PyProof.Rows
set_option maxRecDepth 100000 in
set_option maxHeartbeats 0 in
theorem PySem.Challenge.cw_glowflock_k64_whole_drawn_ever_nearer_holds : PySem.Challenge.rw_glowflock_k64_whole_drawn_ever_nearer.Holds := by
 w_on; refine GH.head ?_
 k_fill
 refine G.walk (l:=PySem.Challenge.rw_glowflock_k64_whole_drawn_ever_nearer) rfl rfl (fun w h Y=>PySem.W.kIn_of Y) ?F
 case F =>
   intro w mg fa h KX GG hmg;refine' G.all_mk KX GG hmg ?a0 ?a1 ?a2 ?a3 ?a4 ?a5 ?a6 ?a7 ?a8 ?a9 ?a10 ?a11 ?a12 ?a13 ?a14 ?a15 ?a16 ?a17 ?a18 ?a19 ?a20 ?a21 ?a22 ?a23 ?a24 ?a25 ?a26 ?a27 ?a28 ?a29 ?a30 ?a31 ?a32 ?a33 ?a34 ?a35 ?a36 ?a37 ?a38 ?a39 ?a40 ?a41 ?a42 ?a43 ?a44 ?a45 ?a46 ?a47 ?a48 ?a49 ?a50 ?a51 ?a52 ?a53 ?a54 ?a55 ?a56 ?a57 ?a58 ?a59 ?a60 ?a61 ?n_NoStand ?n_TooLong ?n_NoBack ?n_NoRow ?n_NoText ?n_NoWeb ?n_NoSwarm ?n_NoRule ?n_NoNumber ?n_GlowError ?z_ValueError ?z_abs ?z_all ?z_any ?z_bool ?z_dict ?z_enumerate ?z_int ?z_isinstance ?z_len ?z_list ?z_min ?z_range ?z_set ?z_sum ?z_tuple ?z_zip ?h_x_NoStand ?h_m_NoStand ?h_e_NoStand ?h_k_NoStand_NoStand ?h_k_NoStand_TooLong ?h_k_NoStand_NoBack ?h_k_NoStand_NoRow ?h_k_NoStand_NoText ?h_k_NoStand_NoWeb ?h_k_NoStand_NoSwarm ?h_k_NoStand_NoRule ?h_k_NoStand_NoNumber ?h_v_NoStand ?h_x_TooLong ?h_m_TooLong ?h_e_TooLong ?h_k_TooLong_NoStand ?h_k_TooLong_TooLong ?h_k_TooLong_NoBack ?h_k_TooLong_NoRow ?h_k_TooLong_NoText ?h_k_TooLong_NoWeb ?h_k_TooLong_NoSwarm ?h_k_TooLong_NoRule ?h_k_TooLong_NoNumber ?h_v_TooLong ?q0 ?r0 ?q1 ?r1 ?q2 ?r2 ?q3 ?q4 ?q5 ?q6 ?q7
   (case a0=>wtm_at "fk")
   (case a1=>wtm_at "fk")
   (case a2=>wtm_at "fk")
   (case a3=>wtm_at "fk")
   (case a4=>wtm_at "fk")
   (case a5=>wtm_at "fk")
   (case a6=>wtm_at "fk")
   (case a7=>wtm_at "fk")
   (case a8=>wtm_at "fk")
   (case a9=>wtm_at "fk")
   (case a10=>wtm_at "fk")
   (case a11=>wtm_at "fk")
   (case a12=>wtm_at "fk")
   (case a13=>wtm_at "fk")
   (case a14=>wtm_at "fk")
   (case a15=>wtm_at "fk")
   (case a16=>wtm_at "fk")
   (case a17=>wtm_at "fk")
   (case a18=>wtm_at "fk")
   (case a19=>wtm_at "fk")
   (case a20=>wtm_at "fk")
   (case a21=>wtm_at "fk")
   (case a22=>wtm_at "fk")
   (case a23=>wtm_at "fk")
   (case a24=>wtm_at "fk")
   (case a25=>wtm_at "fk")
   (case a26=>wtm_at "fk")
   (case a27=>wtm_at "fk")
   (case a28=>wtm_at "fk")
   (case a29=>wtm_at "fk")
   (case a30=>wtm_at "fk")
   (case a31=>wtm_at "fk")
   (case a32=>wtm_at "fk")
   (case a33=>wtm_at "fk")
   (case a34=>wtm_at "fk")
   (case a35=>wtm_at "fk")
   (case a36=>wtm_at "fk")
   (case a37=>wtm_at "fk")
   (case a38=>wtm_at "fk")
   (case a39=>wtm_at "fk")
   (case a40=>wtm_at "fk")
   (case a41=>wtm_at "fk")
   (case a42=>wtm_at "fk")
   (case a43=>wtm_at "fk")
   (case a44=>wtm_at "fk")
   (case a45=>wtm_at "fk")
   (case a46=>wtm_at "fk")
   (case a47=>wtm_at "fk")
   (case a48=>wtm_at "fk")
   (case a49=>wtm_at "fk")
   (case a50=>wtm_at "fk")
   (case a51=>wtm_at "fk")
   (case a52=>wtm_at "fk")
   (case a53=>wtm_at "fk")
   (case a54=>wtm_at "fk")
   (case a55=>wtm_at "fk")
   (case a56=>wtm_at "fk")
   (case a57=>wtm_at "fk")
   (case a58=>wtm_at "fk")
   (case a59=>wtm_at "fk")
   (case a60=>wtm_at "fk")
   (case a61=>wtm_at "fk")
   (case n_NoStand=>k_is)
   (case n_TooLong=>k_is)
   (case n_NoBack=>k_is)
   (case n_NoRow=>k_is)
   (case n_NoText=>k_is)
   (case n_NoWeb=>k_is)
   (case n_NoSwarm=>k_is)
   (case n_NoRule=>k_is)
   (case n_NoNumber=>k_is)
   (case n_GlowError=>k_is)
   (case z_ValueError=>k_is)
   (case z_abs=>k_is)
   (case z_all=>k_is)
   (case z_any=>k_is)
   (case z_bool=>k_is)
   (case z_dict=>k_is)
   (case z_enumerate=>k_is)
   (case z_int=>k_is)
   (case z_isinstance=>k_is)
   (case z_len=>k_is)
   (case z_list=>k_is)
   (case z_min=>k_is)
   (case z_range=>k_is)
   (case z_set=>k_is)
   (case z_sum=>k_is)
   (case z_tuple=>k_is)
   (case z_zip=>k_is)
   (case h_x_NoStand=>k_exc)
   (case h_m_NoStand=>kts_exm)
   (case h_e_NoStand=>(refine L2.gI.mk ?_ ?_ ?_ ?_ ?_ ?_ ?_ ?_ <;> first | k_is | (show PySem.W.isClsIn _ _ = true; k_is)))
   (case h_k_NoStand_NoStand=>kit_is)
   (case h_k_NoStand_TooLong=>kit_is)
   (case h_k_NoStand_NoBack=>kit_is)
   (case h_k_NoStand_NoRow=>kit_is)
   (case h_k_NoStand_NoText=>kit_is)
   (case h_k_NoStand_NoWeb=>kit_is)
   (case h_k_NoStand_NoSwarm=>kit_is)
   (case h_k_NoStand_NoRule=>kit_is)
   (case h_k_NoStand_NoNumber=>kit_is)
   (case h_v_NoStand=>kit_is)
   (case h_x_TooLong=>k_exc)
   (case h_m_TooLong=>kts_exm)
   (case h_e_TooLong=>(refine L2.gI.mk ?_ ?_ ?_ ?_ ?_ ?_ ?_ ?_ <;> first | k_is | (show PySem.W.isClsIn _ _ = true; k_is)))
   (case h_k_TooLong_NoStand=>kit_is)
   (case h_k_TooLong_TooLong=>kit_is)
   (case h_k_TooLong_NoBack=>kit_is)
   (case h_k_TooLong_NoRow=>kit_is)
   (case h_k_TooLong_NoText=>kit_is)
   (case h_k_TooLong_NoWeb=>kit_is)
   (case h_k_TooLong_NoSwarm=>kit_is)
   (case h_k_TooLong_NoRule=>kit_is)
   (case h_k_TooLong_NoNumber=>kit_is)
   (case h_v_TooLong=>kit_is)
   (case q0=>k_is)
   (case r0=>k_is)
   (case q1=>k_is)
   (case r1=>k_is)
   (case q2=>k_is)
   (case r2=>k_is)
   (case q3=>k_is)
   (case q4=>k_is)
   (case q5=>k_is)
   (case q6=>k_is)
   (case q7=>k_is)
#print axioms PySem.Challenge.cw_glowflock_k64_whole_drawn_ever_nearer_holds
