import PyProof.Rows.All
import Wide.All
import OpenK.AllK
import Wide.FinOn
import Lean
import PyProof.EqAt
import PyProof.EqKinds
import PyProof.TupleCall
import PyProof.P3In
import PyProof.ReprRoads
import PyProof.MaxThree
import PyProof.Rows.SetFrom
import PyProof.SetRoads
import PyProof.Rows.TupDisplay
import PyProof.AttrMissHeap
import KE.KDictOf
import PyProof.Walks
import KE.KItemsList
import PySem.SetTable
import PyProof.TupleKey
import PyProof.SetKind
import PyProof.IsRules
import KE.KSortTup
import PyProof.FactsAll.set_1
import KE.KDictList
import PyProof.WalksMore
import PyProof.DictValues
import PyProof.DictWalks
import PySem.Challenge.RW_glowflock_k37_whole_told_on_the_way
set_option compiler.extract_closed false
set_option Elab.async false
set_option linter.all false
set_option maxRecDepth 100000
open Array renaming append_assoc->XC,forIn_toList->Vz,getD->uR,getD_eq_getD_getElem?->vC,getElem?_eq_getElem->vY,getElem?_eq_none->Vv,getElem?_eq_some_iff->W2,getElem?_toList->Wy,length_toList->wK,replicate->uT,size_map->u8,toList->Up
open Bool renaming and_eq_true->wZ,and_eq_true_iff->Xd,and_false->QT,and_true->Xq,beq_eq_decide_eq->Qy,eq_iff_iff->vL,false_and->Ww,false_eq_true->ve,false_ne_true->vF,not_eq_true->uw,not_eq_true'->WV,not_false->QN,not_true->Wv,or_eq_true->uM,or_false->Ud,true_and->ql
open Classical renaming byContradiction->VX,not_not->qy
open False renaming elim->W1
open Int renaming dvd_mul_left->uo,dvd_mul_right->Vi,dvd_trans->qj,ediv_eq_of_eq_mul_right->QZ,ediv_le_self->ur,ediv_mul_le->uZ,emod_lt_of_pos->Qe,emod_nonneg->QI,fdiv_eq_ediv_of_nonneg->VI,gcd->vE,gcd_comm->XF,gcd_dvd_left->qG,gcd_dvd_right->Qn,gcd_pos_of_ne_zero_right->qC,gcd_zero_right->XS,mul_assoc->qi,mul_ediv_cancel_left->V6,mul_le_mul_of_nonneg_right->WJ,mul_ne_zero->xB,mul_neg->ud,mul_nonneg->Ub,mul_one->xI,mul_pos->vQ,natAbs_ediv_le_natAbs->xg,natAbs_mul->xW,natCast_ediv->V7,natCast_mul->VD,neg_dvd->uc,neg_one_mul->uI,one_mul->xM,pow_add->uj,pow_ne_zero->qo,pow_pos->ue,pow_succ->V9,pow_zero->QJ,sign_eq_neg_one_of_neg->Q6,sign_eq_one_of_pos->xL,toNat->xD,toNat_natCast->wP,zero_sub->XU
open List renaming Pairwise->Q5,all_cons->Xn,all_eq_true->WO,all_map->XJ,any_cons->Qt,any_eq_true->uB,append_assoc->Vh,append_inj_left->Xm,append_nil->Wh,cons_append->xn,dropLast_concat_getLast->QP,dropLast_eq_take->xZ,drop_eq_getElem_cons->qQ,drop_eq_nil_of_le->xP,drop_succ_cons->QL,drop_zero->x6,eq_nil_of_length_eq_zero->Vm,ext_getElem->WN,filterMap_cons->qK,filter_append->Va,filter_congr->vO,filter_cons->W4,filter_eq_nil_iff->xQ,filter_filter->Qb,find?_cons->uV,find?_some->uW,flatten_cons->VM,foldl->uE,foldl_append->XZ,foldl_cons->uF,forIn_cons->qR,forIn_nil->QR,getD_eq_getElem?_getD->wa,getElem?_append_left->vI,getElem?_append_right->vi,getElem?_cons_succ->Qm,getElem?_cons_zero->xx,getElem?_drop->Q0,getElem?_eq_getElem->wc,getElem?_eq_none->wL,getElem?_eq_some_iff->Wt,getElem?_map->wu,getElem?_range->vM,getElem?_replicate->xu,getElem?_set->VN,getElem?_set_ne->Xe,getElem?_set_self->xH,getElem?_take_of_lt->xk,getElem?_toArray->Xa,getElem_drop->X1,getElem_map->Vp,getElem_mem->vK,getElem_of_mem->wX,getElem_take->X0,length->xK,length_append->wR,length_cons->vo,length_drop->vR,length_dropLast->Xl,length_eq_zero_iff->Ql,length_erase_of_mem->xq,length_filter_le->WK,length_map->wm,length_nil->xG,length_pos_iff->qf,length_pos_of_mem->qt,length_range->vx,length_replicate->Wx,length_set->VC,length_singleton->vV,length_tail->Qv,length_take->Wq,length_zipWith->Xs,lookup_cons->qI,map_append->vA,map_congr_left->qg,map_cons->vd,map_drop->Xo,map_dropLast->xc,map_map->WM,map_nil->xl,map_replicate->XV,map_take->Xp,mem_append->vX,mem_append_left->VU,mem_append_right->Wc,mem_cons->wF,mem_cons_of_mem->wy,mem_cons_self->wz,mem_erase_of_ne->Xk,mem_filter->vg,mem_filterMap->qV,mem_iff_getElem->Xi,mem_iff_getElem?->x5,mem_map->wU,mem_of_find?_eq_some->xj,mem_of_getElem?->Qz,mem_or_eq_of_mem_set->xh,mem_range->wH,mem_singleton->w6,nil_append->QD,nodup_cons->WW,nodup_range->W5,not_mem_nil->WA,of_mem_zip->xz,pairwise_append->qH,pairwise_cons->W9,pairwise_iff_getElem->We,pairwise_map->qw,pairwise_singleton->xv,range->wt,range_succ->QF,replicate->vc,replicate_succ->qd,set_cons_succ->XQ,set_cons_zero->XR,size_toArray->wO,sum_cons->Vk,tail_cons->u4,take_add_one->Qo,take_append_drop->xY,take_length->Wr,take_of_length_le->WF,take_sublist->XW,take_subset->ut,take_succ_cons->Xw,take_zero->Ua,zipIdx_cons->uA,zipIdx_nil->uP
open List.Pairwise renaming drop->Ux,imp_of_mem->Us
open List.cons renaming injEq->uO
open Nat renaming add_assoc->WS,add_comm->QC,add_le_add_left->Xx,add_mul->ug,add_sub_cancel->qZ,add_sub_cancel'->qN,add_zero->XG,div_div_eq_div_mul->xU,eq_or_lt_of_le->Vb,eq_zero_or_pos->XT,gcd_dvd_right->XY,le_add_right->WP,le_antisymm->uL,le_max_left->uJ,le_max_right->um,le_of_dvd->Ug,le_of_lt->Ve,le_of_lt_succ->VQ,le_refl->wo,le_trans->Wa,lt_irrefl->Vj,lt_of_le_of_lt->W7,lt_of_lt_of_le->wV,lt_or_ge->wA,lt_succ_of_lt->VO,lt_trans->XE,lt_trichotomy->WU,lt_two_pow_self->Xy,min_eq_left->xE,min_le_right->uk,mod_eq_of_lt->xp,mod_lt->qm,mod_mul->xT,mul_add->QX,mul_assoc->W3,mul_comm->V5,mul_le_mul->V2,mul_le_mul_left->qM,mul_le_mul_right->Wf,mul_left_comm->X7,mul_mod->ui,mul_succ->qY,ne_of_gt->vn,ne_of_lt->wQ,not_lt_zero->WI,one_mul->uh,pow_add->QV,pow_le_pow_right->Xg,pow_succ->WY,strongRecOn->uS,sub_add_cancel->XO,sub_self->Vf,succ_mul->qB,succ_ne_self->uz,succ_pos->QE,two_pow_pos->Wi,zero_add->QG,zero_le->Wm,zero_mul->xr
open Nat.succ renaming inj->xt
open Ne renaming symm->WE
open Option renaming getD_none->ul,getD_some->Qw,isSome->Uh,map->Uv,map_eq_some_iff->Vs,map_some->uN
open Option.some renaming inj->wM,injEq->Qp
open Prod renaming ext->VH,fst->Um,snd->Uo
open PyProof.Rows renaming callWith_type1->vB,slot_tuple_getitem->qh
open PyProof.Rows.F renaming entry_set_update_loop->Qd,plain_set_update_loop->VA
open PyProof.Rows.IsTup renaming new->Qx
open PySem renaming Addr->we,Around->vb,FuncData->wE,Heap->wG,IsPair->Wz,IsTupleKey->vH,NameKind->W6,Program->wI,PyData->wC,SetTable->Ws,Shared->wl,Stmt->w9,Value->wg,World->wJ,binaryOp->WC,bootBuiltins->vN,cLine->WD,call->uH,codeAny_builtin->qr,compareOp->wT,letOwnedTupleGo->qT,mainGlobals->wS,mem_of_lookup->Vo,ofAClassStatement->qA,pyNext->VR,rawInt->VS,sizeLine->w8,sizeLine_eq->Vw,sliceBounds->qJ,starEach->w5,tupleKeyHash->vf,wpAny->wx,wpAny_Call_Name_kw->Qg,wpAny_attempt->VL,wpAny_bind->wf,wpAny_call_entry->Wd,wpAny_execs_nil->qS,wpAny_field->vD,wpAny_forIn_list->qc,wpAny_holding->Wk,wpAny_isInstance->Vr,wpAny_mono->WB,wpAny_newObj_type->WH,wpAny_passesOwn->VG,wpAny_pure->wp,wpAny_pyIter_list->qz,wpAny_pyIter_tuple->Vc,wpAny_seqItems->Wg,wpAny_setField_rec->Vd,wpAny_setState_of->VT,wpAny_specialOf->qU,wpAny_truthy_bool->Wo
open PySem.Around renaming under->Uq,under_plainId->VY
open PySem.Builtin.Dict renaming pairItems->xV,updateFrom->xy
open PySem.Builtin.Frozenset renaming newClass->Uk,updateFrom->u9
open PySem.Builtin.Int renaming intBits->Xu
open PySem.Builtin.List renaming listTooLong->qX
open PySem.Builtin.Range renaming rangeSize->Ut
open PySem.Builtin.Slice renaming sliceAdjust->qO,sliceApplied->Q3,sliceFields->Ul,slicePartIndex->u0,slicePlaces->VW
open PySem.Builtin.SmallTypes renaming nextOf->vJ,ownedTupleHandOut->Qc,ownedTupleIsFree->vG
open PySem.Builtin.Tuple renaming tupleExact->V4,tupleHashOf->vZ,tupleItemsOf->Q4
open PySem.Calls renaming Name_function_global->Q2,evalArgs_plain->Xf,spliced_cons->QY,spliced_nil->Q8
open PySem.Challenge renaming pw_glowflock_k37_whole_told_on_the_way->Vx,rw_glowflock_k37_whole_told_on_the_way->wq
open PySem.Code renaming isGuard->Ur
open PySem.EntryCells renaming newEntry->Xv
open PySem.F renaming args_enumerate_next_1->xw,args_tuple_add_2->qW,args_tuple_iterator_next_1->QQ,args_zip_next_1->VP,called_set->qb,entry_enumerate_next->xS,entry_tuple_add->Qk,entry_tuple_iterator_next->Q1,entry_zip_next->qa,excBase_ValueError->Xj,plainAttrs_list->WT,plain_set_new->uU,slot_enumerate_next->qE,slot_int_rmul->uG,slot_list_append->WQ,slot_tuple_add->Qr,slot_tuple_eq->xF,slot_tuple_hash->qx,slot_tuple_iterator_next->VJ,slot_zip_getattribute->qu,slot_zip_next->Wp,type_list_append->WR
open PySem.Heap renaming IsTuple->XM,MadeExcOf->u5,SameBut->vv,get?_push_ne->Q9,get?_push_of_some->wn,get?_push_size->wN,get?_update_other->Qs,get?_update_self->VB,lt_size->wD,size_push->V1,update->xR
open PySem.Heap.IsSliceOf renaming new->Uw
open PySem.Heap.SameBut renaming refl->X9,update->qL
open PySem.IntMulOk renaming of_left->uC,of_right->ua
open PySem.IsRange renaming new->Uu
open PySem.Obj renaming cls_mapFields->X6,data_mapFields->qp,isFreed_of_fields->qD,mapFields->Qu,mapSeq->xf,putSet->xi
open PySem.Paired renaming length->Uc
open PySem.PassesOwn renaming leaving->ub,never->vP
open PySem.PyData renaming canLay0->vU,canLayAll0->Wu,depth->Vg,depthAll->WX,eqv->wY,eqvAll->Vl,strOk->XI
open PySem.SeqAt renaming canLay_of_shaped->Vq,shaped->Wb
open PySem.SeqAt.EqAt renaming int_str->Xz,str_int->XA
open PySem.SetTable renaming below->WG,fill->Uj,grown->Xc,has->XN,insertAt->Wn,laid->Ui,layClean->X8,sizeAbove->qq,turns->Xb
open PySem.SetTable.below renaming go->Qq
open PySem.SetTable.layClean renaming free->W0
open PySem.SetTable.probe renaming go->xb
open PySem.SetTable.sizeAbove renaming go->Wl
open PySem.Shared renaming heap->uf
open PySem.Str renaming ofString->vW,ofString->wW
open PySem.Value renaming isInt->QU
open PySem.W renaming Frag->wb,OpenLaw->xA,WalkO->Ue,callWith_K->XD,cellsFrom_some->xJ,codeIn->QM,excIn->qk,exmOne->qF,fnOf->V3,hideAll->uD,hideAll_get->Xr,keepIn->Qh,kia_one->VE,kia_tup->VF,kitAny->u7,kitOne->V0,kitx_bool->X3,kitx_dict->X5,kitx_int->uu,kitx_list->X4,kitx_none->X2,kitx_str->uv,kitx_tuple->XH,methodObj->Q7,mg_none_of->vy,mg_of->Wj,nsIn->vj,of_hideAll->XB
open PySem.W.Looks renaming ld->Uy
open PySem.Walks renaming list->uQ
open Rat renaming den_divInt->u3,den_intCast->uY,divInt->wB,divInt_mul_divInt->xX,divInt_nonneg->XX,divInt_ofNat->xm,div_def->xN,div_mul_cancel->W8,ext->u6,intCast_add->qP,intCast_eq_zero_iff->Vn,intCast_le_intCast->Vt,intCast_lt_intCast->xO,intCast_mul->vS,intCast_pos->uK,le_iff->Xh,le_of_lt->vT,le_refl->WZ,le_trans->xo,lt_of_le_of_ne->Qa,mul_assoc->Uf,mul_comm->Qf,mul_eq_zero->xC,mul_le_mul_of_nonneg_right->QK,mul_nonneg->Qj,mul_pos->VZ,not_lt->Vu,num_divInt_den->Vy,num_intCast->uX,num_nonneg->Qi,one_mul->QW,pow_succ->WL,pow_zero->V8
namespace GH
open PySem PySem.W PyProof.Rows
noncomputable def zw (p:wI) (w:wJ) (m:Nat) (an:Option wg) (N:Nat) (s0:wl):Option wl :=
 Option.bind (Fast.tw14082659384304107361 Fast.tw14364793385576792824 p w m an N s0 (topStub p)) λs1=>match staticsOk (Fast.tw5923862056798008813 p.main.body) s0.heap s1.heap&&namesBound p s1.heap&&gensDone s1&&laidKept s0.heap s1.heap with | true=>some s1 | false=>none
noncomputable def gu (w:wJ) (os:OsState):wl:=⟨boot_heap w.params,#[],boot_drawn,boot_toks,os⟩
theorem zw3{p q:wI}{loose:List Str}{Xt:wl->Bool}{A:Type}{Yf:wl->A}{Ya:wJ->A}{N:Nat}(e:opening p=plainProg p.main.scope.names)(hN:Nat.ble 600 N=true)(f:∀s,fenceModules? p s=some s){m:Nat}{an:Option wg}
  (size:∀w:wJ,((boot_heap w.params).isNs wS,(boot_heap w.params).objs.size,(boot_heap w.params).nsMap wS "__annotations__")=(true,m,an))
  (h:∀w:wJ,(λos=>(zw p w m an N (gu w os)).map (λs=>(Fast.tw4187177175401517315 q loose (Fast.tw5923862056798008813 p.main.body) Xt true s,Yf s)))=λ_=>some (openGood q loose,Ya w)):LeftO p q loose Xt Yf Ya N:=λw=>by
 obtain⟨⟨h',gs,d,k,os⟩,e',e2⟩:=Vs.mp (boot_open e hN f (w:=w));obtain⟨rfl,rfl,rfl,rfl⟩:h'=boot_heap w.params/\gs = #[]/\d=boot_drawn/\k=boot_toks:=by simpa using e2
 obtain⟨z1,z2,z3⟩:_/\_/\_:=by simpa only[Prod.mk.injEq] using size w
 have r:=congrFun (h w) os;unfold openEnds;rw[e']
 show Uv _ (topFrom treeTable p w N _)=_
 rw[<- r];unfold topFrom zw gu;rw[<- Fast.te14082659384304107361,<- Fast.te14364793385576792824,<- Fast.te5923862056798008813,<- Fast.te4187177175401517315];dsimp only;rw[z1,z2,z3]
 rfl
noncomputable def jf (p:wI) (w:wJ) (m:Nat) (an:Option wg) (N:Nat) (s0:wl):Option wl:=Fast.tw14082659384304107361 Fast.tw14364793385576792824 p w m an N s0 (topStub p)
noncomputable def AQ (p:wI) (w:wJ) (os:OsState) (s1:wl):Bool:=staticsOk (Fast.tw5923862056798008813 p.main.body) (gu w os).heap s1.heap&&namesBound p s1.heap&&gensDone s1&&laidKept (gu w os).heap s1.heap
theorem YO{p q:wI}{loose:List Str}{Xt:wl->Bool}{A:Type}{Yf:wl->A}{Ya:wJ->A}{N:Nat}(e:opening p=plainProg p.main.scope.names)(hN:Nat.ble 600 N=true)(f:∀s,fenceModules? p s=some s){m:Nat}{an:Option wg}
  (size:∀w:wJ,((boot_heap w.params).isNs wS,(boot_heap w.params).objs.size,(boot_heap w.params).nsMap wS "__annotations__")=(true,m,an)) (hp:drecsOf q=[]) (he:plainsOf q (looseW q loose)=[]) (hd:dclssOf q loose=[])
  (hB0:∀w:wJ,(λos=>(jf p w m an N (gu w os)).map (λs=>(AQ p w os s,(Fast.tw4187177175401517315 q loose (Fast.tw5923862056798008813 p.main.body) Xt true s).2.2.2.1)))=λ_=>some (true,true))
  (hB1:∀w:wJ,(λos=>(jf p w m an N (gu w os)).map (λs=>((Fast.tw4187177175401517315 q loose (Fast.tw5923862056798008813 p.main.body) Xt true s).1,(Fast.tw4187177175401517315 q loose (Fast.tw5923862056798008813 p.main.body) Xt true s).2.1)))=λ_=>some (expectedOf q,bltViewBooted))
  (hB2:∀w:wJ,(λos=>(jf p w m an N (gu w os)).map (λs=>(Fast.tw4187177175401517315 q loose (Fast.tw5923862056798008813 p.main.body) Xt true s).2.2.1))=λ_=>some true)
  (hB3:∀w:wJ,(λos=>(jf p w m an N (gu w os)).map (λs=>(Fast.tw4187177175401517315 q loose (Fast.tw5923862056798008813 p.main.body) Xt true s).2.2.2.2.2.2.2))=λ_=>some (wideGood q,clsGoodW q loose))
  (hC:∀w:wJ,(λos=>(jf p w m an N (gu w os)).map (λs=>Yf s))=λ_=>some (Ya w)):LeftO p q loose Xt Yf Ya N:=by
 refine zw3 e hN f size λw=>?_
 funext os
 have h1:=congrFun (hB0 w) os;obtain⟨s1,e1,e2⟩:=Vs.mp h1;have g1:=congrFun (hB1 w) os;have g2:=congrFun (hB2 w) os;have g3:=congrFun (hB3 w) os;have k:=congrFun (hC w) os;rw[e1]at g1 g2 g3 k;have g1:=wM g1;have g2:=wM g2;have g3:=wM g3;have a0:=congrArg Um e2;have b0:=congrArg Uo e2;have a1:=congrArg Um g1;have b1:=congrArg Uo g1
 have gp:(Fast.tw4187177175401517315 q loose (Fast.tw5923862056798008813 p.main.body) Xt true s1).2.2.2.2.1=pinGoodD (drecsOf q):=by
  rw[<- Fast.te4187177175401517315]
  show pinSeenD q (drecsOf q) s1=_
  rw[hp]
  rfl
 have ge:(Fast.tw4187177175401517315 q loose (Fast.tw5923862056798008813 p.main.body) Xt true s1).2.2.2.2.2.1=plainGoodE q (looseW q loose):=by
  rw[<- Fast.te4187177175401517315]
  show plainSeenE q (looseW q loose) s1=_
  unfold plainSeenE plainGoodE;rw[he]
  rfl
 have gd:(Fast.tw4187177175401517315 q loose (Fast.tw5923862056798008813 p.main.body) Xt true s1).2.2.2.2.2.2.1=plainGoodD q loose:=by
  rw[<- Fast.te4187177175401517315]
  show plainSeenD q loose s1=_
  unfold plainSeenD plainGoodD;rw[hd]
  rfl
 have g:Fast.tw4187177175401517315 q loose (Fast.tw5923862056798008813 p.main.body) Xt true s1=openGood q loose:=VH a1 (VH b1 (VH g2 (VH b0 (VH gp (VH ge (VH gd g3))))));have k:=wM k
 have ez:zw p w m an N (gu w os)=some s1:=by
  unfold zw;unfold jf at e1;rw[e1]
  show(match AQ p w os s1 with | true=>some s1 | false=>none)=some s1
  rw[show AQ p w os s1=true from a0]
 rw[ez];exact congrArg some (VH g k)
def qv:wI:=view Vx [1,2,3,4,5,6,8,9,10,11,12,13,14,15,16,17,18,20,21,22,23,24,25,26,27,28,29,31,32,33,34,35,36,37,38,39,40,42,43,45,46,47,48,49,50,51,52,53,55,56,57,58,59,60,61,62,63,64,66,67,68,69,70,71,72,73,74,75,76,77,78,79,80,81,83,84,85,86,87,88,89,90,91,92,93,94,95,96,97,98,99,100,101]
theorem MR{a b:Bool}(h:a=true)(k:b=true):(a&&b)=true:=by rw[h,k];rfl
set_option maxHeartbeats 0 in
theorem Kw:wq.wellSaid=true:=by
 unfold OpenLaw.wellSaid OpenRow.wellSaid OpenRow.partSaid looksOpen
 repeat' with_reducible refine MR ?_ ?_
 all_goals decide +kernel
theorem size(w:wJ):((boot_heap w.params).isNs wS,(boot_heap w.params).objs.size,(boot_heap w.params).nsMap wS "__annotations__")=(true,11,some (.ref 6)):=by kernel_rfl
theorem no1:drecsOf qv=[]:=by kernel_rfl
theorem no2:plainsOf qv (looseW qv [])=[]:=by kernel_rfl
theorem no3:dclssOf qv []=[]:=by kernel_rfl
theorem Y8(w:wJ):(λos=>(jf wq.row.prog w 11 (some (.ref 6)) 7584 (gu w os)).map (λs=>(AQ wq.row.prog w os s,(Fast.tw4187177175401517315 qv [] (Fast.tw5923862056798008813 wq.row.prog.main.body) (λs=>xlAt GH.qv [] s&&recOk (RowW.records (OpenRow.toRowW (OpenLaw.row wq))) s) true s).2.2.2.1)))=λ_=>some (true,true):=by kernel_rfl
theorem Y6(w:wJ):(λos=>(jf wq.row.prog w 11 (some (.ref 6)) 7584 (gu w os)).map (λs=>((Fast.tw4187177175401517315 qv [] (Fast.tw5923862056798008813 wq.row.prog.main.body) (λs=>xlAt GH.qv [] s&&recOk (RowW.records (OpenRow.toRowW (OpenLaw.row wq))) s) true s).1,(Fast.tw4187177175401517315 qv [] (Fast.tw5923862056798008813 wq.row.prog.main.body) (λs=>xlAt GH.qv [] s&&recOk (RowW.records (OpenRow.toRowW (OpenLaw.row wq))) s) true s).2.1)))=λ_=>some (expectedOf qv,bltViewBooted):=by kernel_rfl
theorem Za(w:wJ):(λos=>(jf wq.row.prog w 11 (some (.ref 6)) 7584 (gu w os)).map (λs=>(Fast.tw4187177175401517315 qv [] (Fast.tw5923862056798008813 wq.row.prog.main.body) (λs=>xlAt GH.qv [] s&&recOk (RowW.records (OpenRow.toRowW (OpenLaw.row wq))) s) true s).2.2.1))=λ_=>some true:=by kernel_rfl
theorem Y7(w:wJ):(λos=>(jf wq.row.prog w 11 (some (.ref 6)) 7584 (gu w os)).map (λs=>(Fast.tw4187177175401517315 qv [] (Fast.tw5923862056798008813 wq.row.prog.main.body) (λs=>xlAt GH.qv [] s&&recOk (RowW.records (OpenRow.toRowW (OpenLaw.row wq))) s) true s).2.2.2.2.2.2.2))=λ_=>some (wideGood qv,clsGoodW qv []):=by kernel_rfl
local macro_rules | `(tactic| o_head $H)=>`(tactic| (refine holds_open (q:=GH.qv) (loose:=[]) (Xt:=λ s=>xlAt GH.qv [] s && recOk (RowW.records (OpenRow.toRowW (OpenLaw.row wq))) s) (XP:=XL GH.qv []) (Yf:=Hook.obs $H) (Ya:=Hook.val $H) (YP:=Hook.says $H) (N:=7584) ?hl (Hook.of $H) (Hook.keeps $H) (λ s e=>xl_of s (Xd.mp e).1) XL.keeps (by rfl) (by rfl) (by rfl) (λ s e=>recFacts_of (Xd.mp e).2) (by rfl) (by first | assumption | decide +kernel) (by decide +kernel) ⟨rfl,rfl,rfl,rfl,rfl,by decide +kernel⟩ ?hw ?hc; (case hl=>refine GH.YO (by kernel_rfl) rfl (λ s=>by kernel_rfl) GH.size GH.no1 GH.no2 GH.no3 GH.Y8 GH.Y6 GH.Za GH.Y7 ?_; intro w; kernel_rfl)))
local macro_rules | `(tactic| o_law)=>`(tactic| refine holds_law GH.Kw λ Kw=>?_)
set_option maxHeartbeats 0
open_top head for wq
end GH
set_option maxHeartbeats 4000000
namespace L2
open PySem PySem.Spec PyProof.Rows
variable{H:Hp}{a b:we}{o:HO}
abbrev Key:=Sum Int Str
def Q_:Key->wg->Bool
 | .inl k,v=>QU k v
 | .inr x,v=>Value.isStrOf x v
def zEZ(w:wJ):Key->Int
 | .inl k=>hashInt k
 | .inr x=>hashStr w x
theorem jO :∀{k:Key}{v:wg},Q_ k v=true->(∃i t,k=Sum.inl i/\v=Value.int i t)\/(∃x t,k=Sum.inr x/\v=Value.str x t)
 | .inl i,v,h=>by
  obtain⟨t,e⟩:=Value.isInt_shape (k:=i) (v:=v) h;exact .inl ⟨i,t,rfl,e⟩
 | .inr x,v,h=>by
  obtain⟨t,e⟩:=Value.isStrOf_shape (x:=x) (v:=v) h;exact .inr ⟨x,t,rfl,e⟩
theorem zDz(a b:Int):decide ((Sum.inl a:Key)=Sum.inl b)=(a == b):=by
 by_cases e:a=b
 ·subst e;simp
 ·have h:¬ (Sum.inl a:Key)=Sum.inl b:=λq=>e (Sum.inl.inj q)
  rw[decide_eq_false h];exact(beq_eq_false_iff_ne.mpr e).symm
theorem zCH(a b:Str):decide ((Sum.inr a:Key)=Sum.inr b)=decide (a=b):=by
 by_cases e:a=b
 ·subst e;simp
 ·have h:¬ (Sum.inr a:Key)=Sum.inr b:=λq=>e (Sum.inr.inj q)
  rw[decide_eq_false h,decide_eq_false e]
theorem zDg(a:Int)(b:Str):decide ((Sum.inl a:Key)=Sum.inr b)=false:=decide_eq_false (λq=>nomatch q)
theorem zDH(a:Str)(b:Int):decide ((Sum.inr a:Key)=Sum.inl b)=false:=decide_eq_false (λq=>nomatch q)
def Dj(prog:wI)(w:wJ):PySem.KeyKind prog w Key where
 is:=Q_
 hash:=zEZ w
 inj:=λv a b ha hb=>by
  rcases jO ha with⟨i,t,rfl,rfl⟩ | ⟨x,t,rfl,rfl⟩
  ·rcases jO hb with⟨j,u,rfl,e⟩ | ⟨y,u,rfl,e⟩
   ·injection e with e1 _;rw[e1]
   ·exact nomatch e
  ·rcases jO hb with⟨j,u,rfl,e⟩ | ⟨y,u,rfl,e⟩
   ·exact nomatch e
   ·injection e with e1 _;rw[e1]
 byValue:=λk v h=>by
  rcases jO h with⟨i,t,rfl,rfl⟩ | ⟨x,t,rfl,rfl⟩<;>rfl
 pyHash:=λhv h=>by
  rcases jO hv with⟨i,t,rfl,rfl⟩ | ⟨x,t,rfl,rfl⟩
  ·exact wpAny_pyHash_int h
  ·exact wpAny_pyHash_str h
 eqBool:=λhu hv h=>by
  rcases jO hu with⟨i,t,rfl,rfl⟩ | ⟨x,t,rfl,rfl⟩
  ·rcases jO hv with⟨j,u,rfl,rfl⟩ | ⟨y,u,rfl,rfl⟩
   ·rw[zDz]at h;exact wpAny_eqBool_int h
   ·rw[zDg]at h;exact Xz i t y u _ _ _ _ h
  ·rcases jO hv with⟨j,u,rfl,rfl⟩ | ⟨y,u,rfl,rfl⟩
   ·rw[zDH]at h;exact XA x t j u _ _ _ _ h
   ·rw[zCH]at h;exact wpAny_eqBool_str h
 «strs»:=λk x t v h=>by
  rcases jO h with⟨i,u,rfl,e⟩ | ⟨y,u,rfl,e⟩
  ·exact nomatch e
  ·injection e with e1 _
   subst e1;cases v<;>rfl
inductive V where
 | a_ | bl (b:Bool) | int (i:Int) | str (x:Str) | byt (b:Array UInt8) | flt (b:UInt64) | ref (a:we) | ty (n:String)
 deriving DecidableEq
def bj:V->wg->Prop
 | .a_,u=>u=Value.none
 | .bl b,u=>u=Value.bool b
 | .int i,u=>∃t,u=Value.int i t
 | .str x,u=>∃t,u=Value.str x t
 | .byt b,u=>∃t,u=Value.bytes b t
 | .flt b,u=>∃t,u=Value.float b t
 | .ref a,u=>u=Value.ref a
 | .ty n,u=>u=Value.type n
abbrev aT:List V->List wg->Prop:=Paired bj
theorem aT.length{xs:List V}{us:List wg}(r:aT xs us):xs.length=us.length:=Uc r
theorem aT.get:∀{xs:List V}{us:List wg}{i:Nat}{x:V},aT xs us->xs[i]? = some x->∃u,us[i]? = some u/\bj x u
 | _,_,_,_,.nil,e=>by simp at e
 | _,_,0,_,.cons r _,e=>by simp at e;subst e;exact⟨_,rfl,r⟩
 | _,_,i+1,x,.cons _ t,e=>by
  obtain⟨u,h1,h2⟩:=aT.get (i:=i) (x:=x) t (by simpa using e);exact⟨u,by simpa using h1,h2⟩
theorem aT.set{x:V}{u:wg}(r:bj x u):∀{xs:List V}{us:List wg}(i:Nat),aT xs us->aT (xs.set i x) (us.set i u)
 | _,_,_,.nil=>.nil
 | _,_,0,.cons _ t=>.cons r t
 | _,_,i+1,.cons q t=>.cons q (aT.set r i t)
theorem aT.append:∀{xs ys:List V}{us ws:List wg},aT xs us->aT ys ws->aT (xs++ys) (us++ws)
 | _,_,_,_,.nil,s=>s
 | _,_,_,_,.cons r t,s=>.cons r (aT.append t s)
theorem aT.take:∀{xs:List V}{us:List wg}(n:Nat),aT xs us->aT (xs.take n) (us.take n)
 | _,_,0,_=>.nil
 | _,_,_+1,.nil=>.nil
 | _,_,n+1,.cons r t=>.cons r (aT.take n t)
theorem aT.drop:∀{xs:List V}{us:List wg}(n:Nat),aT xs us->aT (xs.drop n) (us.drop n)
 | _,_,0,r=>r
 | _,_,_+1,.nil=>.nil
 | _,_,n+1,.cons _ t=>aT.drop n t
def LS:Option V->Option wg->Prop
 | some v,some u=>bj v u
 | none,none=>True
 | _,_=>False
def KV{κ : Type} : List (κ × V)->List (κ × wg)->Prop:=Paired λ(p : κ × V)(q : κ × wg)=>p.1=q.1/\bj p.2 q.2
def kV:Key->V
 | .inl i=>.int i
 | .inr x=>.str x
inductive HO where
 | lst (xs:List V)
 | tup (xs:List V)
 | dK (kvs:List (Key × V)) | dT (kvs:List (List Key × V))
 | set (S:Int->Bool) (n:Nat)
 | ins (C dx:we) (fs:List (Str × V))
 | own (x:we)
 | xd (fs:List (Str × V))
 | met (f x:we)
 | yL (lo hi:Int)
 | gC (o:Obj) (u:HO)
 | lq (ps:Array wg)
 | ext (φ : wG->Prop)
abbrev Hp:=we->Option HO
def upd(H:Hp)(a:we)(o:HO):Hp:=λb=>if b=a then some o else H b
theorem cX : upd H a o a=some o:=by unfold upd;rw[if_pos rfl]
theorem eI(h:b≠a):upd H a o b=H b:=by unfold upd;rw[if_neg h]
theorem MG{u:HO}(h:H a=some o)(h':H b=some u)(d:o≠u):a≠b:=by
 intro e;subst e;rw[h]at h';exact d (wM h')
theorem jR(h:H a=some o)(h':H b=none):a≠b:=by
 intro e;subst e;rw[h]at h';cases h'
section
variable(P:wI)(w:wJ)
def dQ(H:Hp)(h:wG)(a:we):HO->Prop
 | .lst xs=>xs.length<=w8 /\ ∃(its:List wg)(n:Nat),aT xs its/\h.get? a=some {cls:=.type "list",data:=.seq its.toArray n}
 | .tup xs=>xs.length<=w8 /\ ∃its:List wg,aT xs its/\IsTup h a its.toArray
 | .dK kvs=>kvs.length<=w8/\(a == sysModules)=false /\ ∃vs,KV kvs vs/\h.DictOf (Dj P w) a vs
 | .dT kvs=>kvs.length<=w8/\(a == sysModules)=false /\ ∃xs:List (List Key × we × wg),
     Paired (λ(p:List Key × V)(q:List Key × we × wg)=>p.1=q.1/\H q.2.1=some (.tup (p.1.map kV))/\bj p.2 q.2.2) kvs xs /\
     ∃o es ep,h.get? a=some o/\o.ExactDict/\o.data=.dict es ep/\es.toList=xs.map (entryOfKey (tupleKind (Dj P w)))/\(xs.map (·.1)).Nodup
 | .set S n=>h.SetOf (intKind P w) a S n
 | .ins C dx fs=>H dx=some (.own a)/\fs.length<=1000/\dx≠a/\h.get? a=some (PySem.W.instObj C dx) /\
     ∃mA,h.Ns1 dx mA/\(∀f,LS (fs.lookup f) (mA f))/\PySem.Within mA (fs.map (·.1))
 | .own _=>∃o,h.get? a=some o
 | .xd fs=>∃mA,h.Ns1 a mA /\ ∀f,LS (fs.lookup f) (mA f)
 | .yL lo hi=>∃t u v,h.get? a=some {cls:=.type "range",data:=.fields #[.int lo t,.int hi u,.int 1 v]}
 | .gC o u=>h.get? a=some o/\dQ H h a u
 | .lq ps=>h.get? a=some {cls:=.none,data:=.fields ps}
 | .met f x=>h.get? a=some (Q7 (.ref f) (.ref x))
 | .ext φ=>φ h/\(∃o,h.get? a=some o) /\ ∀h1 h2:wG,φ h1->(∀o,h1.get? a=some o->h2.get? a=some o) -> φ h2
def dB(H:Hp)(h:wG):Prop:=∀a o,H a=some o->dQ P w H h a o
end
section
variable{P:wI}{w:wJ}{H H':Hp}{h h':wG}{a:we}{o:HO}
theorem dQ.lt(x:dQ P w H h a o):a<h.objs.size:=by
 cases o with
 | lst xs=>obtain⟨_,_,_,_,e⟩:=x;exact wD e
 | tup xs=>obtain⟨_,_,_,p⟩:=x;exact p.lt
 | dK kvs=>obtain⟨_,_,_,_,o,_,_,e,_⟩:=x;exact wD e
 | dT kvs=>obtain⟨_,_,_,_,o,_,_,e,_⟩:=x;exact wD e
 | set S n=>obtain⟨o,_,_,_,e,_⟩:=x;exact wD e
 | ins C dx fs=>obtain⟨_,_,_,e,_⟩:=x;exact wD e
 | own y=>obtain⟨_,e⟩:=x;exact wD e
 | xd fs=>obtain⟨_,⟨_,_,_,e,_⟩,_⟩:=x;exact wD e
 | yL lo hi=>obtain⟨_,_,_,e⟩:=x;exact wD e
 | gC ob u=>obtain⟨e,_⟩:=x;exact wD e
 | lq ps=>exact wD (show h.get? a=some _ from x)
 | met f y=>exact wD (show h.get? a=some _ from x)
 | ext φ=>obtain⟨_,⟨_,e⟩,_⟩:=x;exact wD e
theorem Paired.Kz{α β : Type}{F G : α -> β -> Prop} : ∀{l₁ : List α}{l₂ : List β},Paired F l₁ l₂ -> (∀a b,F a b->G a b)->Paired G l₁ l₂
 | _,_,.nil,_=>.nil
 | _,_,.cons r t,f=>.cons (f _ _ r) (Paired.Kz t f)
theorem dQ.kE(x:dQ P w H h a o)(k:∀b u,(b=a\/H b=some (.own a))->h.get? b=some u->h'.get? b=some u)
  (ho:∀b,H b=some (.own a)->H' b=some (.own a)) (ht:∀b xs,H b=some (.tup xs)->H' b=some (.tup xs)):dQ P w H' h' a o:=by
 induction o with
 | lst xs=>obtain⟨z,its,n,r,e⟩:=x;exact⟨z,its,n,r,k _ _ (.inl rfl) e⟩
 | tup xs=>obtain⟨z,its,r,ob,e,c⟩:=x;exact⟨z,its,r,ob,k _ _ (.inl rfl) e,c⟩
 | dK kvs=>obtain⟨z,y,vs,r,ob,es,ep,e,c⟩:=x;exact⟨z,y,vs,r,ob,es,ep,k _ _ (.inl rfl) e,c⟩
 | dT kvs =>
  obtain⟨z,y,xs,r,ob,es,ep,e,c⟩:=x;exact⟨z,y,xs,Paired.Kz r λp q z=>⟨z.1,ht _ _ z.2.1,z.2.2⟩,ob,es,ep,k _ _ (.inl rfl) e,c⟩
 | set S n=>obtain⟨ob,es,ep,t,e,c⟩:=x;exact⟨ob,es,ep,t,k _ _ (.inl rfl) e,c⟩
 | ins C dx fs =>
  obtain⟨d,z,ne,e,mA,⟨od,es,ep,e2,c⟩,r⟩:=x;exact⟨ho _ d,z,ne,k _ _ (.inl rfl) e,mA,⟨od,es,ep,k _ _ (.inr d) e2,c⟩,r⟩
 | own y=>obtain⟨ob,e⟩:=x;exact⟨ob,k _ _ (.inl rfl) e⟩
 | xd fs=>obtain⟨mA,⟨od,es,ep,e,c⟩,r⟩:=x;exact⟨mA,⟨od,es,ep,k _ _ (.inl rfl) e,c⟩,r⟩
 | yL lo hi=>obtain⟨t,u,v,e⟩:=x;exact⟨t,u,v,k _ _ (.inl rfl) e⟩
 | gC ob u ih=>obtain⟨e,q⟩:=x;exact⟨k _ _ (.inl rfl) e,ih q⟩
 | lq ps =>
  have e:h.get? a=some {cls:=.none,data:=.fields ps}:=x
  show h'.get? a=some {cls:=.none,data:=.fields ps}
  exact k a _ (.inl rfl) e
 | met f y =>
  have e:h.get? a=some (Q7 (.ref f) (.ref y)):=x
  show h'.get? a=some (Q7 (.ref f) (.ref y))
  exact k a _ (.inl rfl) e
 | ext φ=>obtain⟨p,⟨o,e⟩,st⟩:=x;exact⟨st _ _ p λo q=>k _ _ (.inl rfl) q,⟨o,k _ _ (.inl rfl) e⟩,st⟩
theorem dB.lt(x:dB P w H h)(e:H a=some o):a<h.objs.size:=(x a o e).lt
theorem dB.fresh(x:dB P w H h)(e:h.objs.size<=a):H a=none:=by
 cases q:H a with
 | none=>rfl
 | some u=>exact absurd (wV (x.lt q) e) (Vj _)
theorem dB.kept(x:dB P w H h)(k:∀b u,h.get? b=some u->h'.get? b=some u):dB P w H h':=λa o e =>
 (x a o e).kE (λb u _ q=>k b u q) (λ_ q=>q) λ_ _ q=>q
theorem dB.laid(x:dB P w H h)(k:∀b u,h.get? b=some u->h'.get? b=some u)(hp:h.objs.size<=a)(new:dQ P w (upd H a o) h' a o):dB P w (upd H a o) h':=λb u e=>by
 have hn:=x.fresh hp
 by_cases hb:b=a
 ·subst hb;rw[cX]at e;cases e;exact new
 ·rw[eI hb]at e
  exact(x b u e).kE (λc v _ q=>k c v q) (λc q=>by rw[eI (jR q hn)];exact q) λc xs q=>by rw[eI (jR q hn)];exact q
end
def Rd(H:Hp)(a:we)(u:HO):Prop:=H a=some u \/ ∃o,H a=some (.gC o u)
theorem Rd.ok{P:wI}{w:wJ}{H:Hp}{h:wG}{a:we}{u:HO}(r:Rd H a u)(x:dB P w H h):dQ P w H h a u:=by
 rcases r with r | ⟨o,r⟩
 ·exact x a u r
 ·obtain⟨_,q⟩:=x a _ r
  exact q
def A4:Option HO->Prop
 | some (.lst _)=>True
 | some (.dK _)=>True
 | some (.dT _)=>True
 | some (.set _ _)=>True
 | some (.ins _ _ _)=>True
 | some (.ext _)=>True
 | _=>False
section
variable{P:wI}{w:wJ}{H:Hp}{h h':wG}{x e:we}{o':HO}
theorem dB.write(ok:dB P w H h)(mu:A4 (H x))(he:e=x\/H e=some (.own x))(k:∀b u,b≠e->h.get? b=some u->h'.get? b=some u)(heo:∃u,h'.get? e=some u)
  (new:dQ P w (upd H x o') h' x o'):dB P w (upd H x o') h':=λb u q=>by
 have nown:∀c y,H c=some (.own y)->c≠x:=λc y r z=>by subst z;rw[r]at mu;exact mu
 have ntup:∀c xs,H c=some (.tup xs)->c≠x:=λc xs r z=>by subst z;rw[r]at mu;exact mu
 by_cases hb:b=x
 ·subst hb;rw[cX]at q;cases q;exact new
 ·rw[eI hb]at q
  by_cases hbe:b=e
  ·have q':H b=some (.own x):=by
    rcases he with z | z
    ·exact absurd (hbe.trans z) hb
    ·rw[hbe];exact z
   rw[q]at q';cases q';obtain⟨v,hv⟩:=heo;exact⟨v,by rw[hbe];exact hv⟩
  ·refine(ok b u q).kE (λc v hc r=>k c v ?_ r) (λc r=>by rw[eI (nown c b r)];exact r) λc xs r=>by rw[eI (ntup c xs r)];exact r
   rcases hc with rfl | hc
   ·exact hbe
   ·rintro rfl
    rcases he with z | z
    ·exact nown c b hc z
    ·rw[hc]at z;cases z;exact hb rfl
end
structure Un(fs ex:List we)(H H':Hp)(h h':wG):Prop where
 keep:∀b o,h.get? b=some o->H b=none->b ∉ fs->b ∉ ex->h'.get? b=some o
 slot:∀b o,h.get? b=some o->H b=none->b∈fs->b ∉ ex->∃sl,h'.get? b=some {o with slots:=sl}
 free:∀b o,h.get? b=some o->H b=none->b ∉ ex->H' b=none
 there:∀b o,h.get? b=some o->b ∉ ex->∃o',h'.get? b=some o'
 iK:∀b xs,H b=some (.tup xs)->H' b=some (.tup xs)
 hJ:∀b o u,H b=some (.gC o u)->H' b=some (.gC o u)
 iJ:∀b ps,H b=some (.lq ps)->∃more,H' b=some (.lq (ps++more))
section
variable{fs fs' ex ex':List we}{H H1 H2:Hp}{h h1 h2 h':wG}{a x e:we}{o:HO}
theorem Un.any(u:Un fs ex H H1 h h1){b:we}{ob:Obj}(q:h.get? b=some ob)(n:H b=none)(hx:b ∉ ex):∃sl,h1.get? b=some {ob with slots:=sl}:=by
 by_cases hb:b∈fs
 ·exact u.slot b ob q n hb hx
 ·exact⟨ob.slots,u.keep b ob q n hb hx⟩
theorem Un.kept(k:∀b u,h.get? b=some u->h'.get? b=some u):Un fs ex H H h h' :=
 ⟨λb ob q _ _ _=>k b ob q,λb ob q _ _ _=>⟨ob.slots,k b ob q⟩,λ_ _ _ n _=>n,λb ob q _=>⟨ob,k b ob q⟩,λ_ _ q=>q,λ_ _ _ q=>q,λ_ ps q=>⟨#[],by rw[q];simp⟩⟩
theorem Un.refl:Un fs ex H H h h:=Un.kept λ_ _ q=>q
theorem Un.laid(k:∀b u,h.get? b=some u->h'.get? b=some u)(hp:h.objs.size<=a)(hn:H a=none):Un fs ex H (upd H a o) h h' where
 keep:=λb u q _ _ _=>k b u q
 slot:=λb u q _ _ _=>⟨u.slots,k b u q⟩
 free:=λb u q n _=>by rw[eI (wQ (wV (wD q) hp))];exact n
 there:=λb u q _=>⟨u,k b u q⟩
 iK:=λb xs q=>by rw[eI (jR q hn)];exact q
 hJ:=λb u xs q=>by rw[eI (jR q hn)];exact q
 iJ:=λb ps q=>⟨#[],by rw[eI (jR q hn),q];simp⟩
theorem Un.write(mu:A4 (H x))(he:e=x\/H e=some (.own x))(k:∀b u,b≠e->h.get? b=some u->h'.get? b=some u)(heo:∃u,h'.get? e=some u):Un fs ex H (upd H x o) h h':=by
 have hx:∀b,H b=none->b≠x:=λb n z=>by subst z;rw[n]at mu;exact mu
 have hb:∀b,H b=none->b≠e:=λb n z=>by
  subst z;rcases he with r | r
  ·exact hx b n r
  ·rw[n]at r;cases r
 have hm:∀b u,H b=some u->¬ A4 (some u)->b≠x:=λb u q nm z=>by subst z;rw[q]at mu;exact nm mu
 refine⟨λb u q n _ _=>k b u (hb b n) q,λb u q n _ _=>⟨u.slots,k b u (hb b n) q⟩,λb u q n _=>by rw[eI (hx b n)];exact n,λb u q _=>?_,
  λb xs q=>by rw[eI (hm b _ q λz=>z)];exact q,λb u xs q=>by rw[eI (hm b _ q λz=>z)];exact q,λb ps q=>⟨#[],by rw[eI (hm b _ q λz=>z),q];simp⟩⟩
 by_cases hbe:b=e
 ·subst hbe;exact heo
 ·exact⟨u,k b u hbe q⟩
end
def iP(h:wG)(H:Hp):List we:=(wt h.objs.size).filter λa=>(H a).isSome
def jV(h:wG)(H:Hp):wG:=uD h (iP h H)
theorem ZR(h:wG)(H:Hp):(jV h H).objs.size=h.objs.size:=PySem.W.hideAll_size _ _
theorem ZU{h:wG}{H:Hp}{b:we}{o:Obj}(e:h.get? b=some o)(n:H b=none):(jV h H).get? b=some o :=
 Xr _ e λhm=>by
  have q:(H b).isSome=true:=(vg.mp hm).2;rw[n]at q;simp at q
theorem zA1{h:wG}{H:Hp}{b:we}{o:Obj}(e:(jV h H).get? b=some o):h.get? b=some o/\H b=none:=by
 have e':h.get? b=some o:=XB (iP h H) e;refine⟨e',?_⟩;cases q:H b with
 | none=>rfl
 | some x =>
  have hm:b∈iP h H:=vg.mpr ⟨wH.mpr (wD e'),by simp[q]⟩;have z:(jV h H).get? b=none:=PySem.W.hideAll_none (iP h H) hm;rw[z]at e;cases e
def zAK(g h:wG)(L:we):List (we × Obj):=(wt h.objs.size).filterMap λa=>if a=L\/(g.get? a).isSome=true then none else(h.get? a).map λo=>(a,o)
def dw(g h:wG)(L d:we):List (we × Obj):=(zAK g h L).filter λp=>decide (p.1≠d)
structure Mod(K:wb)(mg:Str->Option wg)(base:wG):Prop where
 rf:K.In base
 glob:base.Ns wS mg
 blt:∃mb,base.Ns builtinsNs mb /\ ∀x:Str,x≠"__name__" -> mb x=vN x
 nolimit:base.NoLimit
structure Cx where
 prog:wI
 w:wJ
 K:wb
 mg:Str->Option wg
 base:wG
 A:vb
 N:List Str
 s₀ : wl
 H₀ : Hp
 env:Env
 outer:List Env
 stack:List Env
 ex:List we
 fn:Str->Bool
 calm:Bool
 pn:List (we × Obj)
 xe:wg->wl->Prop
def dZ(l:List Env):List we:=l.filterMap (·.frame)
abbrev Cx.fs(X:Cx):List we:=dZ X.outer
def AN(sc:Scope)(x:Str):Prop:=sc.names.lookup x=some .local\/sc.names.lookup x=some .cell\/sc.names.lookup x=some .free
def Loc(sc:Scope)(x:Str):Prop:=sc.names.lookup x=some .local\/sc.names.lookup x=some .cell
def zEW(env:Env)(h:wG)(m:Str->Option wg)(x:Str)(u:wg):Prop :=
 (env.kindOf x=some .local/\m x=some u)\/((env.kindOf x=some .cell\/env.kindOf x=some .free) /\ ∃c,env.cells.lookup x=some c/\h.IsCell c (some u))
structure Cx.Ok(X:Cx):Prop where
 mod:Mod X.K X.mg X.base
 kind:X.env.scope.kind=.function
 glob:X.env.globals=wS
 blt:X.env.builtins=builtinsNs
 above:X.s₀.heap.objs.size<=X.env.locals
 inj:∀x y c,X.env.cells.lookup x=some c->X.env.cells.lookup y=some c->x=y
 has:∀x,(X.env.kindOf x=some .cell\/X.env.kindOf x=some .free)->∃c,X.env.cells.lookup x=some c
 kI:∀x c,X.fn x=true->X.env.cells.lookup x=some c->X.s₀.heap.objs.size<=c
 hd:X.calm=true->X.A.handled=none
 frames:X.A.frames=some X.stack
 me:X.stack=X.outer\/(X.stack=X.env::X.outer/\X.env.frame=some X.env.locals)
 pE:∀b∈X.ex,b≠X.env.locals /\ ∀x c,X.env.cells.lookup x=some c->c≠b
 bs:∀b o,X.base.get? b=some o->X.s₀.heap.get? b=some o/\X.H₀ b=none
 iZ:X.base.objs.size<=X.s₀.heap.objs.size
 kF:∀b o,X.base.get? b=some o->b ∉ X.ex
 lC:∀b∈X.ex,b ∉ X.fs
 fi:X.s₀.heap.FunFrames X.base X.outer
 jl:∀b∈X.fs,X.H₀ b=none
structure Inv(X:Cx)(pins:List (we × Obj))(σ : List (Option V))(H:Hp)(s:wl):Prop where
 ok:X.Ok
 os:s.os=X.s₀.os
 bare:AllBare s.gens
 base:Un X.fs X.ex X.H₀ H X.s₀.heap s.heap
 loc:∃m,s.heap.Ns X.env.locals m /\ ∀(i:Nat)(x:Str)(v:V),X.N[i]? = some x -> σ[i]? = some (some v)->AN X.env.scope x->∃u,bj v u/\zEW X.env s.heap m x u
 cell:∀x c,X.env.cells.lookup x=some c->∃v,s.heap.IsCell c v
 free:H X.env.locals=none
 gq:∀x c,X.env.cells.lookup x=some c->H c=none
 pin:∀p∈X.pn++pins,s.heap.get? p.1=some p.2/\H p.1=none/\p.1≠X.env.locals/\p.1 ∉ X.fs /\ ∀v,p.2.data≠.cell v
 aI:dB X.prog X.w H s.heap
 len : σ.length=X.N.length
section
variable{X:Cx}{pins:List (we × Obj)}{σ : List (Option V)}{H H':Hp}{s:wl}{h':wG}
variable{i t':Nat}{ch:List we}{x:Str}
theorem Cx.Ok.Zd(ok:X.Ok){b:we}{o:Obj}(e:X.base.get? b=some o):b ∉ X.fs:=λhb=>by
 have:=(ok.fi.mem hb).1;rw[e]at this;cases this
theorem Inv.bs(I:Inv X pins σ H s):∀b o,X.base.get? b=some o->s.heap.get? b=some o/\H b=none:=λb o e =>
 ⟨I.base.keep b o (I.ok.bs b o e).1 (I.ok.bs b o e).2 (I.ok.Zd e) (I.ok.kF b o e),I.base.free b o (I.ok.bs b o e).1 (I.ok.bs b o e).2 (I.ok.kF b o e)⟩
theorem Inv.bk(I:Inv X pins σ H s):∀b o,X.base.get? b=some o->s.heap.get? b=some o:=λb o e=>(I.bs b o e).1
theorem Inv.mod(I:Inv X pins σ H s):Mod X.K X.mg X.base:=I.ok.mod
theorem Inv.dW(I:Inv X pins σ H s):X.K.In s.heap:=I.ok.mod.rf.keeps I.bk
theorem Inv.lt(I:Inv X pins σ H s):X.env.locals<s.heap.objs.size:=let ⟨_,hn,_⟩:=I.loc;hn.lt
theorem Inv.sz(I:Inv X pins σ H s):X.s₀.heap.objs.size<=s.heap.objs.size:=Wa I.ok.above (Ve I.lt)
theorem Inv.Zh(I:Inv X pins σ H s){a:we}(h:s.heap.objs.size<=a):a ∉ X.fs:=λhb=>by
 obtain⟨_,o,ho,_⟩:=I.ok.fi.mem hb;exact absurd (wV (wD ho) (Wa I.sz h)) (Vj _)
theorem Inv.kS(I:Inv X pins σ H s):∀x c,X.env.cells.lookup x=some c->c≠X.env.locals:=λx c e z=>by
 obtain⟨v,o,ho,hd⟩:=I.cell x c e;obtain⟨m,⟨o',es,ep,ho',hd',_⟩,_⟩:=I.loc;rw[z,ho']at ho;cases ho;rw[hd']at hd;cases hd
theorem Inv.fi(I:Inv X pins σ H s):s.heap.FunFrames X.base X.outer:=by
 have all:∀(l:List Env),(∀b∈dZ l,b∈X.fs)->X.s₀.heap.FunFrames X.base l->s.heap.FunFrames X.base l:=by
  intro l
  induction l with
  | nil=>intro _ _;trivial
  | cons env r ih =>
   intro hs hl;obtain⟨hk,⟨L,o,hf,hn,ho,hd⟩,hr⟩:=hl;have hL:L∈X.fs:=hs L (by unfold dZ;rw[qK,hf];exact wz);obtain⟨sl,e⟩:=I.base.slot L o ho (I.ok.jl L hL) hL λz=>I.ok.lC L z hL
   exact⟨hk,⟨L,_,hf,hn,e,hd⟩,ih (λb hb=>hs b (by unfold dZ;rw[qK,hf];exact wy _ hb)) hr⟩
 exact all X.outer (λ_ hb=>hb) I.ok.fi
theorem Inv.stack(I:Inv X pins σ H s):s.heap.FunFrames X.base X.stack:=by
 rcases I.ok.me with e | ⟨e,hf⟩
 ·rw[e];exact I.fi
 ·rw[e]
  obtain⟨m,hn,_⟩:=I.loc;refine .cons (by rw[I.ok.kind];decide) hf hn ?_ I.fi;exact Heap.get?_none_of_le (Wa I.ok.iZ I.ok.above)
theorem Inv.mP(I:Inv X pins σ H s):∀b∈dZ X.stack,b∈X.env.locals::X.fs:=λb hb=>by
 rcases I.ok.me with e | ⟨e,hf⟩
 ·rw[e]at hb;exact wy _ hb
 ·rw[e]at hb
  unfold dZ at hb;rw[qK,hf]at hb;exact hb
theorem Inv.sF(I:Inv X pins σ H s):∀b∈dZ X.stack,H b=none:=λb hb=>by
 rcases wF.mp (I.mP b hb)with e | hb
 ·rw[e];exact I.free
 ·obtain⟨_,o,ho,_⟩:=I.ok.fi.mem hb
  exact I.base.free b o ho (I.ok.jl b hb) λz=>I.ok.lC b z hb
theorem Inv.step{g':Array GenState}{d':Drawn}(I:Inv X pins σ H s)
  (hch:∀b∈ch,(b∈X.ex\/X.s₀.heap.objs.size<=b)/\b≠X.env.locals/\(∀x c,X.env.cells.lookup x=some c->c≠b) /\ ∀p∈X.pn++pins,p.1≠b)
  (keep:∀b o,b≠X.env.locals->b ∉ X.fs->b ∉ ch->s.heap.get? b=some o->H b=none->h'.get? b=some o)
  (slot:∀b o,b≠X.env.locals->b∈X.fs->b ∉ ch->s.heap.get? b=some o->H b=none->∃sl,h'.get? b=some {o with slots:=sl}) (free:∀b o,b ∉ ch->s.heap.get? b=some o->H b=none->H' b=none)
  (there:∀b o,b ∉ ch->s.heap.get? b=some o->∃o',h'.get? b=some o')
  (iK:∀b xs,H b=some (.tup xs)->H' b=some (.tup xs)) (hJ:∀b o u,H b=some (.gC o u)->H' b=some (.gC o u)) (iJ:∀b ps,H b=some (.lq ps)->∃more,H' b=some (.lq (ps++more)))
  (ns:∀m,s.heap.Ns X.env.locals m->h'.Ns X.env.locals m) (aI:dB X.prog X.w H' h') (hg:AllBare g') :
  Inv X pins σ H' {s with heap:=h',gens:=g',drawn:=d',toks:=t'}:=by
 have neL:∀b o,X.s₀.heap.get? b=some o->b≠X.env.locals:=λb o e=>wQ (wV (wD e) I.ok.above)
 have neC:∀b o,X.s₀.heap.get? b=some o->b ∉ X.ex->b ∉ ch:=λb o e hx hb=>by
  rcases (hch b hb).1 with z | z
  ·exact hx z
  ·exact absurd (wV (wD e) z) (Vj _)
 have cellK:∀x c,X.env.cells.lookup x=some c->∀v,s.heap.IsCell c v->h'.IsCell c v:=λx c e v ⟨o,ho,hd⟩=>by
  have nch:c ∉ ch:=λz=>(hch c z).2.2.1 x c e rfl
  by_cases hc:c∈X.fs
  ·obtain⟨sl,q⟩:=slot c o (I.kS x c e) hc nch ho (I.gq x c e)
   exact⟨_,q,hd⟩
  ·exact⟨o,keep c o (I.kS x c e) hc nch ho (I.gq x c e),hd⟩
 refine⟨I.ok,I.os,hg,⟨λb o e n hb hx=>?_,λb o e n hb hx=>?_,λb o e n hx=>?_,λb o e hx=>?_,λb xs e=>iK b xs (I.base.iK b xs e),λb o xs e=>hJ b o xs (I.base.hJ b o xs e),λb ps e=>?_⟩,?_,λx c e=>?_,?_,λx c e=>?_,λp hp=>?_,aI,I.len⟩
 ·exact keep b o (neL b o e) hb (neC b o e hx) (I.base.keep b o e n hb hx) (I.base.free b o e n hx)
 ·obtain⟨sl,e1⟩:=I.base.slot b o e n hb hx
  obtain⟨sl',e2⟩:=slot b _ (neL b o e) hb (neC b o e hx) e1 (I.base.free b o e n hx);exact⟨sl',e2⟩
 ·obtain⟨o',e1⟩:=I.base.there b o e hx
  exact free b o' (neC b o e hx) e1 (I.base.free b o e n hx)
 ·obtain⟨o',e1⟩:=I.base.there b o e hx
  exact there b o' (neC b o e hx) e1
 ·obtain⟨m1,e1⟩:=I.base.iJ b ps e
  obtain⟨m2,e2⟩:=iJ b _ e1;exact⟨m1++m2,by rw[e2,XC]⟩
 ·obtain⟨m,hn,hl⟩:=I.loc
  refine⟨m,ns m hn,λi x v e1 e2 e3=>?_⟩;obtain⟨u,r,l⟩:=hl i x v e1 e2 e3;refine⟨u,r,?_⟩;rcases l with l | ⟨k,c,e,z⟩
  ·exact .inl l
  ·exact .inr ⟨k,c,e,cellK x c e _ z⟩
 ·obtain⟨v,z⟩:=I.cell x c e
  exact⟨v,cellK x c e v z⟩
 ·obtain⟨m,⟨o,_,_,ho,_⟩,_⟩:=I.loc
  exact free _ o (λz=>(hch _ z).2.1 rfl) ho I.free
 ·obtain⟨v,o,ho,hd⟩:=I.cell x c e
  exact free c o (λz=>(hch c z).2.2.1 x c e rfl) ho (I.gq x c e)
 ·obtain⟨e,n,ne,nf,d⟩:=I.pin p hp
  have nch:p.1 ∉ ch:=λz=>(hch p.1 z).2.2.2 p hp rfl
  exact⟨keep p.1 p.2 ne nf nch e n,free p.1 p.2 nch e n,ne,nf,d⟩
theorem Inv.un(I:Inv X pins σ H s)(u:Un X.fs [] H H' s.heap h')(aI:dB X.prog X.w H' h'):Inv X pins σ H' {s with heap:=h',toks:=t'}:=by
 obtain⟨m,⟨o,es,ep,ho,r⟩,_⟩:=id I.loc;obtain⟨sl,hL⟩:=u.any ho I.free (by simp)
 exact I.step (g':=s.gens) (d':=s.drawn) (ch:=[]) (λ_ z=>nomatch z) (λb o _ hb _ e n=>u.keep b o e n hb (by simp)) (λb o _ hb _ e n=>u.slot b o e n hb (by simp)) (λb o _ e n=>u.free b o e n (by simp)) (λb o _ e=>u.there b o e (by simp)) u.iK u.hJ u.iJ (λm' hm=>by
  obtain⟨o',es',ep',ho',r'⟩:=hm;rw[ho]at ho';cases ho';exact⟨_,es',ep',hL,r'⟩) aI I.bare
theorem Inv.call{g':Array GenState}{d':Drawn}(I:Inv X pins σ H s)(u:Un (dZ X.stack) ch H H' s.heap h')(aI:dB X.prog X.w H' h')(hg:AllBare g')
  (hch:∀b∈ch,(b∈X.ex\/X.s₀.heap.objs.size<=b)/\b≠X.env.locals/\(∀x c,X.env.cells.lookup x=some c->c≠b) /\ ∀p∈X.pn++pins,p.1≠b) :
  Inv X pins σ H' {s with heap:=h',gens:=g',drawn:=d',toks:=t'}:=by
 obtain⟨m,⟨o,es,ep,ho,r⟩,_⟩:=id I.loc;obtain⟨sl,hL⟩:=u.any ho I.free λz=>(hch _ z).2.1 rfl
 exact I.step (ch:=ch) hch (λb o hL hb hc e n=>u.keep b o e n (λz=>(wF.mp (I.mP b z)).elim hL hb) hc) (λb o _ _ hc e n=>u.any e n hc) (λb o hc e n=>u.free b o e n hc) (λb o hc e=>u.there b o e hc) u.iK u.hJ u.iJ (λm' hm=>by
  obtain⟨o',es',ep',ho',r'⟩:=hm;rw[ho]at ho';cases ho';exact⟨_,es',ep',hL,r'⟩) aI hg
theorem Inv.turned{it:we}(I:Inv X pins σ H s)(k:∀b o,b≠it->s.heap.get? b=some o->h'.get? b=some o)(hn:H it=none)(hL:it≠X.env.locals)
  (h1:it∈X.ex\/X.s₀.heap.objs.size<=it) (h2:∀x c,X.env.cells.lookup x=some c->c≠it) (h3:∀p∈X.pn++pins,p.1≠it):Inv X pins σ H {s with heap:=h',toks:=t'}:=by
 have nit:∀b u,H b=some u->b≠it:=λb u e z=>by rw[z,hn]at e;cases e
 refine I.step (g':=s.gens) (d':=s.drawn) (ch:=[it]) (λb hb=>?_) (λb o _ _ hc e _=>k b o (λz=>hc (by simp[z])) e) (λb o _ _ hc e _=>⟨o.slots,k b o (λz=>hc (by simp[z])) e⟩) (λ_ _ _ _ n=>n)
  (λb o hc e=>⟨o,k b o (λz=>hc (by simp[z])) e⟩) (λ_ _ e=>e) (λ_ _ _ e=>e) (λb ps e=>⟨#[],by rw[e];simp⟩) (λm hm=>?_) (λb u e=>?_) I.bare
 ·have e:b=it:=by simpa using hb
  subst e;exact⟨h1,hL,h2,h3⟩
 ·obtain⟨o,es,ep,ho,r⟩:=hm
  exact⟨o,es,ep,k _ o (WE hL) ho,r⟩
 ·refine(I.aI b u e).kE (λc v hc q=>k c v ?_ q) (λ_ q=>q) λ_ _ q=>q
  rcases hc with z | z
  ·rw[z];exact nit b u e
  ·exact nit c _ z
theorem Inv.tok(I:Inv X pins σ H s)(t:Nat):Inv X pins σ H {s with toks:=t}:=I.un (h':=s.heap) (t':=t) Un.refl I.aI
theorem Inv.kept(I:Inv X pins σ H s)(k:∀b u,s.heap.get? b=some u->h'.get? b=some u):Inv X pins σ H {s with heap:=h',toks:=t'}:=I.un (Un.kept k) (I.aI.kept k)
theorem Inv.laid{a:we}{o:HO}(I:Inv X pins σ H s)(k:∀b u,s.heap.get? b=some u->h'.get? b=some u)(hp:s.heap.objs.size<=a)(new:dQ X.prog X.w (upd H a o) h' a o) :
  Inv X pins σ (upd H a o) {s with heap:=h',toks:=t'}:=I.un (Un.laid k hp (I.aI.fresh hp)) (I.aI.laid k hp new)
theorem Inv.write{x e:we}{o:HO}(I:Inv X pins σ H s)(mu:A4 (H x))(he:e=x\/H e=some (.own x))(k:∀b u,b≠e->s.heap.get? b=some u->h'.get? b=some u)(heo:∃u,h'.get? e=some u)
  (new:dQ X.prog X.w (upd H x o) h' x o):Inv X pins σ (upd H x o) {s with heap:=h',toks:=t'}:=I.un (Un.write mu he k heo) (I.aI.write mu he k heo new)
theorem Inv.J5{pins':List (we × Obj)}(I:Inv X pins σ H s)(h:∀p∈pins',s.heap.get? p.1=some p.2/\H p.1=none/\p.1≠X.env.locals/\p.1 ∉ X.fs /\ ∀v,p.2.data≠.cell v):Inv X pins' σ H s :=
 ⟨I.ok,I.os,I.bare,I.base,I.loc,I.cell,I.free,I.gq,λp hp=>(vX.mp hp).elim (λz=>I.pin p (VU _ z)) (h p),I.aI,I.len⟩
theorem N5{N:List Str}(hN:N.Nodup){j:Nat}(a:N[i]? = some x)(b:N[j]? = some x):i=j:=by
 obtain⟨h1,e1⟩:=Wt.mp a;obtain⟨h2,e2⟩:=Wt.mp b;exact(List.getElem_inj hN).mp (e1.trans e2.symm)
theorem Tx{M:Model}{A:vb}{E:wg->wl->Prop}{v:V}{u:wg}{Q:Unit->wl->Prop}(I:Inv X pins σ H s)(hN:X.N.Nodup)(hi:X.N[i]? = some x)(hx:Loc X.env.scope x)(r:bj v u)
  (h:∀s',Inv X pins (σ.set i (some v)) H s'->(∃a,vv a s.heap s'.heap/\(a=X.env.locals\/X.env.cells.lookup x=some a))->Q () s') (hf:X.fn x=true\/X.env.scope.names.lookup x=some .local:=by first | exact .inl rfl | exact .inr rfl | assumption):wx M A (storeName X.env x u) Q E s:=by
 obtain⟨m,hn,hl⟩:=id I.loc;have hcls:(X.env.scope.kind == .class || (X.env.scope.kind == .module&&X.env.locals != X.env.globals))=false:=by rw[I.ok.kind];rfl
 have hiσ : i < σ.length:=by rw[I.len];exact(Wt.mp hi).1
 have kS:=I.kS
 have tracked:∀{a:we}{h':wG},(∃o,s.heap.get? a=some o/\H a=none)->vv a s.heap h'->dB X.prog X.w H h':=λ{a h'} ha hs b ob e=>by
  obtain⟨_,_,hfree⟩:=ha;refine(I.aI b ob e).kE (λc w' hc q=>(hs.2 c ?_).trans q) (λ_ q=>q) λ_ _ q=>q
  rintro rfl;rcases hc with rfl | hc
  ·rw[hfree]at e;cases e
  ·rw[hfree]at hc;cases hc
 rcases hx with hk | hk
 ·refine wpAny_storeName_local hk hn (λh' hn' hs=>?_) hcls
  obtain⟨oL,_,_,hoL,_⟩:=id hn;refine h _ ⟨I.ok,I.os,I.bare,⟨λb o e n hb hx=>?_,λb o e n hb hx=>?_,I.base.free,λb o e hx=>?_,I.base.iK,I.base.hJ,I.base.iJ⟩,⟨_,hn',λj y v' e1 e2 e3=>?_⟩,λy c e=>?_,I.free,I.gq,λp hp=>?_,tracked ⟨oL,hoL,I.free⟩ hs,by simpa using I.len⟩ ⟨_,hs,.inl rfl⟩
  ·exact(hs.2 b (wQ (wV (wD e) I.ok.above))).trans (I.base.keep b o e n hb hx)
  ·obtain⟨sl,e1⟩:=I.base.slot b o e n hb hx
   exact⟨sl,(hs.2 b (wQ (wV (wD e) I.ok.above))).trans e1⟩
  ·obtain⟨o',e1⟩:=I.base.there b o e hx
   exact⟨o',(hs.2 b (wQ (wV (wD e) I.ok.above))).trans e1⟩
  ·by_cases hj:j=i
   ·subst hj
    rw[hi]at e1;cases e1;rw[xH hiσ]at e2;cases e2;exact⟨u,r,.inl ⟨hk,by simp⟩⟩
   ·rw[Xe (WE hj)]at e2
    obtain⟨u',r',q⟩:=hl j y v' e1 e2 e3;refine⟨u',r',?_⟩;rcases q with⟨k,e⟩ | ⟨k,c,e,z⟩
    ·refine .inl ⟨k,?_⟩
     have:y≠x:=λe=>hj (N5 hN e1 (e ▸ hi))
     simp[this,e]
    ·exact .inr ⟨k,c,e,z.sameBut hs (kS y c e)⟩
  ·obtain⟨w',z⟩:=I.cell y c e
   exact⟨w',z.sameBut hs (kS y c e)⟩
  ·obtain⟨e,n,ne,nf,d⟩:=I.pin p hp
   exact⟨(hs.2 p.1 ne).trans e,n,ne,nf,d⟩
 ·have hfn:X.fn x=true:=by
   rcases hf with z | z
   ·exact z
   ·rw[z]at hk;cases hk
  obtain⟨c,hc⟩:=I.ok.has x (.inl hk);obtain⟨w',z⟩:=I.cell x c hc;refine wpAny_storeName_cell I.ok.kind hk hc z (λh' hc' hs=>?_);obtain⟨oc,hoc,hocd⟩:=id z;refine h {s with heap:=h'} ⟨I.ok,I.os,I.bare,⟨λb o e n hb hx=>?_,λb o e n hb hx=>?_,I.base.free,λb o e hx=>?_,I.base.iK,I.base.hJ,I.base.iJ⟩,⟨m,hn.sameBut hs (WE (kS x c hc)),λj y v' e1 e2 e3=>?_⟩,λy c' e=>?_,I.free,I.gq,λp hp=>?_,tracked ⟨oc,hoc,I.gq x c hc⟩ hs,by simpa using I.len⟩ ⟨c,hs,.inr hc⟩
  ·exact(hs.2 b (wQ (wV (wD e) (I.ok.kI x c hfn hc)))).trans (I.base.keep b o e n hb hx)
  ·obtain⟨sl,e1⟩:=I.base.slot b o e n hb hx
   exact⟨sl,(hs.2 b (wQ (wV (wD e) (I.ok.kI x c hfn hc)))).trans e1⟩
  ·obtain⟨o',e1⟩:=I.base.there b o e hx
   exact⟨o',(hs.2 b (wQ (wV (wD e) (I.ok.kI x c hfn hc)))).trans e1⟩
  ·by_cases hj:j=i
   ·subst hj
    rw[hi]at e1;cases e1;rw[xH hiσ]at e2;cases e2;exact⟨u,r,.inr ⟨.inl hk,c,hc,hc'⟩⟩
   ·rw[Xe (WE hj)]at e2
    obtain⟨u',r',q⟩:=hl j y v' e1 e2 e3;refine⟨u',r',?_⟩;rcases q with q | ⟨k,c',e,z'⟩
    ·exact .inl q
    ·refine .inr ⟨k,c',e,z'.sameBut hs ?_⟩
     rintro rfl;exact hj (N5 hN e1 (I.ok.inj _ _ _ e hc ▸ hi))
  ·by_cases hcc:c'=c
   ·subst hcc;exact⟨_,hc'⟩
   ·obtain⟨w2,z2⟩:=I.cell y c' e
    exact⟨w2,z2.sameBut hs hcc⟩
  ·obtain⟨e,n,ne,nf,d⟩:=I.pin p hp
   refine⟨(hs.2 p.1 ?_).trans e,n,ne,nf,d⟩;intro q;rw[q,hoc]at e;have q':oc=p.2:=wM e;exact d w' (by rw[<- q'];exact hocd)
theorem r8{M:Model}{A:vb}{E:wg->wl->Prop}{v:V}{u:wg}{Q:Unit->wl->Prop}(I:Inv X pins σ H s)(hN:X.N.Nodup)(hi:X.N[i]? = some x)(hx:Loc X.env.scope x)(r:bj v u)
  (h:∀s',Inv X pins (σ.set i (some v)) H s'->Q () s') (hf:X.fn x=true\/X.env.scope.names.lookup x=some .local:=by first | exact .inl rfl | exact .inr rfl | assumption):wx M A (storeName X.env x u) Q E s :=
 Tx I hN hi hx r (λs' I' _=>h s' I') hf
theorem Inv.Kr{s':wl}(I:Inv X pins σ H s)(ho:s'.os=s.os)(u:Un (dZ X.stack) ch H H' s.heap s'.heap)(aI:dB X.prog X.w H' s'.heap)(hg:AllBare s'.gens)
  (hch:∀b∈ch,(b∈X.ex\/X.s₀.heap.objs.size<=b)/\b≠X.env.locals/\(∀x c,X.env.cells.lookup x=some c->c≠b) /\ ∀p∈X.pn++pins,p.1≠b):Inv X pins σ H' s':=by
 obtain⟨h',g',d',t',o'⟩:=s';have e:o'=s.os:=ho;subst e;exact I.call (g':=g') (t':=t') (d':=d') u aI hg hch
end
abbrev XK:=wg->Option we->Hp->Prop
abbrev St:=List (Option V)
abbrev VK:=V->Hp->Prop
abbrev TE:=St->Hp->VK->Prop
abbrev TT:=St->Hp->(Bool->Hp->Prop)->Prop
abbrev TA:=St->Hp->(List V->Hp->Prop)->Prop
structure cv where
 nx:St->Hp->Prop
 rt:VK
 bk:St->Hp->Prop:=λ_ _=>False
 ct:St->Hp->Prop:=λ_ _=>False
abbrev TS:=cv->St->Hp->Prop
def EP(X:Cx)(pins:List (we × Obj))(σ : St)(Q:VK)(u:wg)(s':wl):Prop:=∃v H',Inv X pins σ H' s'/\bj v u/\Q v H'
def TP(X:Cx)(pins:List (we × Obj))(σ : St)(Q:Bool->Hp->Prop)(b:Bool)(s':wl):Prop:=∃H',Inv X pins σ H' s'/\Q b H'
def AP(X:Cx)(pins:List (we × Obj))(σ : St)(Q:List V->Hp->Prop)(us:List wg)(s':wl):Prop:=∃vs H',Inv X pins σ H' s'/\aT vs us/\Q vs H'
def SP(X:Cx)(pins:List (we × Obj))(D:cv)(f:Flow)(s':wl):Prop :=
 match f with
 | .next=>∃σ' H',Inv X pins σ' H' s'/\D.nx σ' H'
 | .brk=>∃σ' H',Inv X pins σ' H' s'/\D.bk σ' H'
 | .cont=>∃σ' H',Inv X pins σ' H' s'/\D.ct σ' H'
 | .ret u=>∃v σ' H',Inv X pins σ' H' s'/\bj v u/\D.rt v H'
def PE(X:Cx)(e:Expr)(t:TE):Prop :=
 ∀(pins:List (we × Obj))(s:wl)(σ : St)(H:Hp)(Q:VK),Inv X pins σ H s->t σ H Q->wx (model X.prog X.w) X.A (eval e X.env) (EP X pins σ Q) X.xe s
def PT(X:Cx)(e:Expr)(t:TT):Prop :=
 ∀(pins:List (we × Obj))(s:wl)(σ : St)(H:Hp)(Q:Bool->Hp->Prop),Inv X pins σ H s->t σ H Q->wx (model X.prog X.w) X.A (isTrue e X.env (eval e X.env)) (TP X pins σ Q) X.xe s
def PW(X:Cx)(e:Expr)(t:TT):Prop :=
 ∀(whole:Sem wg)(pins:List (we × Obj))(s:wl)(σ : St)(H:Hp)(Q:Bool->Hp->Prop),Inv X pins σ H s->t σ H Q->wx (model X.prog X.w) X.A (isTrue e X.env whole) (TP X pins σ Q) X.xe s
theorem PW.pt{X:Cx}{e:Expr}{t:TT}(h:PW X e t):PT X e t:=h _
def PA(X:Cx)(es:List Expr)(t:TA):Prop :=
 ∀(pos:Pos)(pins:List (we × Obj))(s:wl)(σ : St)(H:Hp)(Q:List V->Hp->Prop),Inv X pins σ H s->t σ H Q->wx (model X.prog X.w) X.A (spliced (backTo pos (w5 es X.env))) (AP X pins σ Q) X.xe s
def PS(X:Cx)(st:w9)(t:TS):Prop :=
 ∀(pins:List (we × Obj))(s:wl)(σ : St)(H:Hp)(D:cv),Inv X pins σ H s->t D σ H->wx (model X.prog X.w) X.A (exec st X.env) (SP X pins D) X.xe s
def fM(X:Cx)(st:List w9)(t:TS):Prop :=
 ∀(pins:List (we × Obj))(s:wl)(σ : St)(H:Hp)(D:cv),Inv X pins σ H s->t D σ H->wx (model X.prog X.w) X.A (execs st X.env) (SP X pins D) X.xe s
theorem aJ{α : Type}{t:Sem α}{Q Q' : α -> wl->Prop}{M:Model}{A:vb}{E:wg->wl->Prop}{s:wl}(h:wx M A t Q E s)(hQ:∀a s,Q a s->Q' a s):wx M A t Q' E s:=WB h hQ λ_ _ x=>x
section
variable{X:Cx}
variable{x:Str}{u:wg}
def r_(i:Nat):TE:=λσ H Q=>∃v,σ[i]? = some (some v)/\Q v H
def tC(v:V):TE:=λ_ H Q=>Q v H
theorem zCr{i:Nat}{pos:Pos}(hN:X.N[i]? = some x)(hv:AN X.env.scope x)(hd:(x == ("__debug__" : Str))=false:=by decide)(hcd:(x == ("__classdict__" : Str))=false:=by decide):PE X (.Name x pos) (r_ i):=by
 intro pins s σ H Q I h;obtain⟨v,e,h⟩:=h;obtain⟨m,hn,hl⟩:=I.loc;obtain⟨u,r,l⟩:=hl i x v hN e hv;have fin:EP X pins σ Q u s:=⟨v,H,I,r,h⟩;rcases l with⟨hk,hm⟩ | ⟨hk,c,hc,hcell⟩
 ·exact wpAny_Name (wpAny_loadName_local I.ok.kind hk hn hm fin) hd
 ·rcases hk with hk | hk
  ·exact wpAny_Name (wpAny_loadName_cell I.ok.kind hk hc hcell fin) hd
  ·exact wpAny_Name (wpAny_loadName_free I.ok.kind hk hc hcell fin hcd) hd
theorem ay{i j pos} : PE X (.Constant (.int i) j pos) (tC (.int i)):=λ_ _ _ H _ I h=>wpAny_Constant_int ⟨.int i,H,I.tok _,⟨_,rfl⟩,h⟩
theorem eF{b j pos} : PE X (.Constant (.bool b) j pos) (tC (.bl b)):=λ_ _ _ H _ I h=>Constant_bool ⟨.bl b,H,I,rfl,h⟩
theorem fP{j pos} : PE X (.Constant .none j pos) (tC .a_):=λ_ _ _ H _ I h=>Constant_none ⟨.a_,H,I,rfl,h⟩
theorem iU{x j pos} : PE X (.Constant (.str x) j pos) (tC (.str x)):=λ_ _ _ H _ I h=>Calls.Constant_str ⟨.str x,H,I.tok _,⟨_,rfl⟩,h⟩
def Gl(X:Cx)(x:Str):Prop:=X.env.kindOf x=some .globalImplicit
theorem rF{E:wg->wl->Prop}{pins:List (we × Obj)}{s:wl}{σ : St}{H:Hp}{pos:Pos}{Q:wg->wl->Prop}(I:Inv X pins σ H s)(hg:Gl X x)(hm:X.mg x=some u)(h:Q u s)
  (hd:(x == ("__debug__" : Str))=false:=by decide):wx (model X.prog X.w) X.A (eval (.Name x pos) X.env) Q E s :=
 Q2 I.ok.kind hg (Calls.loadGlobal_global (by rw[I.ok.glob];exact I.mod.glob.keeps I.bk) hm h) hd
theorem gW{E:wg->wl->Prop}{pins:List (we × Obj)}{s:wl}{σ : St}{H:Hp}{pos:Pos}{Q:wg->wl->Prop}(I:Inv X pins σ H s)(hg:Gl X x)(hm:X.mg x=none)(hv:vN x=some u)(h:Q u s)
  (hn:x≠"__name__":=by decide) (hd:(x == ("__debug__" : Str))=false:=by decide):wx (model X.prog X.w) X.A (eval (.Name x pos) X.env) Q E s:=by
 obtain⟨mb,h1,h2⟩:=I.mod.blt;exact Q2 I.ok.kind hg (Calls.loadGlobal_builtin (by rw[I.ok.glob];exact I.mod.glob.keeps I.bk) hm (by rw[I.ok.blt];exact h1.keeps I.bk) ((h2 x hn).trans hv) h) hd
theorem b_{v:V}{pos:Pos}(hg:Gl X x)(hm:X.mg x=some u)(r:bj v u)(hd:(x == ("__debug__" : Str))=false:=by decide):PE X (.Name x pos) (tC v) :=
 λ_ _ _ H _ I h=>rF I hg hm ⟨v,H,I,r,h⟩ hd
theorem iH{v:V}{pos:Pos}(hg:Gl X x)(hm:X.mg x=none)(hv:vN x=some u)(r:bj v u)(hn:x≠"__name__":=by decide)(hd:(x == ("__debug__" : Str))=false:=by decide):PE X (.Name x pos) (tC v) :=
 λ_ _ _ H _ I h=>gW I hg hm hv ⟨v,H,I,r,h⟩ hn hd
def t2I(ta tb:TE)(k:Int->Int->Hp->Prop):St->Hp->Prop:=λσ H=>ta σ H λx H1=>tb σ H1 λy H2=>∃i j,x=.int i/\y=.int j/\k i j H2
variable{a b:Expr}{ta tb:TE}{pos:Pos}
def nO(p:Int->Int->Bool)(ta tb:TE):TE:=λσ H Q=>t2I ta tb (λi j H2=>Q (.bl (p i j)) H2) σ H
abbrev tLt:TE->TE->TE:=nO λi j=>decide (i<j)
abbrev tLe:TE->TE->TE:=nO λi j=>decide (i<=j)
abbrev tGt:TE->TE->TE:=nO λi j=>decide (j<i)
abbrev tGe:TE->TE->TE:=nO λi j=>decide (j<=i)
abbrev zE5:TE->TE->TE:=nO λi j=>decide (i=j)
abbrev zE6:TE->TE->TE:=nO λi j=>!decide (i=j)
def tB(t:TE):TT:=λσ H Q=>t σ H λx H1=>∃c,x=.bl c/\Q c H1
theorem cz{e:Expr}{t:TE}(h:PE X e t)(he:∀whole,isTrue e X.env whole=(do let v <- whole;standAt e.pos;holding [v] (truthy v)):=by intro _;rfl):PT X e (tB t):=by
 intro pins s σ H Q I hw;refine isTrue_plain (aJ (h pins s σ H _ I hw) λv s1 ⟨x,H1,I1,r1,q1⟩=>?_) (he _);obtain⟨d,rfl,q⟩:=q1;cases r1;exact Wo ⟨H1,I1,q⟩
variable{tA tB':TT}{dw:List Expr}
def U5(t u:TT):TT:=λσ H Q=>t σ H λc H1=>if c=true then u σ H1 Q else Q false H1
def Yz(t u:TT):TT:=λσ H Q=>t σ H λc H1=>if c=true then Q true H1 else u σ H1 Q
def NC(t:TT):TT:=λσ H Q=>t σ H λc H1=>Q (!c) H1
theorem Cb(ha:PT X a tA):PW X (.BoolOp .And [a] pos) tA:=by
 intro wh pins s σ H Q I h;refine isTrue_and (aJ (ha pins s σ H Q I h) λc s1 e=>?_);cases c with
 | true=>exact isTrue_and_nil e
 | false=>exact e
theorem iC(ha:PT X a tA):PW X (.BoolOp .Or [a] pos) tA:=by
 intro wh pins s σ H Q I h;refine isTrue_or (aJ (ha pins s σ H Q I h) λc s1 e=>?_);cases c with
 | false=>exact isTrue_or_nil e
 | true=>exact e
theorem sS(ha:PT X a tA)(hb:PW X (.BoolOp .And (b::dw) pos) tB'):PW X (.BoolOp .And (a::b::dw) pos) (U5 tA tB'):=by
 intro wh pins s σ H Q I h;refine isTrue_and (aJ (ha pins s σ H _ I h) λc s1 ⟨H1,I1,q1⟩=>?_);cases c with
 | true=>exact hb wh pins s1 σ H1 Q I1 q1
 | false=>exact⟨H1,I1,q1⟩
theorem fG(ha:PT X a tA)(hb:PW X (.BoolOp .Or (b::dw) pos) tB'):PW X (.BoolOp .Or (a::b::dw) pos) (Yz tA tB'):=by
 intro wh pins s σ H Q I h;refine isTrue_or (aJ (ha pins s σ H _ I h) λc s1 ⟨H1,I1,q1⟩=>?_);cases c with
 | true=>exact⟨H1,I1,q1⟩
 | false=>exact hb wh pins s1 σ H1 Q I1 q1
theorem cW(ha:PT X a tA):PT X (.UnaryOp .Not a pos) (NC tA):=by
 intro pins s σ H Q I h;exact isTrue_not (ha pins s σ H (λc H1=>Q (!c) H1) I h)
def Ru(ta tb:TE):TE:=λσ H Q=>ta σ H λx H1=>∃c,x=.bl c/\if c=true then tb σ H1 Q else Q (.bl false) H1
def UZ(ta:TE):TE:=λσ H Q=>ta σ H λx H1=>∃c,x=.bl c/\Q (.bl (!c)) H1
theorem gK{op}{t:TE}(h:PE X a t):PE X (.BoolOp op [a] pos) t:=λpins s σ H Q I hw=>BoolOp_one (h pins s σ H Q I hw)
theorem eU(ha:PE X a ta)(hb:PE X (.BoolOp .And (b::dw) pos) tb):PE X (.BoolOp .And (a::b::dw) pos) (Ru ta tb):=by
 intro pins s σ H Q I h;refine BoolOp_and (aJ (ha pins s σ H _ I h) λv s1 ⟨x,H1,I1,r1,q1⟩=>?_);obtain⟨c,rfl,q1⟩:=q1;cases r1;refine Wo ?_;cases c with
 | true=>exact hb pins s1 σ H1 Q I1 q1
 | false=>exact⟨.bl false,H1,I1,rfl,q1⟩
theorem ng(ha:PE X a ta):PE X (.UnaryOp .Not a pos) (UZ ta):=by
 intro pins s σ H Q I h;refine UnaryOp_ (aJ (ha pins s σ H _ I h) λv s1 ⟨x,H1,I1,r1,q1⟩=>?_);obtain⟨c,rfl,q1⟩:=q1;cases r1;exact not_of (Wo ⟨.bl (!c),H1,I1,rfl,q1⟩)
def RE(t:TT)(ta tb:TE):TE:=λσ H Q=>t σ H λc H1=>if c=true then ta σ H1 Q else tb σ H1 Q
theorem tO{c:Expr}(hc:PT X c tA)(ha:PE X a ta)(hb:PE X b tb):PE X (.IfExp c a b pos) (RE tA ta tb):=by
 intro pins s σ H Q I h;refine wpAny_IfExp (aJ (hc pins s σ H _ I h) λd s1 ⟨H1,I1,q1⟩=>?_);cases d with
 | true=>exact ha pins s1 σ H1 Q I1 q1
 | false=>exact hb pins s1 σ H1 Q I1 q1
end
def aQ(K:wb)(H:Hp)(a:we)(xs:List V):Prop :=
 Rd H a (.lst xs) \/
  ∃(o:Obj)(its:Array wg)(n:Nat),K.lookup a=some o/\o.cls=.type "list"/\o.dict=none/\o.data=.seq its n/\its.size<=w8/\aT xs its.toList
def aU(K:wb)(H:Hp)(a:we)(xs:List V):Prop :=
 Rd H a (.tup xs) \/
  ∃(o:Obj)(its:Array wg)(n:Nat),K.lookup a=some o/\o.cls=.type "tuple"/\o.data=.seq its n/\its.size<=w8/\aT xs its.toList
def zEY:wg->Option V
 | .none=>some .a_
 | .bool b=>some (.bl b)
 | .int i _=>some (.int i)
 | .str x _=>some (.str x)
 | .bytes b _=>some (.byt b)
 | .float b _=>some (.flt b)
 | .ref a=>some (.ref a)
 | .type n=>some (.ty n)
 | _=>none
theorem bj.abs{x:V}{u:wg}(r:bj x u):zEY u=some x:=by
 cases x with
 | a_=>cases r;rfl
 | bl _=>cases r;rfl
 | int _=>obtain⟨t,rfl⟩:=r;rfl
 | str _=>obtain⟨t,rfl⟩:=r;rfl
 | byt _=>obtain⟨t,rfl⟩:=r;rfl
 | flt _=>obtain⟨t,rfl⟩:=r;rfl
 | ref _=>cases r;rfl
 | ty _=>cases r;rfl
theorem bj.inj{x y:V}{u:wg}(r:bj x u)(q:bj y u):x=y:=wM (r.abs.symm.trans q.abs)
theorem aT.inj:∀{xs ys:List V}{us:List wg},aT xs us->aT ys us->xs=ys
 | _,_,_,.nil,.nil=>rfl
 | _,_,_,.cons r t,.cons r' t'=>by rw[r.inj r',aT.inj t t']
section
variable{X:Cx}{pins:List (we × Obj)}{σ : St}{H:Hp}{s:wl}{a:we}{xs ys:List V}
theorem aQ.of{K:wb}(h:H a=some (.lst xs)):aQ K H a xs:=.inl (.inl h)
theorem aU.of{K:wb}(h:H a=some (.tup xs)):aU K H a xs:=.inl (.inl h)
theorem Inv.list(I:Inv X pins σ H s)(h:aQ X.K H a xs):∃its:List wg,aT xs its/\PlainL s.heap a its.toArray/\xs.length<=w8:=by
 rcases h with h | ⟨o,its,n,hk,hc,hd,hs,hz,r⟩
 ·obtain⟨z,its,n,r,e⟩:=h.ok I.aI
  exact⟨its,r,⟨_,n,e,rfl,rfl,rfl⟩,z⟩
 ·refine⟨its.toList,r,⟨o,n,I.dW a o hk,hc,hd,by simpa using hs⟩,?_⟩
  have e:=r.length;simp only[wK]at e
  lia
theorem Inv.tuple(I:Inv X pins σ H s)(h:aU X.K H a xs):∃its:List wg,aT xs its/\IsTup s.heap a its.toArray/\xs.length<=w8:=by
 rcases h with h | ⟨o,its,n,hk,hc,hs,hz,r⟩
 ·obtain⟨z,its,r,p⟩:=h.ok I.aI
  exact⟨its,r,p,z⟩
 ·refine⟨its.toList,r,⟨o,I.dW a o hk,hc,n,by simpa using hs⟩,?_⟩
  have e:=r.length;simp only[wK]at e
  lia
theorem Inv.BF(I:Inv X pins σ H s)(h:aQ X.K H a xs)(h':aQ X.K H a ys):xs=ys:=by
 obtain⟨its,r,⟨o,n,e,_,_,d⟩,_⟩:=I.list h;obtain⟨its',r',⟨o',n',e',_,_,d'⟩,_⟩:=I.list h';rw[e]at e';cases e';rw[d]at d'
 injection d' with d1 _
 have:its=its':=by simpa using congrArg Up d1
 subst this;exact r.inj r'
theorem Inv.Bz(I:Inv X pins σ H s)(h:aU X.K H a xs)(h':aU X.K H a ys):xs=ys:=by
 obtain⟨its,r,⟨o,e,_,n,d⟩,_⟩:=I.tuple h;obtain⟨its',r',⟨o',e',_,n',d'⟩,_⟩:=I.tuple h';rw[e]at e';cases e';rw[d]at d'
 injection d' with d1 _
 have:its=its':=by simpa using congrArg Up d1
 subst this;exact r.inj r'
end
abbrev Cx.jd(X:Cx)(E:wg->wl->Prop):Cx:={X with xe:=E}
abbrev Cx.zx(X:Cx):Cx:=X.jd λ_ _=>False
theorem Cx.Ok.jd{X:Cx}(ok:X.Ok)(E:wg->wl->Prop):(X.jd E).Ok :=
 ⟨ok.mod,ok.kind,ok.glob,ok.blt,ok.above,ok.inj,ok.has,ok.kI,ok.hd,ok.frames,ok.me,ok.pE,ok.bs,ok.iZ,ok.kF,ok.lC,ok.fi,ok.jl⟩
theorem Cx.Ok.kC{X:Cx}{E:wg->wl->Prop}(ok:(X.jd E).Ok):X.Ok :=
 ⟨ok.mod,ok.kind,ok.glob,ok.blt,ok.above,ok.inj,ok.has,ok.kI,ok.hd,ok.frames,ok.me,ok.pE,ok.bs,ok.iZ,ok.kF,ok.lC,ok.fi,ok.jl⟩
section
variable{X:Cx}{pins:List (we × Obj)}{σ : St}{H:Hp}{s:wl}{E:wg->wl->Prop}
theorem Inv.jd(I:Inv X pins σ H s)(E:wg->wl->Prop):Inv (X.jd E) pins σ H s:=⟨I.ok.jd E,I.os,I.bare,I.base,I.loc,I.cell,I.free,I.gq,I.pin,I.aI,I.len⟩
theorem Inv.kC(I:Inv (X.jd E) pins σ H s):Inv X pins σ H s:=⟨I.ok.kC,I.os,I.bare,I.base,I.loc,I.cell,I.free,I.gq,I.pin,I.aI,I.len⟩
theorem SP.kC{D:cv}{f:Flow}{s':wl}(h:SP (X.jd E) pins D f s'):SP X pins D f s':=by
 cases f with
 | next=>obtain⟨σ',H',I,q⟩:=h;exact⟨σ',H',I.kC,q⟩
 | brk=>obtain⟨σ',H',I,q⟩:=h;exact⟨σ',H',I.kC,q⟩
 | cont=>obtain⟨σ',H',I,q⟩:=h;exact⟨σ',H',I.kC,q⟩
 | ret u=>obtain⟨v,σ',H',I,r,q⟩:=h;exact⟨v,σ',H',I.kC,r,q⟩
theorem fM.zx{st:List w9}{t:TS}(h:fM X.zx st t):fM X st t:=λpins s σ H D I hw =>
 WB (h pins s σ H D (I.jd _) hw) (λ_ _ q=>q.kC) λ_ _ z=>W1 z
end
section
variable{X:Cx}{st:w9}{dw:List w9}{t u:TS}{e:Expr}{te:TE}{pos:Pos}
def UD:TS:=λD σ H=>D.nx σ H
def C0(t u:TS):TS:=λD σ H=>t {D with nx:=u D} σ H
theorem bS:fM X [] UD:=λ_ _ σ H _ I h=>qS ⟨σ,H,I,h⟩
theorem ar(h1:PS X st t)(h2:fM X dw u):fM X (st::dw) (C0 t u):=by
 intro pins s σ H D I h;refine wpAny_execs_cons (aJ (h1 pins s σ H {D with nx:=u D} I h) λf s1 q=>?_);cases f with
 | next =>
  obtain⟨σ',H',I',q⟩:=q;exact h2 pins s1 σ' H' D I' q
 | ret v=>exact q
 | brk=>exact q
 | cont=>exact q
theorem av(h1:PS X st t):fM X [st] t:=by
 intro pins s σ H D I h;refine wpAny_execs_cons (aJ (h1 pins s σ H D I h) λf s1 q=>?_);cases f with
 | next=>exact qS q
 | ret v=>exact q
 | brk=>exact q
 | cont=>exact q
theorem Inv.quiet{pins:List (we × Obj)}{σ : St}{H:Hp}{s:wl}(I:Inv X pins σ H s):interactive X.env=false:=by simp[interactive,I.ok.kind]
def R7(te:TE):TS:=λD σ H=>te σ H λ_ H1=>D.nx σ H1
theorem nk(he:PE X e te)(hs:swapsWith e none pos.line X.env=pure false:=by rfl):PS X (.Expr e pos) (R7 te):=by
 intro pins s σ H D I h;exact wpAny_Expr_any (aJ (he pins s σ H _ I h) λv s1 ⟨x,H1,I1,r1,q1⟩=>⟨σ,H1,I1,q1⟩) I.quiet hs
def MO(te:TE):TS:=λD σ H=>te σ H D.rt
theorem aB(he:PE X e te):PS X (.Return (some e) pos) (MO te):=by
 intro pins s σ H D I h;exact wpAny_Return_some (aJ (he pins s σ H _ I h) λv s1 ⟨x,H1,I1,r1,q1⟩=>⟨x,σ,H1,I1,r1,q1⟩)
def P_(c:TT)(t u:TS):TS:=λD σ H=>c σ H λb H1=>if b=true then t D σ H1 else u D σ H1
theorem bR{c:Expr}{a b:List w9}{tc:TT}(hc:PT X c tc)(ha:fM X a t)(hb:fM X b u):PS X (.If c a b pos) (P_ tc t u):=by
 intro pins s σ H D I h;refine wpAny_If (aJ (hc pins s σ H _ I h) λd s1 ⟨H1,I1,q1⟩=>?_);cases d with
 | true=>exact ha pins s1 σ H1 D I1 q1
 | false=>exact hb pins s1 σ H1 D I1 q1
def zC3:TS:=λ_ _ _=>False
theorem Gq:PS X st zC3:=λ_ _ _ _ _ _ h=>h.elim
end
abbrev TG:=V->St->Hp->(St->Hp->Prop)->Prop
abbrev kq:=List V->St->Hp->(St->Hp->Prop)->Prop
def PG(X:Cx)(target:Expr)(t:TG):Prop :=
 ∀(pins:List (we × Obj))(s:wl)(σ : St)(H:Hp)(v:V)(u:wg)(Q:St->Hp->Prop),Inv X pins σ H s->bj v u->t v σ H Q ->
  wx (model X.prog X.w) X.A (assign target X.env u) (λ_ s'=>∃σ' H',Inv X pins σ' H' s'/\Q σ' H') X.xe s
def sP(X:Cx)(ts:List Expr)(t:kq):Prop :=
 ∀(pins:List (we × Obj))(s:wl)(σ : St)(H:Hp)(vs:List V)(us:List wg)(Q:St->Hp->Prop),Inv X pins σ H s->aT vs us->t vs σ H Q ->
  wx (model X.prog X.w) X.A (assignInOrder ((assignEach ts X.env).map (·.2)) us) (λ_ s'=>∃σ' H',Inv X pins σ' H' s'/\Q σ' H') X.xe s
abbrev yA:=V->V->V->Hp->(Hp->Prop)->Prop
def Si(X:Cx)(t:yA):Prop :=
 ∀(pins:List (we × Obj))(s:wl)(σ : St)(H:Hp)(o i v:V)(ov iv u:wg)(Q:Hp->Prop),Inv X pins σ H s->bj o ov->bj i iv->bj v u->t o i v H Q ->
  wx (model X.prog X.w) X.A (setItem ov iv u) (λ_ s'=>∃H',Inv X pins σ H' s'/\Q H') X.xe s
abbrev pV:=V->V->Hp->VK->Prop
def Po(X:Cx)(op:Operator)(t:pV):Prop :=
 ∀(pins:List (we × Obj))(s:wl)(σ : St)(H:Hp)(x y:V)(v u:wg)(Q:VK),Inv X pins σ H s->bj x v->bj y u->t x y H Q ->
  wx (model X.prog X.w) X.A (inplaceOp op v u) (EP X pins σ Q) X.xe s
section
variable{X:Cx}{pos:Pos}
variable{i:Nat}{x:Str}{e:Expr}{te:TE}{pos':Pos}
def iE(i:Nat):TG:=λv σ H Q=>Q (σ.set i (some v)) H
theorem bQ(hN:X.N.Nodup)(hi:X.N[i]? = some x)(hx:Loc X.env.scope x)(hf:X.fn x=true\/X.env.scope.names.lookup x=some .local:=by first | exact .inl rfl | exact .inr rfl | assumption):PG X (.Name x pos) (iE i):=by
 intro pins s σ H v u Q I r h;exact wpAny_assign_Name (r8 I hN hi hx r (λs' I'=>⟨_,H,I',h⟩) hf)
def ME:kq:=λvs σ H Q=>vs=[]/\Q σ H
def N0(t:TG)(u:kq):kq:=λvs σ H Q=>∃v r,vs=v::r/\t v σ H λσ' H'=>u r σ' H' Q
theorem mh :sP X [] ME:=by
 intro pins s σ H vs us Q I r h;obtain⟨e,h⟩:=h;subst e;cases r;exact assignInOrder_nil ⟨σ,H,I,h⟩
theorem gH{es:List Expr}{t:TG}{u:kq}(h1:PG X e t)(h2:sP X es u)
  (hs:(assignEach (e::es) X.env).map (·.2)=assign e X.env::(assignEach es X.env).map (·.2):=by rfl):sP X (e::es) (N0 t u):=by
 intro pins s σ H vs us Q I r h;obtain⟨v,vr,e1,h⟩:=h;subst e1;cases r with
 | cons r rr =>
  rw[hs];refine assignInOrder_cons (aJ (h1 pins s σ H _ _ _ I r h) λ_ s1 ⟨σ1,H1,I1,q1⟩=>?_);exact h2 pins s1 σ1 H1 _ _ Q I1 rr q1
def lP(K:wb)(n:Nat)(t:kq):TG:=λv σ H Q=>∃a xs,v=.ref a/\aU K H a xs/\xs.length=n/\t xs σ H Q
theorem my{es:List Expr}{k:Nat}{t:kq}{n:Nat}(hc:X.calm=true)(h:sP X es t)
  (hn:(assignEach es X.env).length=n:=by rfl) (hst:(assignEach es X.env).findIdx? (·.1)=none:=by rfl):PG X (.Tuple es k pos) (lP X.K n t):=by
 intro pins s σ H v u Q I r hw;obtain⟨a,xs,e1,hq,hl,hw⟩:=hw;subst e1;cases r;obtain⟨its,rv,ht,hz⟩:=I.tuple hq;refine assign_Tuple_tuple (I.ok.hd hc) ht (by simp[hn,<- hl,rv.length]) hst λh' hx=>?_
 have I1:Inv X pins σ H {s with heap:=h'}:=I.kept (t':=s.toks) λb o e=>hx b o (wQ (wD e)) e
 exact h pins _ σ H xs _ Q I1 (by simpa using rv) hw
def LH(to ti:TE)(t:yA):TG:=λv σ H Q=>to σ H λo H1=>ti σ H1 λi H2=>t o i v H2 λH3=>Q σ H3
theorem oX{o i:Expr}{to ti:TE}{t:yA}(ho:PE X o to)(hi:PE X i ti)(hs:Si X t)
  (ha:∀v,assign (.Subscript o i pos) X.env v=(do
   let ov <- holding [v] (eval o X.env)
   let iv <- holding [v,ov] (eval i X.env)
   standAt pos
   holding [v,ov,iv] (setItem ov iv v)
   release [v,ov,iv] []):=by intro _;rfl):PG X (.Subscript o i pos) (LH to ti t):=by
 intro pins s σ H v u Q I r h;rw[ha];refine wf (Wk (aJ (ho pins s σ H _ I h) λov s1 ⟨x,H1,I1,r1,q1⟩=>?_));refine wf (Wk (aJ (hi pins s1 σ H1 _ I1 q1) λiv s2 ⟨y,H2,I2,r2,q2⟩=>?_));refine wf (wpAny_standAt (wf (Wk (aJ (hs pins s2 σ H2 x y v ov iv u _ I2 r1 r2 r q2) λ_ s3 ⟨H3,I3,q3⟩=>?_))));exact wpAny_release ⟨σ,H3,I3,q3⟩
def kn(te:TE)(g:TG):TS:=λD σ H=>te σ H λx H1=>g x σ H1 D.nx
theorem oD{tg:Expr}{g:TG}(he:PE X e te)(hg:PG X tg g)(hs:swapsWithSole [tg] e pos.line X.env=pure false:=by rfl)(hw:swappedStores [tg] e X.env=pure none:=by rfl)
  (h1:(assignEach [tg] X.env).map (·.2)=[assign tg X.env]:=by rfl):PS X (.Assign [tg] e pos) (kn te g):=by
 intro pins s σ H D I h;refine wpAny_Assign_stores (aJ (he pins s σ H _ I h) λv s1 ⟨x,H1,I1,r1,q1⟩=>?_) hs hw;rw[h1];exact aJ (hg pins s1 σ H1 x v _ I1 r1 q1) λ_ s2 q=>q
theorem zC6(hN:X.N.Nodup)(hi:X.N[i]? = some x)(hx:Loc X.env.scope x)(he:PE X e te)(hs:swapsWith e (some (.Name x pos')) pos.line X.env=pure false:=by rfl)(hf:X.fn x=true\/X.env.scope.names.lookup x=some .local:=by first | exact .inl rfl | exact .inr rfl | assumption) :
  PS X (.Assign [.Name x pos'] e pos) (kn te (iE i)):=by
 intro pins s σ H D I h;refine wpAny_Assign_Name (aJ (he pins s σ H _ I h) λv s1 ⟨y,H1,I1,r1,q1⟩=>?_) hs;exact r8 I1 hN hi hx r1 (λs2 I2=>⟨_,H1,I2,q1⟩) hf
def Yv(i j:Nat)(ta:TA):TS:=λD σ H=>ta σ H λvs H1=>∃v w,vs=[v,w]/\D.nx ((σ.set i (some v)).set j (some w)) H1
theorem zCB{j:Nat}{y:Str}{a b:Expr}{ta:TA}{px py pt:Pos}{kt k2 pt2}(hc:X.calm=true)(hN:X.N.Nodup)(hi:X.N[i]? = some x)(hj:X.N[j]? = some y)(hij:i≠j)
  (hx:X.env.scope.names.lookup x=some .local) (hy:X.env.scope.names.lookup y=some .local) (ha:PA X [a,b] ta)
  (hw:swappedStores [.Tuple [.Name x px,.Name y py] kt pt] (.Tuple [a,b] k2 pt2) X.env=pure (some [x,y]))
  (hs:swapsWithSole [.Tuple [.Name x px,.Name y py] kt pt] (.Tuple [a,b] k2 pt2) pos.line X.env=pure false:=by rfl) :
  PS X (.Assign [.Tuple [.Name x px,.Name y py] kt pt] (.Tuple [a,b] k2 pt2) pos) (Yv i j ta):=by
 intro pins s σ H D I h;rw[exec_Assign_arm];refine wf (wpAny_standAt ?_);rw[hs];refine wf (wp ?_);rw[if_neg (by decide)];refine wf (Tuple_ (aJ (ha _ pins s σ H _ I h) λus s1 ⟨vs,H1,I1,r1,q1⟩=>?_));obtain⟨v,w,e1,q1⟩:=q1;subst e1
 obtain⟨u1,u2,rfl,rv,rw'⟩:∃u1 u2,us=[u1,u2]/\bj v u1/\bj w u2:=by
  cases r1 with
  | cons p q =>
   cases q with
   | cons p' q' =>
    cases q';exact⟨_,_,rfl,p,p'⟩
 refine WH ?_ (by show 2<=w8;decide);have I2:Inv X pins σ H1 {s1 with heap:=s1.heap.push {cls:=.type "tuple",data:=.seq [u1,u2].toArray}}:=I1.kept (t':=s1.toks) λb o e=>wn _ e
 rw[hw];refine wf (wp ?_)
 show wx (model X.prog X.w) X.A (do rule "assign.swapped-stores";let items <- unpackItems (.ref s1.heap.objs.size) 2 none;assignInOrder [λv=>bindName X.env y v,λv=>bindName X.env x v] items.reverse;pure Flow.next) _ _ _
 refine wf (wpAny_rule (wf (unpackItems_tuple (items:=#[u1,u2]) (I.ok.hd hc) (Qx s1.heap _) λh' hx'=>?_)));have I3:=I2.kept (h':=h') (t':=s1.toks) λb o e=>hx' b o (wQ (wD e)) e
 show wx _ _ (assignInOrder [λv=>bindName X.env y v,λv=>bindName X.env x v] [u2,u1] >>= λ_=>pure Flow.next) _ _ _
 refine wf (assignInOrder_cons (wpAny_bindName (r8 I3 hN hj (.inl hy) rw' (λs2 I4=>?_) (.inr hy))));refine assignInOrder_cons (wpAny_bindName (r8 I4 hN hi (.inl hx) rv (λs3 I5=>assignInOrder_nil (wp ?_)) (.inr hx)));rw[List.set_comm _ _ (WE hij)]at I5;exact⟨_,H1,I5,q1⟩
def KW(i:Nat)(te:TE)(ti:pV):TS:=λD σ H=>∃x,σ[i]? = some (some x)/\te σ H λy H1=>ti x y H1 λz H2=>D.nx (σ.set i (some z)) H2
theorem zDd{op:Operator}{ti:pV}(hN:X.N.Nodup)(hi:X.N[i]? = some x)(hx:Loc X.env.scope x)(he:PE X e te)(ho:Po X op ti)(hf:X.fn x=true\/X.env.scope.names.lookup x=some .local:=by first | exact .inl rfl | exact .inr rfl | assumption) :
  PS X (.AugAssign (.Name x pos') op e pos) (KW i te ti):=by
 intro pins s σ H D I h;obtain⟨v,e1,h⟩:=h;obtain⟨m,hn,hl⟩:=I.loc;have BU:AN X.env.scope x:=by rcases hx with k | k;exact .inl k;exact .inr (.inl k)
 obtain⟨u,r,l⟩:=hl i x v hi e1 BU;refine wpAny_AugAssign_Name ?_
 have go:wx (model X.prog X.w) X.A (eval e X.env) (λw s₂=>wx (model X.prog X.w) X.A (inplaceOp op u w) (λr s₃=>wx (model X.prog X.w) X.A (storeName X.env x r) (λ_=>SP X pins D .next) X.xe s₃) X.xe s₂) X.xe s:=by
  refine aJ (he pins s σ H _ I h) λw s1 ⟨y,H1,I1,r1,q1⟩=>?_
  refine aJ (ho pins s1 σ H1 v y u w _ I1 r r1 q1) λz s2 ⟨zv,H2,I2,r2,q2⟩=>?_
  exact r8 I2 hN hi hx r2 (λs3 I3=>⟨_,H2,I3,q2⟩) hf
 rcases l with⟨hk,hm⟩ | ⟨hk,c,hc,hcell⟩
 ·exact wpAny_loadName_local I.ok.kind hk hn hm go
 ·rcases hk with hk | hk
  ·exact wpAny_loadName_cell I.ok.kind hk hc hcell go
  ·rcases hx with k | k
   ·have:X.env.scope.names.lookup x=some .free:=hk
    rw[k]at this;cases this
   ·have:X.env.scope.names.lookup x=some .free:=hk
    rw[k]at this;cases this
def OZ(f:Int->Int->Int):pV:=λx y H Q=>∃i j,x=.int i/\y=.int j/\Q (.int (f i j)) H
theorem zCF :Po X .Add (OZ λi j=>i+j):=by
 intro pins s σ H x y v u Q I r1 r2 h;obtain⟨i,j,e1,e2,q⟩:=h;subst e1;subst e2;obtain⟨t,rfl⟩:=r1;obtain⟨t',rfl⟩:=r2;exact iadd_int ⟨.int _,H,I.tok _,⟨_,rfl⟩,q⟩
end
section
variable{X:Cx}{pos:Pos}
def EO(c:TT)(tb:TS):TS:=λD σ H=>∃W:Nat->St->Hp->Prop,(∃m,W m σ H) /\ ∀m σ H,W m σ H ->
 c σ H λb H1=>if b=true then ∃N:St->Hp->Prop,(∀σ' H',N σ' H'->∃m',m'<m/\W m' σ' H')/\tb {D with nx:=N,ct:=N,bk:=D.nx} σ H1 else D.nx σ H1
theorem nu{c:Expr}{body:List w9}{tc:TT}{tb:TS}(hp:PassesOwn (model X.prog X.w) X.A X.env X.xe)(hc:PT X c tc)(hb:fM X body tb):PS X (.While c body [] pos) (EO tc tb):=by
 intro pins s σ H D I h;obtain⟨W,⟨m0,w0⟩,turn⟩:=h;refine wpAny_While (codeAny_whileLoop (λn s'=>∃σ' H',Inv X pins σ' H' s'/\W n σ' H') ?_ m0 ⟨σ,H,I,w0⟩);rintro n s1 ⟨σ1,H1,I1,w1⟩;refine VG hp (aJ (hc pins s1 σ1 H1 _ I1 (turn n σ1 H1 w1)) λb s2 ⟨H2,I2,q2⟩=>?_);cases b with
 | true =>
  obtain⟨N,hN,q2⟩:=q2;rw[if_pos rfl];refine VG hp (aJ (hb pins s2 σ1 H2 _ I2 q2) λf s3 q3=>?_);cases f with
  | next =>
   obtain⟨σ3,H3,I3,n3⟩:=q3;obtain⟨m',hm,w3⟩:=hN σ3 H3 n3;exact⟨m',hm,σ3,H3,I3,w3⟩
  | cont =>
   obtain⟨σ3,H3,I3,n3⟩:=q3;obtain⟨m',hm,w3⟩:=hN σ3 H3 n3;exact⟨m',hm,σ3,H3,I3,w3⟩
  | brk=>exact q3
  | ret v=>exact q3
 | false =>
  rw[if_neg vF];exact qS ⟨σ1,H2,I2,q2⟩
end
variable{tg:Expr}{P:wI}{w:wJ}{K:wb}
structure It where
 go:Nat->Hp->Prop
 fF:Nat->Hp->V->Hp->Prop
 stop:Nat->Hp->Prop
def eT(X:Cx)(pins:List (we × Obj))(H:Hp)(b:we):Prop :=
 H b=none/\b≠X.env.locals/\b ∉ X.fs/\(b∈X.ex\/X.s₀.heap.objs.size<=b)/\(∀x c,X.env.cells.lookup x=some c->c≠b) /\ ∀p∈X.pn++pins,p.1≠b
theorem Inv.jN{X:Cx}{pins:List (we × Obj)}{σ : St}{H H':Hp}{s:wl}{b:we}(I:Inv X pins σ H s)(hb:s.heap.objs.size<=b)(hn:H' b=none):eT X pins H' b:=by
 refine⟨hn,vn (wV I.lt hb),I.Zh hb,.inr (Wa I.sz hb),λx c e z=>?_,λp hp z=>?_⟩
 ·obtain⟨v,q⟩:=I.cell x c e
  exact absurd (wV q.lt (by rw[z];exact hb)) (Vj _)
 ·exact absurd (wV (wD (I.pin p hp).1) (by rw[z];exact hb)) (Vj _)
structure jA(P:wI)(w:wJ)(K:wb)(tg:Expr)(J:It)(fp:List we)(it:we)(tn:Nat->wG->Prop):Prop where
 mem:it∈fp
 obj:∀i h,tn i h->∀b∈fp,∃o,h.get? b=some o /\ ∀v,o.data≠.cell v
 keep:∀i h h',tn i h->(∀b∈fp,∀o,h.get? b=some o->h'.get? b=some o)->tn i h'
 item:∀(X:Cx),X.prog=P->X.w=w->X.K=K->X.calm=true->∀(i:Nat)(pins:List (we × Obj))(s:wl)(σ : St)(H:Hp)(E:wg->wl->Prop),Inv X pins σ H s->(∀b∈fp,eT X pins H b)->tn i s.heap->J.go i H ->
   wx (model P w) X.A (VR (.ref it)) (λr s1=>∃u,r=some u /\
     wx (model P w) X.A (qT tg (.ref it) u) (λ_ s2=>∃x H',Inv X pins σ H' s2/\bj x u/\J.fF i H x H'/\tn (i+1) s2.heap /\ ∀b∈fp,H' b=none) E s1) E s
 done:∀(X:Cx),X.prog=P->X.w=w->X.K=K->X.calm=true->∀(i:Nat)(pins:List (we × Obj))(s:wl)(σ : St)(H:Hp)(E:wg->wl->Prop),Inv X pins σ H s->(∀b∈fp,eT X pins H b)->tn i s.heap->J.stop i H ->
   wx (model P w) X.A (VR (.ref it)) (λr s1=>r=none/\Inv X pins σ H s1) E s
 self:∀(A:vb)(i:Nat)(s:wl)(Q:wg->wl->Prop)(E:wg->wl->Prop),tn i s.heap->Q (.ref it) s->wx (model P w) A (pyIter (.ref it)) Q E s
abbrev TI:=St->Hp->(It->Hp->Prop)->Prop
def Dc(X:Cx)(pins:List (we × Obj))(σ : St)(tg:Expr)(R:It->Hp->Prop)(itv:wg)(s2:wl):Prop :=
 ∃(it:we)(fp:List we)(tn:Nat->wG->Prop)(J:It)(H':Hp),itv=.ref it/\Inv X pins σ H' s2/\jA X.prog X.w X.K tg J fp it tn/\tn 0 s2.heap/\(∀b∈fp,eT X pins H' b)/\R J H'
def PI(X:Cx)(tg iter:Expr)(wi:TI):Prop :=
 ∀(pins:List (we × Obj))(s:wl)(σ : St)(H:Hp)(R:It->Hp->Prop),Inv X pins σ H s->wi σ H R ->
  wx (model X.prog X.w) X.A (eval iter X.env) (λv s1=>wx (model X.prog X.w) X.A (pyIter v) (Dc X pins σ tg R) X.xe s1) X.xe s
theorem Dt{M:Model}{A:vb}{E:wg->wl->Prop}{s:wl}{it:we}{u:wg}{o:Obj}{n:String}{vs:Array wg}{Q:Unit->wl->Prop}(ho:s.heap.get? it=some o)(hc:o.cls=.type n)(hd:o.data=.fields vs)
   (hn:["enumerate","zip","dict_itemiterator","dict_reverseitemiterator","odict_iterator","itertools.zip_longest","itertools.pairwise"].contains n=false) (hQ:Q () s):wx M A (qT tg (.ref it) u) Q E s:=by
 unfold qT
 cases tg<;>first
   | exact wp hQ
   | (cases u<;>first
       | exact wp hQ
       | (refine wf (wpAny_load ho ?_)
          rw[hc,hd]
          show wx M A (if(["enumerate","zip","dict_itemiterator","dict_reverseitemiterator","odict_iterator","itertools.zip_longest","itertools.pairwise"].contains n&&vs[0]? == some (VS _))=true then _ else _) Q E s
          rw[if_neg (by intro h;rw[hn,Ww]at h;cases h)];exact wp hQ))
def jj(K:wb)(a:we):It :=
 ⟨λi H=>∃xs x,aQ K H a xs/\xs[i]? = some x,λi H x H'=>H'=H /\ ∀xs,aQ K H a xs->xs[i]? = some x,λi H=>∃xs,aQ K H a xs/\xs.length<=i⟩
def jg(K:wb)(a:we):It :=
 ⟨λi H=>∃xs x,aU K H a xs/\xs[i]? = some x,λi H x H'=>H'=H /\ ∀xs,aU K H a xs->xs[i]? = some x,λi H=>∃xs,aU K H a xs/\xs.length<=i⟩
def gr(lo:Int)(n:Nat):It:=⟨λi _=>i<n,λi H x H'=>H'=H/\x=.int (lo+i),λi _=>n<=i⟩
theorem Pk(a it:we):jA P w K tg (jj K a) [it] it (λi h=>h.IsListIter it a i) where
 mem:=by simp
 obj:=λi h st b hb=>by
  have e:b=it:=by simpa using hb
  subst e;obtain⟨o,e,c,d⟩:=st;exact⟨o,e,λv z=>by rw[d]at z;cases z⟩
 keep:=λi h h' st k=>st.at λo e=>k it (by simp) o e
 item:=by
  intro X hP hw hK hc i pins s σ H E I hf st hg;subst hP hw hK;obtain⟨xs,x,hq,hx⟩:=hg;obtain⟨its,rv,p,hz⟩:=I.list hq;obtain⟨u,hu,ru⟩:=rv.get hx;obtain⟨f0,f1,f2,f3,f4,f5⟩:=hf it (by simp);refine wpAny_pyNext_list_item st p.isList (x:=u) (by simpa using hu) λh' st' sb=>?_
  have I1:Inv X pins σ H {s with heap:=h'}:=I.turned (t':=s.toks) (λb o hb e=>(sb.2 b hb).trans e) f0 f1 f3 f4 f5;obtain⟨o,e,c,d⟩:=id st';exact⟨u,rfl,Dt (s:={s with heap:=h'}) e c d (by decide) ⟨x,H,I1,ru,⟨rfl,λys hy=>by rw[I.BF hy hq];exact hx⟩,st',λb hb=>(hf b hb).1⟩⟩
 done:=by
  intro X hP hw hK hc i pins s σ H E I hf st hg;subst hP hw hK;obtain⟨xs,hq,hx⟩:=hg;obtain⟨its,rv,p,hz⟩:=I.list hq;obtain⟨f0,f1,f2,f3,f4,f5⟩:=hf it (by simp);have hl:=rv.length;exact wpAny_pyNext_list_end (I.ok.hd hc) st p.isList (by simp;lia) λh' eb=>⟨rfl,I.turned (t':=s.toks) (λb o hb e=>eb b o hb e) f0 f1 f3 f4 f5⟩
 self:=λ_ _ _ _ _ st h=>wpAny_pyIter_listiter st h
theorem RG(a it:we):jA P w K tg (jg K a) [it] it (λi h=>h.IsTupleIter it a i) where
 mem:=by simp
 obj:=λi h st b hb=>by
  have e:b=it:=by simpa using hb
  subst e;obtain⟨o,e,c,d⟩:=st;exact⟨o,e,λv z=>by rw[d]at z;cases z⟩
 keep:=λi h h' st k=>st.at λo e=>k it (by simp) o e
 item:=by
  intro X hP hw hK hc i pins s σ H E I hf st hg;subst hP hw hK;obtain⟨xs,x,hq,hx⟩:=hg;obtain⟨its,rv,p,hz⟩:=I.tuple hq;obtain⟨u,hu,ru⟩:=rv.get hx;obtain⟨f0,f1,f2,f3,f4,f5⟩:=hf it (by simp);refine wpAny_pyNext_tuple_item st (show s.heap.IsTuple a its.toArray from p) (x:=u) (by simpa using hu) λh' st' sb=>?_
  have I1:Inv X pins σ H {s with heap:=h'}:=I.turned (t':=s.toks) (λb o hb e=>(sb.2 b hb).trans e) f0 f1 f3 f4 f5;obtain⟨o,e,c,d⟩:=id st';exact⟨u,rfl,Dt (s:={s with heap:=h'}) e c d (by decide) ⟨x,H,I1,ru,⟨rfl,λys hy=>by rw[I.Bz hy hq];exact hx⟩,st',λb hb=>(hf b hb).1⟩⟩
 done:=by
  intro X hP hw hK hc i pins s σ H E I hf st hg;subst hP hw hK;obtain⟨xs,hq,hx⟩:=hg;obtain⟨its,rv,p,hz⟩:=I.tuple hq;obtain⟨f0,f1,f2,f3,f4,f5⟩:=hf it (by simp);have hl:=rv.length;exact wpAny_pyNext_tuple_end (I.ok.hd hc) st (show s.heap.IsTuple a its.toArray from p) (by simp;lia) λh' eb=>⟨rfl,I.turned (t':=s.toks) (λb o hb e=>eb b o hb e) f0 f1 f3 f4 f5⟩
 self:=λ_ _ _ _ _ st h=>wpAny_pyIter_tupleiter st h
theorem ztG(it:we)(lo:Int)(n:Nat):jA P w K tg (gr lo n) [it] it (λi h=>IsRangeIter h it (lo+(i:Nat)*1) ((n:Int)-(i:Nat)) 1) where
 mem:=by simp
 obj:=λi h st b hb=>by
  have e:b=it:=by simpa using hb
  subst e
  exact⟨_,st,λv z=>by
   have z':Data.fields _=Data.cell v:=z;cases z'⟩
 keep:=λi h h' st k=>k it (by simp) _ st
 item:=by
  intro X hP hw hK hc i pins s σ H E I hf st hg;subst hP hw hK;obtain⟨f0,f1,f2,f3,f4,f5⟩:=hf it (by simp);have W:=Walks.range (prog:=X.prog) (w:=X.w) (I.ok.hd hc) it lo 1 n;refine W.item i s _ _ hg st λv h' tk hv st' kk=>?_
  obtain⟨t,rfl⟩:=hv;have I1:Inv X pins σ H {s with heap:=h',toks:=tk}:=I.turned (λb o hb e=>kk b o (by simpa using hb) e) f0 f1 f3 f4 f5;refine⟨_,rfl,Dt (s:={s with heap:=h',toks:=tk}) (n:="range_iterator") st' rfl rfl (by decide) ⟨.int (lo+i),H,I1,⟨t,?_⟩,⟨rfl,rfl⟩,st',λb hb=>(hf b hb).1⟩⟩;rw[xI]
 done:=by
  intro X hP hw hK hc i pins s σ H E I hf st hg;subst hP hw hK;obtain⟨f0,f1,f2,f3,f4,f5⟩:=hf it (by simp);exact wpAny_pyNext_range_end (I.ok.hd hc) st (by have:n<=i:=hg;lia) λh' eb=>⟨rfl,I.turned (t':=s.toks) (λb o hb e=>eb b o hb e) f0 f1 f3 f4 f5⟩
 self:=λ_ _ _ _ _ st h=>wpAny_pyIter_rangeiter st h
section
variable{X:Cx}{tg:Expr}
variable{σ:St}{H:Hp}{fp:List we}
def Fo(K:wb)(tl:TE):TI:=λσ H R=>tl σ H λx H1=>∃a,x=.ref a/\(∃xs,aQ K H1 a xs)/\R (jj K a) H1
def YE(K:wb)(tl:TE):TI:=λσ H R=>tl σ H λx H1=>∃a,x=.ref a/\(∃xs,aU K H1 a xs)/\R (jg K a) H1
theorem gA{l:Expr}{tl:TE}(hl:PE X l tl):PI X tg l (Fo X.K tl):=by
 intro pins s σ H R I h;refine aJ (hl pins s σ H _ I h) λv s1 ⟨x,H1,I1,r1,q1⟩=>?_
 obtain⟨a,e,⟨xs,hq⟩,q⟩:=q1;subst e;cases r1;obtain⟨its,rv,p,hz⟩:=I1.list hq;refine qz p.isList ?_;refine⟨s1.heap.objs.size,[s1.heap.objs.size],_,_,H1,rfl,I1.kept (t':=s1.toks) λb o e=>wn _ e,Pk a _,⟨_,wN _ rfl,rfl,rfl⟩,λb hb=>?_,q⟩;have e:b=s1.heap.objs.size:=by simpa using hb
 subst e;exact I1.jN (wo _) (I1.aI.fresh (wo _))
theorem j9{l:Expr}{tl:TE}(hl:PE X l tl):PI X tg l (YE X.K tl):=by
 intro pins s σ H R I h;refine aJ (hl pins s σ H _ I h) λv s1 ⟨x,H1,I1,r1,q1⟩=>?_
 obtain⟨a,e,⟨xs,hq⟩,q⟩:=q1;subst e;cases r1;obtain⟨its,rv,p,hz⟩:=I1.tuple hq;refine Vc (show s1.heap.IsTuple a its.toArray from p) ?_;refine⟨s1.heap.objs.size,[s1.heap.objs.size],_,_,H1,rfl,I1.kept (t':=s1.toks) λb o e=>wn _ e,RG a _,⟨_,wN _ rfl,rfl,rfl⟩,λb hb=>?_,q⟩;have e:b=s1.heap.objs.size:=by simpa using hb
 subst e;exact I1.jN (wo _) (I1.aI.fresh (wo _))
theorem Nk{pins:List (we × Obj)}{s:wl}{R:It->Hp->Prop}{E:wg->wl->Prop}{lo hi:Int}{t u v:Tok}{tk:Nat}(I:Inv X pins σ H s)(h1 : -(2^62)<=lo)(h2:lo<2^62)(h3 : -(2^62)<=hi)(h4:hi<2^62)
  (q:R (gr lo (hi-lo).toNat) H):wx (model X.prog X.w) X.A (pyIter (.ref s.heap.objs.size)) (Dc X pins σ tg R) E {s with heap:=s.heap.push {cls:=.type "range",data:=.fields #[.int lo t,.int hi u,.int 1 v]},toks:=tk}:=by
 refine wpAny_pyIter_range (Uu ..) (small_one h1 h2 h3 h4) ?_;have I1:Inv X pins σ H {s with heap:=s.heap.push {cls:=.type "range",data:=.fields #[.int lo t,.int hi u,.int 1 v]},toks:=tk}:=I.kept λb o e=>wn _ e
 refine⟨(s.heap.push {cls:=.type "range",data:=.fields #[.int lo t,.int hi u,.int 1 v]}).objs.size,[(s.heap.push {cls:=.type "range",data:=.fields #[.int lo t,.int hi u,.int 1 v]}).objs.size],_,_,H,rfl,
  I1.kept (t':=tk) λb o e=>wn _ e,ztG _ lo (hi-lo).toNat,?_,λb hb=>?_,q⟩
 ·have e1:lo+((0:Nat):Int)*1=lo:=by simp
  have e2:(((hi-lo).toNat:Nat):Int)-((0:Nat):Int)=Ut lo hi 1:=by rw[rangeSize_one];split<;>lia
  show IsRangeIter _ _ (lo+((0:Nat):Int)*1) ((((hi-lo).toNat:Nat):Int)-((0:Nat):Int)) 1
  rw[e1,e2];exact wN _ rfl
 ·have e:b=(s.heap.push {cls:=.type "range",data:=.fields #[.int lo t,.int hi u,.int 1 v]}).objs.size:=by simpa using hb
  subst e;exact I1.jN (wo _) (I1.aI.fresh (wo _))
def Gh(ta:TA):TI:=λσ H R=>ta σ H λvs H1=>∃j:Int,vs=[.int j] /\ -(2^62)<=j/\j<2^62/\R (gr 0 j.toNat) H1
def MB(ta:TA):TI:=λσ H R=>ta σ H λvs H1=>∃i j:Int,vs=[.int i,.int j]/\(-(2^62)<=i/\i<2^62 /\ -(2^62)<=j/\j<2^62)/\R (gr i (j-i).toNat) H1
theorem kc{a:Expr}{ta:TA}{p pos:Pos}(hg:Gl X "range")(hm:X.mg "range"=none)(ha:PA X [a] ta)(hs:w5 [a] X.env=[(false,eval a X.env)]:=by rfl):PI X tg (.Call (.Name "range" p) [a] [] pos) (Gh ta):=by
 intro pins s σ H R I h;refine Call_ (gW I hg hm boot_range (vB (aJ (ha pos pins s σ H _ I h) λus s1 ⟨vs,H1,I1,r1,q1⟩=>?_) hs rfl));obtain⟨j,e,q1,q2,q⟩:=q1;subst e;cases r1 with
 | cons r rr =>
  cases rr;obtain⟨t,rfl⟩:=r;exact call_range_1 (Nk I1 (by lia) (by lia) q1 q2 (by simpa using q))
theorem zwx{a b:Expr}{ta:TA}{p pos:Pos}(hg:Gl X "range")(hm:X.mg "range"=none)(ha:PA X [a,b] ta)(hs:w5 [a,b] X.env=[(false,eval a X.env),(false,eval b X.env)]:=by rfl)(hs2:w5 [b] X.env=[(false,eval b X.env)]:=by rfl) :
  PI X tg (.Call (.Name "range" p) [a,b] [] pos) (MB ta):=by
 intro pins s σ H R I h;refine Call_ (gW I hg hm boot_range (vB (aJ (ha pos pins s σ H _ I h) λus s1 ⟨vs,H1,I1,r1,q1⟩=>?_) (by rw[hs,hs2]) (by rw[hs2];rfl)));obtain⟨i,j,e,⟨q1,q2,q3,q4⟩,q⟩:=q1;subst e;cases r1 with
 | cons r rr =>
  cases rr with
  | cons r' rr =>
   cases rr;obtain⟨t,rfl⟩:=r;obtain⟨t',rfl⟩:=r';exact call_range_2 (Nk I1 q1 q2 q3 q4 q)
def lW(wi:TI)(g:TG)(tb:TS):TS:=λD σ H=>wi σ H λJ H1=>∃W:Nat->Nat->St->Hp->Prop,(∃m,W 0 m σ H1) /\ ∀i m σ H,W i m σ H ->
 (J.stop i H/\D.nx σ H)\/(J.go i H /\ ∃N:St->Hp->Prop,(∀σ' H',N σ' H'->∃m',m'<m/\W (i+1) m' σ' H') /\ ∀x H',J.fF i H x H'->g x σ H' λσ2 H2=>tb {D with nx:=N,ct:=N,bk:=D.nx} σ2 H2)
def pj(fp:List we)(h:wG):List (we × Obj):=fp.filterMap λb=>(h.get? b).map λo=>(b,o)
theorem tf{h:wG}{b:we}{o:Obj}(hb:b∈fp)(e:h.get? b=some o):(b,o)∈pj fp h:=qV.mpr ⟨b,hb,by rw[e];rfl⟩
theorem zwu{h:wG}{p:we × Obj}(hp:p∈pj fp h):p.1∈fp/\h.get? p.1=some p.2:=by
 obtain⟨b,hb,e⟩:=qV.mp hp;cases q:h.get? b with
 | none=>rw[q]at e;cases e
 | some o =>
  rw[q]at e;have e':(b,o)=p:=wM e;subst e';exact⟨hb,q⟩
theorem Inv.pinned{pins:List (we × Obj)}{s:wl}(I:Inv X pins σ H s)(hf:∀b∈fp,eT X pins H b)(ho:∀b∈fp,∃o,s.heap.get? b=some o /\ ∀v,o.data≠.cell v):Inv X (pins++pj fp s.heap) σ H s :=
 I.J5 λp hp=>(vX.mp hp).elim (λz=>I.pin p (Wc _ z)) λz=>by
  obtain⟨hb,e⟩:=zwu z;obtain⟨f0,f1,f2,_⟩:=hf p.1 hb;obtain⟨o,e',d⟩:=ho p.1 hb;rw[e]at e';cases e';exact⟨e,f0,f1,f2,d⟩
theorem Inv.sA{pins pl:List (we × Obj)}{s:wl}(I:Inv X (pins++pl) σ H s):Inv X pins σ H s:=I.J5 λp hp=>I.pin p (Wc _ (VU _ hp))
theorem gR{iter:Expr}{body:List w9}{wi:TI}{g:TG}{tb:TS}{pos:Pos}(hp:PassesOwn (model X.prog X.w) X.A X.env X.xe)(hc:X.calm=true)(hi:PI X tg iter wi)(hg:PG X tg g)(hb:fM X body tb)
  (hs:∀x,foldedSetIterable iter X.env x=pure x:=by intro _;rfl):PS X (.For tg iter body [] pos) (lW wi g tb):=by
 intro pins s σ H D I h;refine wpAny_For (aJ (hi pins s σ H _ I h) λv s1 h1=>aJ h1 λitv s2 h2=>?_) hs;obtain⟨it,fp,tn,J,H2,e,I2,T,st2,f2,W,⟨m0,w0⟩,turn⟩:=h2;subst e
 have stat:∀{H':Hp},(∀b∈fp,H' b=none)->∀b∈fp,eT X pins H' b:=λhn b hb=>⟨hn b hb,(f2 b hb).2⟩
 refine codeAny_forLoop_any (λn s'=>∃i σ' H',Inv X pins σ' H' s'/\tn i s'.heap/\(∀b∈fp,H' b=none)/\W i n σ' H') ?_ m0 ⟨0,σ,H2,I2,st2,λb hb=>(f2 b hb).1,w0⟩;rintro n s3 ⟨i,σ3,H3,I3,st3,fr3,w3⟩;rcases turn i n σ3 H3 w3 with⟨stop,qn⟩ | ⟨go,N,hN,step⟩
 ·refine VG hp (aJ (T.done X rfl rfl rfl hc i pins s3 σ3 H3 X.xe I3 (stat fr3) st3 stop) λr s4 ⟨hr,I4⟩=>?_)
  subst hr;exact qS ⟨σ3,H3,I4,qn⟩
 ·refine VG hp (aJ (T.item X rfl rfl rfl hc i pins s3 σ3 H3 X.xe I3 (stat fr3) st3 go) λr s4 ⟨u,hr,h4⟩=>?_)
  subst hr;refine VG hp (aJ h4 λ_ s5 ⟨x,H5,I5,r5,y5,st5,fr5⟩=>?_);have I5':=I5.pinned (stat fr5) (T.obj _ _ st5);refine VG hp (aJ (hg _ s5 σ3 H5 x u _ I5' r5 (step x H5 y5)) λ_ s6 ⟨σ6,H6,I6,q6⟩=>?_);refine VG hp (aJ (hb _ s6 σ6 H6 _ I6 q6) λf s7 q7=>?_)
  have again:∀{σ7:St}{H7:Hp},Inv X (pins++pj fp s5.heap) σ7 H7 s7->N σ7 H7->∃m,m<n /\ ∃i σ' H',Inv X pins σ' H' s7/\tn i s7.heap/\(∀b∈fp,H' b=none)/\W i m σ' H':=λ{σ7 H7} I7 n7=>by
   obtain⟨m',hm,w7⟩:=hN σ7 H7 n7;refine⟨m',hm,i+1,σ7,H7,I7.sA,T.keep _ _ _ st5 λb hb o e=>(I7.pin (b,o) (Wc _ (Wc _ (tf hb e)))).1,λb hb=>?_,w7⟩;obtain⟨o,e,d⟩:=T.obj _ _ st5 b hb;exact(I7.pin (b,o) (Wc _ (Wc _ (tf hb e)))).2.1
  cases f with
  | next=>obtain⟨σ7,H7,I7,n7⟩:=q7;exact again I7 n7
  | cont=>obtain⟨σ7,H7,I7,n7⟩:=q7;exact again I7 n7
  | brk=>obtain⟨σ7,H7,I7,q7⟩:=q7;exact⟨σ7,H7,I7.sA,q7⟩
  | ret v=>obtain⟨x7,σ7,H7,I7,r7,q7⟩:=q7;exact⟨x7,σ7,H7,I7.sA,r7,q7⟩
end
variable{tb:TS}{D:cv}{σ:St}{H:Hp}
theorem zyI{K:wb}{a:we}{xs:List V}{g:TG}(Pv:Nat->St->Hp->Prop)(h0:Pv 0 σ H)(hl:∀i σ H,i<=xs.length->Pv i σ H->aQ K H a xs)
  (hs:∀i x σ H,xs[i]? = some x->Pv i σ H->g x σ H λσ2 H2=>tb {D with nx:=Pv (i+1),ct:=Pv (i+1),bk:=D.nx} σ2 H2) (hd:∀σ H,Pv xs.length σ H->D.nx σ H) :
  ∃W:Nat->Nat->St->Hp->Prop,(∃m,W 0 m σ H) /\ ∀i m σ H,W i m σ H ->
   ((jj K a).stop i H/\D.nx σ H)\/((jj K a).go i H /\ ∃N:St->Hp->Prop,(∀σ' H',N σ' H'->∃m',m'<m/\W (i+1) m' σ' H') /\ ∀x H',(jj K a).fF i H x H'->g x σ H' λσ2 H2=>tb {D with nx:=N,ct:=N,bk:=D.nx} σ2 H2):=by
 refine⟨λi m σ H=>m=xs.length-i/\i<=xs.length/\Pv i σ H,⟨xs.length,by simp,Wm _,h0⟩,?_⟩;rintro i m σ H ⟨rfl,hi,p⟩;have q:=hl i σ H hi p
 by_cases hlt:i<xs.length
 ·refine .inr ⟨⟨xs,xs[i],q,by simp[hlt]⟩,Pv (i+1),λσ' H' p'=>⟨xs.length-(i+1),by lia,rfl,hlt,p'⟩,λx H' y=>?_⟩
  obtain⟨e,y⟩:=y;subst e;exact hs i x σ _ (y xs q) p
 ·have e:i=xs.length:=by lia
  subst e;exact .inl ⟨⟨xs,q,wo _⟩,hd σ H p⟩
theorem zAW{K:wb}{a:we}{xs:List V}{g:TG}(Pv:Nat->St->Hp->Prop)(h0:Pv 0 σ H)(hl:∀i σ H,i<=xs.length->Pv i σ H->aU K H a xs)
  (hs:∀i x σ H,xs[i]? = some x->Pv i σ H->g x σ H λσ2 H2=>tb {D with nx:=Pv (i+1),ct:=Pv (i+1),bk:=D.nx} σ2 H2) (hd:∀σ H,Pv xs.length σ H->D.nx σ H) :
  ∃W:Nat->Nat->St->Hp->Prop,(∃m,W 0 m σ H) /\ ∀i m σ H,W i m σ H ->
   ((jg K a).stop i H/\D.nx σ H)\/((jg K a).go i H /\ ∃N:St->Hp->Prop,(∀σ' H',N σ' H'->∃m',m'<m/\W (i+1) m' σ' H') /\ ∀x H',(jg K a).fF i H x H'->g x σ H' λσ2 H2=>tb {D with nx:=N,ct:=N,bk:=D.nx} σ2 H2):=by
 refine⟨λi m σ H=>m=xs.length-i/\i<=xs.length/\Pv i σ H,⟨xs.length,by simp,Wm _,h0⟩,?_⟩;rintro i m σ H ⟨rfl,hi,p⟩;have q:=hl i σ H hi p
 by_cases hlt:i<xs.length
 ·refine .inr ⟨⟨xs,xs[i],q,by simp[hlt]⟩,Pv (i+1),λσ' H' p'=>⟨xs.length-(i+1),by lia,rfl,hlt,p'⟩,λx H' y=>?_⟩
  obtain⟨e,y⟩:=y;subst e;exact hs i x σ _ (y xs q) p
 ·have e:i=xs.length:=by lia
  subst e;exact .inl ⟨⟨xs,q,wo _⟩,hd σ H p⟩
theorem Mu{lo:Int}{n:Nat}{g:TG}(Pv:Nat->St->Hp->Prop)(h0:Pv 0 σ H)
  (hs:∀i σ H,i<n->Pv i σ H->g (.int (lo+i)) σ H λσ2 H2=>tb {D with nx:=Pv (i+1),ct:=Pv (i+1),bk:=D.nx} σ2 H2) (hd:∀σ H,Pv n σ H->D.nx σ H) :
  ∃W:Nat->Nat->St->Hp->Prop,(∃m,W 0 m σ H) /\ ∀i m σ H,W i m σ H ->
   ((gr lo n).stop i H/\D.nx σ H)\/((gr lo n).go i H /\ ∃N:St->Hp->Prop,(∀σ' H',N σ' H'->∃m',m'<m/\W (i+1) m' σ' H') /\ ∀x H',(gr lo n).fF i H x H'->g x σ H' λσ2 H2=>tb {D with nx:=N,ct:=N,bk:=D.nx} σ2 H2):=by
 refine⟨λi m σ H=>m=n-i/\i<=n/\Pv i σ H,⟨n,by simp,Wm _,h0⟩,?_⟩;rintro i m σ H ⟨rfl,hi,p⟩
 by_cases hlt:i<n
 ·refine .inr ⟨hlt,Pv (i+1),λσ' H' p'=>⟨n-(i+1),by lia,rfl,hlt,p'⟩,λx H' y=>?_⟩
  obtain⟨e,y⟩:=y;subst e y;exact hs i σ _ hlt p
 ·have e:i=n:=by lia
  subst e;exact .inl ⟨wo _,hd σ H p⟩
abbrev R2:=V->V->Hp->VK->Prop
def aN(X:Cx)(f:wg->wg->Sem wg)(r:R2):Prop :=
 ∀(pins:List (we × Obj))(s:wl)(σ : St)(H:Hp)(x y:V)(v u:wg)(Q:VK),Inv X pins σ H s->bj x v->bj y u->r x y H Q ->
  wx (model X.prog X.w) X.A (f v u) (EP X pins σ Q) X.xe s
def BZ(X:Cx)(f:wg->Sem wg)(r:V->Hp->VK->Prop):Prop :=
 ∀(pins:List (we × Obj))(s:wl)(σ : St)(H:Hp)(x:V)(v:wg)(Q:VK),Inv X pins σ H s->bj x v->r x H Q ->
  wx (model X.prog X.w) X.A (f v) (EP X pins σ Q) X.xe s
def aK(X:Cx)(f:wg)(r:List V->Hp->VK->Prop):Prop :=
 ∀(pins:List (we × Obj))(s:wl)(σ : St)(H:Hp)(xs:List V)(us:List wg)(Q:VK),Inv X pins σ H s->aT xs us->r xs H Q ->
  wx (model X.prog X.w) X.A (call f us) (EP X pins σ Q) X.xe s
def ZE(X:Cx)(r:V->Hp->(Bool->Hp->Prop)->Prop):Prop :=
 ∀(pins:List (we × Obj))(s:wl)(σ : St)(H:Hp)(x:V)(v:wg)(Q:Bool->Hp->Prop),Inv X pins σ H s->bj x v->r x H Q ->
  wx (model X.prog X.w) X.A (truthy v) (TP X pins σ Q) X.xe s
def lJ(r:R2)(ta tb:TE):TE:=λσ H Q=>ta σ H λx H1=>tb σ H1 λy H2=>r x y H2 Q
def TY(r:V->Hp->VK->Prop)(ta:TE):TE:=λσ H Q=>ta σ H λx H1=>r x H1 Q
def rI(C:Int->Int->Prop)(g:Int->Int->V):R2:=λx y H Q=>∃i j,x=.int i/\y=.int j/\C i j/\Q (g i j) H
def jc(g:Int->Int->V):R2:=λx y H Q=>∃i j,x=.int i/\y=.int j/\Q (g i j) H
def rU(g:Int->V):V->Hp->VK->Prop:=λx H Q=>∃i,x=.int i/\Q (g i) H
section
variable{X:Cx}{a b c:Expr}{ta tb tc:TE}{pos:Pos}
theorem B_(ha:PE X a ta)(hb:PE X b tb){pins:List (we × Obj)}{s:wl}{σ : St}{H:Hp}{R:V->V->Hp->Prop}(I:Inv X pins σ H s)
  (h:ta σ H λx H1=>tb σ H1 λy H2=>R x y H2) {Q:wg->wl->Prop} {f:wg->wg->Sem wg}
  (hf:∀v u s2 x y H2,Inv X pins σ H2 s2->bj x v->bj y u->R x y H2->wx (model X.prog X.w) X.A (f v u) Q X.xe s2) :
  wx (model X.prog X.w) X.A (eval a X.env) (λv s₁=>wx (model X.prog X.w) X.A (eval b X.env) (λu s₂=>wx (model X.prog X.w) X.A (f v u) Q X.xe s₂) X.xe s₁) X.xe s:=by
 refine aJ (ha pins s σ H _ I h) λv s1 ⟨x,H1,I1,r1,q1⟩=>?_
 refine aJ (hb pins s1 σ H1 _ I1 q1) λu s2 ⟨y,H2,I2,r2,q2⟩=>?_
 exact hf v u s2 x y H2 I2 r1 r2 q2
theorem aD{op:Operator}{r:R2}(ho:aN X (WC op) r)(ha:PE X a ta)(hb:PE X b tb):PE X (.BinOp a op b pos) (lJ r ta tb):=by
 intro pins s σ H Q I h;exact wpAny_BinOp (B_ ha hb I h λv u s2 x y H2 I2 rx ry q=>ho pins s2 σ H2 x y v u Q I2 rx ry q)
theorem gI{op:UnaryOp}{r:V->Hp->VK->Prop}(ho:BZ X (unaryOp op) r)(ha:PE X a ta):PE X (.UnaryOp op a pos) (TY r ta):=by
 intro pins s σ H Q I h;exact UnaryOp_ (aJ (ha pins s σ H _ I h) λv s1 ⟨x,H1,I1,r1,q1⟩=>ho pins s1 σ H1 x v Q I1 r1 q1)
theorem yX{f:wg->wg->Sem wg}{C:Int->Int->Prop}{g:Int->Int->Int}
  (rule:∀(i j:Int)(t u:Tok)(s:wl)(Q:wg->wl->Prop)(E:wg->wl->Prop),C i j->Q (.int (g i j) s.toks) {s with toks:=s.toks+1}->wx (model X.prog X.w) X.A (f (.int i t) (.int j u)) Q E s) :
  aN X f (rI C λi j=>.int (g i j)):=by
 intro pins s σ H x y v u Q I rx ry h;obtain⟨i,j,rfl,rfl,hc,q⟩:=h;obtain⟨t,rfl⟩:=rx;obtain⟨t',rfl⟩:=ry;exact rule i j t t' s _ _ hc ⟨.int (g i j),H,I.tok _,⟨_,rfl⟩,q⟩
theorem S0{f:wg->wg->Sem wg}{g:Int->Int->Int}
  (rule:∀(i j:Int)(t u:Tok)(s:wl)(Q:wg->wl->Prop)(E:wg->wl->Prop),Q (.int (g i j) s.toks) {s with toks:=s.toks+1}->wx (model X.prog X.w) X.A (f (.int i t) (.int j u)) Q E s) :
  aN X f (jc λi j=>.int (g i j)):=by
 intro pins s σ H x y v u Q I rx ry h;obtain⟨i,j,rfl,rfl,q⟩:=h;obtain⟨t,rfl⟩:=rx;obtain⟨t',rfl⟩:=ry;exact rule i j t t' s _ _ ⟨.int (g i j),H,I.tok _,⟨_,rfl⟩,q⟩
theorem zf{f:wg->wg->Sem wg}{g:Int->Int->Bool}
  (rule:∀(i j:Int)(t u:Tok)(s:wl)(Q:wg->wl->Prop)(E:wg->wl->Prop),Q (.bool (g i j)) s->wx (model X.prog X.w) X.A (f (.int i t) (.int j u)) Q E s) :
  aN X f (jc λi j=>.bl (g i j)):=by
 intro pins s σ H x y v u Q I rx ry h;obtain⟨i,j,rfl,rfl,q⟩:=h;obtain⟨t,rfl⟩:=rx;obtain⟨t',rfl⟩:=ry;exact rule i j t t' s _ _ ⟨.bl (g i j),H,I,rfl,q⟩
def Mh(i j:Int):Prop:=0<=j/\j<=1000000/\i.natAbs<2^64
theorem zCV:aN X (WC .Add) (jc λi j=>.int (i+j)):=S0 λ_ _ _ _ _ _ _ q=>add_int q
theorem jF:aN X (WC .Sub) (jc λi j=>.int (i-j)):=S0 λ_ _ _ _ _ _ _ q=>sub_int q
theorem gQ:aN X (WC .Mod) (rI (λ_ j=>0<j) λi j=>.int (i % j)):=yX λi j _ _ _ _ _ hc q=>by
 have h1:(0:Int)<j:=hc;exact mod_int' (by lia) (by rw[Int.fmod_eq_emod_of_nonneg i (by lia)];exact q)
theorem zC0:aN X (WC .Pow) (rI Mh λi j=>.int (i^j.toNat)):=yX λ_ _ _ _ _ _ _ hc q=>pow_int_small hc.1 hc.2.1 hc.2.2 q
theorem ZC{f:wg->Sem wg}{g:Int->Int}
  (rule:∀(i:Int)(t:Tok)(s:wl)(Q:wg->wl->Prop)(E:wg->wl->Prop),Q (.int (g i) s.toks) {s with toks:=s.toks+1}->wx (model X.prog X.w) X.A (f (.int i t)) Q E s) :
  BZ X f (rU λi=>.int (g i)):=by
 intro pins s σ H x v Q I rx h;obtain⟨i,rfl,q⟩:=h;obtain⟨t,rfl⟩:=rx;exact rule i t s _ _ ⟨.int (g i),H,I.tok _,⟨_,rfl⟩,q⟩
theorem gB:BZ X (unaryOp .USub) (rU λi=>.int (-i)):=ZC λ_ _ _ _ _ q=>neg_int q
end
section
variable{X:Cx}{a b c:Expr}{ta tb tc:TE}{pos:Pos}
variable{r r':R2}{op:CmpOp}
theorem Al{pins:List (we × Obj)}{σ : St}{H:Hp}{s:wl}{Q:VK}{k k':Bool}(I:Inv X pins σ H s)(q:Q (.bl k) H)(e:k=k'):EP X pins σ Q (.bool k') s:=by
 subst e;exact⟨.bl k,H,I,rfl,q⟩
theorem m6 :aN X (wT .Lt) (jc λi j=>.bl (decide (i<j))):=zf λ_ _ _ _ _ _ _ q=>lt_int q
theorem jY :aN X (wT .LtE) (jc λi j=>.bl (decide (i<=j))):=zf λ_ _ _ _ _ _ _ q=>le_int q
theorem m4 :aN X (wT .Gt) (jc λi j=>.bl (decide (j<i))):=zf λ_ _ _ _ _ _ _ q=>gt_int q
theorem DR :aN X (wT .GtE) (jc λi j=>.bl (decide (j<=i))):=zf λ_ _ _ _ _ _ _ q=>ge_int q
theorem zDq :aN X (wT .Is) (λx y H Q=>y=.a_/\Q (.bl (decide (x=.a_))) H):=by
 intro pins s σ H x y v u Q I rx ry h;obtain⟨rfl,q⟩:=h;cases ry;refine is_none_gen (Al I q ?_)
 cases x<;>first
  | (cases rx;rfl)
  | (obtain⟨t,rfl⟩:=rx;rfl)
theorem Zu :aN X (wT .IsNot) (λx y H Q=>y=.a_/\Q (.bl (!decide (x=.a_))) H):=by
 intro pins s σ H x y v u Q I rx ry h;obtain⟨rfl,q⟩:=h;cases ry;refine isnot_none_gen (Al I q ?_)
 cases x<;>first
  | (cases rx;rfl)
  | (obtain⟨t,rfl⟩:=rx;rfl)
theorem aN.or{f:wg->wg->Sem wg}(h:aN X f r)(h':aN X f r'):aN X f (λx y H Q=>r x y H Q\/r' x y H Q):=by
 intro pins s σ H x y v u Q I rx ry q;rcases q with q | q
 ·exact h pins s σ H x y v u Q I rx ry q
 ·exact h' pins s σ H x y v u Q I rx ry q
theorem bC(b:Expr)(h:op≠.In:=by decide)(h2:op≠.NotIn:=by decide):behindInMarks op b=false:=by
 have e1:(op == CmpOp.In)=false:=by cases op<;>first | rfl | exact absurd rfl h
 have e2:(op == CmpOp.NotIn)=false:=by cases op<;>first | rfl | exact absurd rfl h2
 cases b<;>simp[behindInMarks,e1,e2]
theorem e_(ho:aN X (wT op) r)(ha:PE X a ta)(hb:PE X b tb)(hm:behindInMarks op b=false):PE X (.Compare a [op] [b] pos) (lJ r ta tb):=by
 intro pins s σ H Q I h;exact wpAny_Compare1 (B_ ha hb I h λv u s2 x y H2 I2 rx ry q=>ho pins s2 σ H2 x y v u Q I2 rx ry q) hm
def Ck(t:TE):TT:=λσ H Q=>t σ H λx H'=>∃k,x=.bl k/\Q k H'
theorem bZ(ho:aN X (wT op) r)(ha:PE X a ta)(hb:PE X b tb)(hm:behindInMarks op b=false):PT X (.Compare a [op] [b] pos) (Ck (lJ r ta tb)):=by
 intro pins s σ H Q I h
 refine wpAny_isTrue_Compare1 (aJ (ha pins s σ H _ I h) λv s1 ⟨x,H1,I1,r1,q1⟩=>aJ (hb pins s1 σ H1 _ I1 q1) λu s2 ⟨y,H2,I2,r2,q2⟩ =>
  aJ (ho pins s2 σ H2 x y v u _ I2 r1 r2 q2) λc s3 ⟨z,H3,I3,r3,k,e,q3⟩=>?_) hm
 subst e;cases r3;exact Wo ⟨H3,I3,q3⟩
def FW(r r':R2)(ta tb tc:TE):TE:=λσ H Q=>ta σ H λx H1=>tb σ H1 λy H2=>r x y H2 λz H3=>∃k,z=.bl k /\
 (if k=true then tc σ H3 λw' H4=>r' y w' H4 Q else Q (.bl false) H3)
theorem LK{op':CmpOp}(ho:aN X (wT op) r)(ho':aN X (wT op') r')(ha:PE X a ta)(hb:PE X b tb)(hc:PE X c tc)
  (hm:lastMarks [op,op'] [b,c]=false:=by with_unfolding_all rfl):PE X (.Compare a [op,op'] [b,c] pos) (FW r r' ta tb tc):=by
 intro pins s σ H Q I h
 refine Compare_chain (aJ (ha pins s σ H _ I h) λv s1 ⟨x,H1,I1,r1,q1⟩=>chain_link (aJ (hb pins s1 σ H1 _ I1 q1) λu s2 ⟨y,H2,I2,r2,q2⟩ =>
  aJ (ho pins s2 σ H2 x y v u _ I2 r1 r2 q2) λd s3 ⟨z,H3,I3,r3,k,e,q3⟩=>?_)) hm
 subst e;cases r3;refine Wo ?_;cases k with
 | false=>exact ite_ff ⟨.bl false,H3,I3,rfl,q3⟩
 | true=>exact ite_tt (chain_last (aJ (hc pins s3 σ H3 _ I3 q3) λw' s4 ⟨z',H4,I4,r4,q4⟩=>ho' pins s4 σ H4 y z' u w' Q I4 r2 r4 q4))
theorem zxD{op':CmpOp}(ho:aN X (wT op) r)(ho':aN X (wT op') r')(ha:PE X a ta)(hb:PE X b tb)(hc:PE X c tc)
  (hm:lastMarks [op,op'] [b,c]=false:=by with_unfolding_all rfl):PT X (.Compare a [op,op'] [b,c] pos) (Ck (FW r r' ta tb tc)):=by
 intro pins s σ H Q I h
 refine isTrue_chain (aJ (ha pins s σ H _ I h) λv s1 ⟨x,H1,I1,r1,q1⟩=>test_link (aJ (hb pins s1 σ H1 _ I1 q1) λu s2 ⟨y,H2,I2,r2,q2⟩ =>
  aJ (ho pins s2 σ H2 x y v u _ I2 r1 r2 q2) λd s3 ⟨z,H3,I3,r3,k,e,q3⟩=>?_)) hm
 subst e;cases r3;refine Wo ?_;cases k with
 | false =>
  obtain⟨k',e',q'⟩:=q3;cases e';exact ite_ff ⟨H3,I3,q'⟩
 | true =>
  refine ite_tt (test_last (aJ (hc pins s3 σ H3 _ I3 q3) λw' s4 ⟨z',H4,I4,r4,q4⟩=>aJ (ho' pins s4 σ H4 y z' u w' _ I4 r2 r4 q4) λd' s5 ⟨z2,H5,I5,r5,k2,e2,q5⟩=>?_));subst e2;cases r5;exact Wo ⟨H5,I5,q5⟩
def B8(K:wb)(x:V)(H:Hp)(k:Bool):Prop :=
 match x with
 | .a_=>k=false
 | .bl b=>k=b
 | .int i=>k=(i != 0)
 | .str y=>y.length<=w8/\k=((y.length:Int) != 0)
 | .byt y=>y.size<=w8/\k=((y.size:Int) != 0)
 | .ref p=>(∃xs,aQ K H p xs/\k = !xs.isEmpty)\/(∃xs,aU K H p xs/\k = !xs.isEmpty) \/ ∃kvs,H p=some (.dK kvs)/\k = !kvs.isEmpty
 | _=>False
theorem Z6{κ : Type}{kvs:List (κ × V)}{vs:List (κ × wg)}(r:KV kvs vs):(!vs.isEmpty) = !kvs.isEmpty:=by
 cases r<;>rfl
theorem RX{xs:List V}{its:List wg}(r:aT xs its):(!its.toArray.isEmpty) = !xs.isEmpty:=by
 cases r<;>simp
theorem ox :(w8:Nat)<2^63:=by rw[Vw];decide
theorem zDr :ZE X (λx H Q=>∃k,B8 X.K x H k/\Q k H):=by
 intro pins s σ H x v Q I rx h;obtain⟨k,e,q⟩:=h;have hl:=ox;have hs:w8=16777216:=Vw;cases x with
 | a_ =>
  cases rx;have e':k=false:=e;subst e';exact truthy_none ⟨H,I,q⟩
 | bl b =>
  cases rx;have e':k=b:=e;subst e';exact Wo ⟨H,I,q⟩
 | int i =>
  obtain⟨t,rfl⟩:=rx;have e':k=(i != 0):=e;subst e';exact PySem.P.truthy_int ⟨H,I,q⟩
 | str y =>
  obtain⟨t,rfl⟩:=rx;obtain⟨hy,e'⟩:y.length<=w8/\k=((y.length:Int) != 0):=e;subst e';exact PySem.P.truthy_str (by lia) ⟨H,I.tok _,q⟩
 | byt y =>
  obtain⟨t,rfl⟩:=rx;obtain⟨hy,e'⟩:y.size<=w8/\k=((y.size:Int) != 0):=e;subst e';exact PySem.W.truthy_bytes (by lia) ⟨H,I.tok _,q⟩
 | ref p =>
  cases rx;have e':(∃xs,aQ X.K H p xs/\k = !xs.isEmpty)\/(∃xs,aU X.K H p xs/\k = !xs.isEmpty) \/ ∃kvs,H p=some (.dK kvs)/\k = !kvs.isEmpty:=e;rcases e' with⟨xs,hx,e'⟩ | ⟨xs,hx,e'⟩ | ⟨kvs,hx,e'⟩
  ·subst e'
   obtain⟨its,r,pl,hz⟩:=I.list hx;have hlen:=r.length;exact wpAny_truthy_list pl.isList (by simp only[wO];lia) ⟨H,I.tok _,by rw[RX r];exact q⟩
  ·subst e'
   obtain⟨its,r,pl,hz⟩:=I.tuple hx;have hlen:=r.length;exact truthy_tuple pl (by simp only[wO];lia) ⟨H,I.tok _,by rw[RX r];exact q⟩
  ·subst e'
   obtain⟨hz,hS,vs,r,m⟩:kvs.length<=w8/\(p == sysModules)=false /\ ∃vs,KV kvs vs/\s.heap.DictOf (Dj X.prog X.w) p vs:=I.aI p _ hx;have hlen:kvs.length=vs.length:=Uc r;exact wpAny_truthy_dict hS m (by lia) ⟨H,I.tok _,by rw[Z6 r];exact q⟩
 | _=>exact(show False from e).elim
theorem zzX(ha:PE X a ta)(he:∀whole,isTrue a X.env whole=(do let v <- whole;standAt a.pos;holding [v] (truthy v))) :
  PT X a (λσ H Q=>ta σ H λx H'=>∃k,B8 X.K x H' k/\Q k H'):=by
 intro pins s σ H Q I h;exact isTrue_plain (aJ (ha pins s σ H _ I h) λv s1 ⟨x,H1,I1,r1,q1⟩=>zDr pins s1 σ H1 x v Q I1 r1 q1) (he _)
theorem zuq :aN X (WC .Add) (λx y H Q=>∃i j,x=.str i/\y=.str j/\i.length+j.length<=w8/\Q (.str (i++j)) H):=by
 intro pins s σ H x y v u Q I rx ry h;obtain⟨i,j,rfl,rfl,hz,q⟩:=h;obtain⟨t,rfl⟩:=rx;obtain⟨t',rfl⟩:=ry;exact add_str (λt' tk=>⟨.str (i++j),H,I.tok _,⟨_,rfl⟩,q⟩) hz
theorem gY{x:V}{us:List wg}(r:aT [x] us):∃u,us=[u]/\bj x u:=by
 cases r with
 | cons r1 r2=>cases r2;exact⟨_,rfl,r1⟩
theorem mF{x y:V}{us:List wg}(r:aT [x,y] us):∃u w',us=[u,w']/\bj x u/\bj y w':=by
 cases r with
 | cons r1 r2 =>
  cases r2 with
  | cons r3 r4=>cases r4;exact⟨_,_,rfl,r1,r3⟩
theorem zyZ :aK X (.builtin "abs") (λxs H Q=>∃i,xs=[.int i]/\Q (.int (if i<0 then -i else i)) H):=by
 intro pins s σ H xs us Q I r h;obtain⟨i,rfl,q⟩:=h;obtain⟨u,rfl,t,rfl⟩:=gY r;exact call_abs_int λu tk=>⟨.int (if i<0 then -i else i),H,I.tok _,⟨_,rfl⟩,q⟩
theorem zxn(hc:X.calm=true):aK X (.builtin "min") (λxs H Q=>∃i j,xs=[.int i,.int j]/\Q (.int (if j<i then j else i)) H):=by
 intro pins s σ H xs us Q I r h;obtain⟨i,j,rfl,q⟩:=h;obtain⟨u,w',rfl,⟨t,rfl⟩,⟨t',rfl⟩⟩:=mF r;refine min_two_ints (I.ok.hd hc) λh' tk k=>⟨_,H,I.kept k,?_,q⟩
 by_cases hj:j<i
 ·rw[if_pos hj,if_pos hj];exact⟨_,rfl⟩
 ·rw[if_neg hj,if_neg hj];exact⟨_,rfl⟩
end
section
variable{prog:wI}{w:wJ}{A:vb}{E:wg->wl->Prop}{s:wl}{K:wb}{x dx C f:we}{mA:Str->Option wg}{name:Str}{v:wg}
end
section
variable{P:wI}{w:wJ}{H H':Hp}{h h':wG}{a C dx:we}{fs fs':List (Str × V)}
end
section
variable{X:Cx}{pins:List (we × Obj)}{σ : St}{H:Hp}{s:wl}{a C dx:we}{fs:List (Str × V)}{f:Str}{v:V}{A:vb}{E:wg->wl->Prop}
end
section
variable{X:Cx}{o e value:Expr}{f:Str}{pos pos' tpos:Pos}{ta tv:TE}
end
section
variable{X:Cx}{pins:List (we × Obj)}{σ : St}{H:Hp}{s:wl}{A:vb}{E:wg->wl->Prop}{Q:wg->wl->Prop}{c:wg}{b:Bool}
end
variable{k:Nat}{A:vb}
structure d6(k:Nat)(A:vb):Prop where
 hd:A.handled=none
 dp:A.depth+3*k+5<recursionLimit
 un:A.units+16*k+200<WD
 gd:A.guards=some []
theorem d6.mono{j:Nat}(r:d6 k A)(h:j<=k):d6 j A:=⟨r.hd,by have:=r.dp;lia,by have:=r.un;lia,by first | exact r.gd | (simp[Uq,Code.guards,Ur,guardIds];exact r.gd)⟩
theorem d6.deeper(r:d6 (k+1) A)(env:Env):d6 k (A.deeper env) :=
 ⟨r.hd,by have:=r.dp;show A.depth+1+3*k+5<_;lia,by have:=r.un;show A.units+3+16*k+200<_;lia,by first | exact r.gd | (simp[Uq,Code.guards,Ur,guardIds];exact r.gd)⟩
theorem d6.depth(r:d6 k A):A.depth<recursionLimit:=by have:=r.dp;lia
theorem d6.units(r:d6 k A):A.units+64<WD:=by have:=r.un;lia
def zo:TA:=λ_ H Q=>Q [] H
def Aw(ta:TE)(tr:TA):TA:=λσ H Q=>ta σ H λx H1=>tr σ H1 λxs H2=>Q (x::xs) H2
section
variable{X:Cx}{e:Expr}{es:List Expr}{te:TE}{t:TA}{pos:Pos}
theorem af:PA X [] zo:=λ_ _ _ _ H Q I h=>Q8 ⟨[],H,I,.nil,h⟩
theorem ae(ha:PE X e te)(hr:PA X es t)(hs:w5 (e::es) X.env=(false,eval e X.env)::w5 es X.env:=by rfl):PA X (e::es) (Aw te t):=by
 intro pos pins s σ H Q I h;rw[hs]
 show wx _ _ (spliced ((false,eval e X.env)::backTo pos (w5 es X.env))) _ _ s
 refine QY (aJ (ha pins s σ H _ I h) λu s1 ⟨x,H1,I1,r1,q1⟩=>?_);exact aJ (hr pos pins s1 σ H1 _ I1 q1) λus s2 ⟨xs,H2,I2,r2,q2⟩=>⟨x::xs,H2,I2,.cons r1 r2,q2⟩
def ZO(t:TA):TE:=λσ H Q=>t σ H λxs H1=>xs.length<=w8 /\ ∀p,H1 p=none->Q (.ref p) (upd H1 p (.tup xs))
def ZX(t:TA):TE:=λσ H Q=>t σ H λxs H1=>xs.length<=w8 /\ ∀p,H1 p=none->Q (.ref p) (upd H1 p (.lst xs))
theorem zDM{x1}(h:PA X es t):PE X (.Tuple es x1 pos) (ZO t):=by
 intro pins s σ H Q I hq;refine wpAny_Tuple_spliced (aJ (h pos pins s σ H _ I hq) λus s1 ⟨xs,H1,I1,r,z,q⟩=>⟨by rw[<- r.length];exact z,?_⟩);have hf:H1 s1.heap.objs.size=none:=I1.aI.fresh (wo _);refine⟨.ref s1.heap.objs.size,upd H1 s1.heap.objs.size (.tup xs),I1.laid (t':=s1.toks) (λb u e=>wn _ e) (wo _) ?_,rfl,q _ hf⟩;exact⟨z,us,r,⟨_,wN _ rfl,rfl,_,rfl⟩⟩
theorem zCT(h:PA X es t):PE X (.List es pos) (ZX t):=by
 intro pins s σ H Q I hq;refine wpAny_List_spliced (aJ (h pos pins s σ H _ I hq) λus s1 ⟨xs,H1,I1,r,z,q⟩=>⟨by rw[<- r.length];exact z,?_⟩);have hf:H1 s1.heap.objs.size=none:=I1.aI.fresh (wo _);refine⟨.ref s1.heap.objs.size,upd H1 s1.heap.objs.size (.lst xs),I1.laid (t':=s1.toks) (λb u e=>wn _ e) (wo _) ?_,rfl,q _ hf⟩;exact⟨z,us,0,r,wN _ rfl⟩
end
abbrev Sp:=List V->Hp->VK->XK->Prop
abbrev fV:=List Env->Hp->wl->XK->wg->wl->Prop
structure zH(P:wI)(w:wJ)(K:wb)(mg:Str->Option wg)(base:wG)(A:vb)(outer:List Env)(s:wl)(H:Hp):Prop where
 frames:A.frames=some outer
 mod:Mod K mg base
 bs:∀b o,base.get? b=some o->s.heap.get? b=some o/\H b=none
 iZ:base.objs.size<=s.heap.objs.size
 fi:s.heap.FunFrames base outer
 jl:∀b∈dZ outer,H b=none
 aI:dB P w H s.heap
 bare:AllBare s.gens
def CE(outer:List Env)(P:wI)(w:wJ)(H:Hp)(s:wl)(Q:VK)(u:wg)(s':wl):Prop :=
 ∃v H',s'.os=s.os/\AllBare s'.gens/\Un (dZ outer) [] H H' s.heap s'.heap/\dB P w H' s'.heap/\bj v u/\Q v H'
def CR(CX:fV)(outer:List Env)(P:wI)(w:wJ)(H:Hp)(s:wl)(Q:VK)(E:XK)(r:Result)(s':wl):Prop :=
 match r with
 | .ok (.ret u)=>CE outer P w H s Q u s'
 | .ok _=>False
 | .error e=>CX outer H s E e s'
structure aH(P:wI)(w:wJ)(K:wb)(mg:Str->Option wg)(base:wG)(CX:fV)(k:Nat)(f:we)(fd:wE)(ps:List Str)(sp:Sp):Prop where
 len:∀vs H Q E,sp vs H Q E->vs.length=ps.length
 run:∀(A:vb)(outer:List Env)(s:wl)(H:Hp)(args:Args)(us:List wg)(vs:List V)(Q:VK)(E:XK),d6 k A->zH P w K mg base A outer s H->BindsTo s fd args (ps.zip us)->aT vs us->sp vs H Q E ->
   codeAny (model P w) A (.call (.ref f) args) (CR CX outer P w H s Q E) s
section
variable{X:Cx}{pins:List (we × Obj)}{σ : St}{H:Hp}{s s':wl}
theorem Inv.Kv(I:Inv X pins σ H s):zH X.prog X.w X.K X.mg X.base X.A X.stack s H :=
 ⟨I.ok.frames,I.ok.mod,I.bs,Wa I.ok.iZ I.sz,I.stack,I.sF,I.aI,I.bare⟩
theorem Inv.after{Q:VK}{u:wg}(I:Inv X pins σ H s)(h:CE X.stack X.prog X.w H s Q u s'):EP X pins σ Q u s':=by
 obtain⟨v,H',os,bare,un,aI,r,q⟩:=h;obtain⟨hh,g,d,t,os'⟩:=s';obtain rfl:os'=s.os:=os;exact⟨v,H',I.call (h':=hh) (g':=g) (d':=d) (t':=t) (ch:=[]) un aI bare (λb z=>absurd z (by simp)),r,q⟩
end
def rK(sp:Sp)(dvs:List V)(E:XK)(t:TA):TE:=λσ H Q=>t σ H λvs H1=>sp (vs++dvs) H1 Q E
def lV(K:wb)(fd:wE)(ps:List Str)(ds:List wg):Prop :=
 ∀(s:wl)(us:List wg),K.In s.heap->(us++ds).length=ps.length->BindsTo s fd ⟨us,[]⟩ (ps.zip (us++ds))
theorem lV.all{K:wb}{fd:wE}{ps:List Str}(h:∀us:List wg,us.length=ps.length->bindArgs fd ⟨us,[]⟩=pure (ps.zip us)):lV K fd ps []:=λs us _ hl=>by
 rw[Wh]at hl ⊢;exact .of_eq (h us hl)
def nj(CX:fV)(X:Cx)(E:XK):Prop:=∀(pins:List (we × Obj))(σ : St)(H:Hp)(s:wl)(e:wg)(s':wl),Inv X pins σ H s->CX X.stack H s E e s'->X.xe e s'
section
variable{X:Cx}{CX:fV}{k:Nat}{f C:we}{fd:wE}{ps:List Str}{sp:Sp}{dvs:List V}{ds:List wg}{E:XK}{x m:Str}{p pos apos:Pos}{e o:Expr}{es:List Expr}{ta:TE}{t:TA}
theorem zDN{pins:List (we × Obj)}{σ : St}{H:Hp}{s:wl}{Q:VK}{us:List wg}{vs:List V}(F:aH X.prog X.w X.K X.mg X.base CX k f fd ps sp)(hr:d6 k X.A)(hb:lV X.K fd ps ds)(hd:aT dvs ds)(hx:nj CX X E)
  (I:Inv X pins σ H s) (r:aT vs us) (h:sp (vs++dvs) H Q E):wx (model X.prog X.w) X.A (call (.ref f) us) (EP X pins σ Q) X.xe s:=by
 have r2:aT (vs++dvs) (us++ds):=r.append hd;have hl:(us++ds).length=ps.length:=by rw[<- r2.length];exact F.len _ _ _ _ h
 refine wpAny_call (codeAny_mono (F.run X.A X.stack s H ⟨us,[]⟩ (us++ds) (vs++dvs) Q E hr I.Kv (hb s us I.dW hl) r2 h) λr s' hq=>?_);cases r with
 | error e=>exact hx pins σ H s e s' I hq
 | ok fl =>
  cases fl with
  | ret u=>exact I.after hq
  | next=>exact W1 hq
  | brk=>exact W1 hq
  | cont=>exact W1 hq
theorem Ny(F:aH X.prog X.w X.K X.mg X.base CX k f fd ps sp)(hr:d6 k X.A)(hg:Gl X x)(hm:X.mg x=some (.ref f))(hk:Qh X.K (.ref f)=true)(hb:lV X.K fd ps ds)(hd:aT dvs ds)(hx:nj CX X E)
  (ha:PA X (e::es) t) (hdb:(x == ("__debug__" : Str))=false:=by decide) (he:w5 (e::es) X.env=(false,eval e X.env)::w5 es X.env:=by rfl) (hpl:(backTo pos (w5 es X.env)).any (·.1)=false:=by rfl) :
  PE X (.Call (.Name x p) (e::es) [] pos) (rK sp dvs E t):=by
 intro pins s σ H Q I h;refine Qg (rF I hg hm ?_ hdb);refine XD (h₀:=X.base) I.ok.mod.rf hk (aJ (ha pos pins s σ H _ I h) λus s1 ⟨vs,H1,I1,r,q⟩=>⟨I1.dW,?_⟩) he hpl;exact zDN F hr hb hd hx I1 r q
end
section
variable{X:Cx}{CX:fV}{k:Nat}{f C:we}{fd:wE}{ps ks:List Str}{sp:Sp}{E:XK}{x m:Str}{p pos apos kpos:Pos}{e o:Expr}{es:List Expr}{kws:List Keyword}{te ta:TE}{t tk:TA}{nm:Option Str}
variable{g:List wg->List wg->List wg}{gV:List V->List V->List V}
end
variable{base:wG}{qual:Str}
structure aP(N P:List Str)(sc:Scope):Prop where
 kind:sc.kind=.function
 co:sc.isCoroutine=false
 gen:sc.isGenerator=false
 nd:N.Nodup
 pre:N.take P.length=P
 par:∀x∈P,sc.names.lookup x=some .local\/sc.names.lookup x=some .cell
 Y2:∀y∈sc.names,y.2≠.free
theorem Mc{kindOf:Str->Option W6}{x:Str} : ∀{binds:List (Str × wg)}{m:Str->Option wg},(∀v,(x,v) ∉ binds)->bindL kindOf binds m x=m x
 | [],_,_=>rfl
 | (n,v)::r,m,h=>by
  unfold bindL;rw[Mc λw hw=>h w (wy _ hw)]
  split
  ·have:x≠n:=by rintro rfl;exact h v wz
   simp[this]
  ·rfl
theorem NJ{kindOf:Str->Option W6}{x:Str} : ∀{binds:List (Str × wg)}{m:Str->Option wg},(∀v,(x,v) ∉ binds)->bindC kindOf binds m x=m x
 | [],_,_=>rfl
 | (n,v)::r,m,h=>by
  unfold bindC;rw[NJ λw hw=>h w (wy _ hw)]
  split
  ·rfl
  ·have:x≠n:=by rintro rfl;exact h v wz
   simp[this]
theorem MZ{kindOf:Str->Option W6}{x:Str}{v:wg} : ∀{P:List Str}{vs:List wg}{i:Nat}{m:Str->Option wg},P.Nodup->P[i]? = some x->vs[i]? = some v->kindOf x=some .local ->
  bindL kindOf (P.zip vs) m x=some v
 | [],_,_,_,_,h,_,_=>by simp at h
 | _::_,[],_,_,_,_,h,_=>by simp at h
 | p::P,w::vs,0,m,nd,h1,h2,hk=>by
  simp at h1 h2;subst h1;subst h2
  show bindL kindOf ((p,w)::P.zip vs) m p=_
  unfold bindL;rw[Mc λv hv=>(WW.mp nd).1 (xz hv).1,if_pos hk];simp
 | p::P,w::vs,i+1,m,nd,h1,h2,hk=>by
  show bindL kindOf ((p,w)::P.zip vs) m x=_
  unfold bindL;exact MZ (i:=i) (WW.mp nd).2 (by simpa using h1) (by simpa using h2) hk
theorem Yx{kindOf:Str->Option W6}{x:Str}{v:wg} : ∀{P:List Str}{vs:List wg}{i:Nat}{m:Str->Option wg},P.Nodup->P[i]? = some x->vs[i]? = some v->kindOf x≠some .local ->
  bindC kindOf (P.zip vs) m x=some v
 | [],_,_,_,_,h,_,_=>by simp at h
 | _::_,[],_,_,_,_,h,_=>by simp at h
 | p::P,w::vs,0,m,nd,h1,h2,hk=>by
  simp at h1 h2;subst h1;subst h2
  show bindC kindOf ((p,w)::P.zip vs) m p=_
  unfold bindC;rw[NJ λv hv=>(WW.mp nd).1 (xz hv).1,if_neg hk];simp
 | p::P,w::vs,i+1,m,nd,h1,h2,hk=>by
  show bindC kindOf ((p,w)::P.zip vs) m x=_
  unfold bindC;exact Yx (i:=i) (WW.mp nd).2 (by simpa using h1) (by simpa using h2) hk
def start(N:List Str)(vs:List V):St:=vs.map some++vc (N.length-vs.length) none
def iV(CX:fV)(P:wI)(w:wJ)(K:wb)(mg:Str->Option wg)(base:wG)(N:List Str)(qual:Str)(scope:Scope)(f:we)(cd:wg)(A:vb)(outer:List Env)(s:wl)(H:Hp)(E:XK):Cx where
 prog:=P
 w:=w
 K:=K
 mg:=mg
 base:=base
 A:=A.deeper (envOfC qual scope s.heap.objs.size f cd)
 N:=N
 s₀:=s
 H₀:=H
 env:=envOfC qual scope s.heap.objs.size f cd
 outer:=outer
 stack:=envOfC qual scope s.heap.objs.size f cd::outer
 ex:=[]
 calm:=true
 fn:=λ_=>true
 pn:=[]
 xe:=λe s'=>wx (model P w) (A.deeper (envOfC qual scope s.heap.objs.size f cd)) (leaving (envOfC qual scope s.heap.objs.size f cd) e) (λ_ s''=>CX outer H s E e s'') (λe' s''=>CX outer H s E e' s'') s'
theorem CB{sc:Scope}{n:Nat}{x:Str}(h:sc.names.lookup x=some .cell):∃c,(cellsFrom n sc.names []).lookup x=some c:=by
 have q:=xJ sc.names n [] (.inl h);exact Option.isSome_iff_exists.mp q
theorem zwG{CX:fV}{P:wI}{w:wJ}{K:wb}{mg:Str->Option wg}{N ps:List Str}{scope:Scope}{f:we}{cd:wg}{A:vb}{outer:List Env}{s s1:wl}{H:Hp}{E:XK}{us:List wg}{vs:List V}
  (S:aP N ps scope) (hd:A.handled=none) (e0:zH P w K mg base A outer s H) (hl:vs.length=ps.length) (r:aT vs us)
  (x:InCallC s s.heap.objs.size (bindL (envOfC qual scope s.heap.objs.size f cd).kindOf (ps.zip us) λ_=>none) (cellsFrom (s.heap.objs.size+1) scope.names []) (bindC (envOfC qual scope s.heap.objs.size f cd).kindOf (ps.zip us) λ_=>none) s1) :
  Inv (iV CX P w K mg base N qual scope f cd A outer s H E) [] (start N vs) H s1:=by
 have hpl:ps.length<=N.length:=by have:=congrArg xK S.pre;rw[Wq]at this;lia
 obtain⟨h1,tk,rfl,hk⟩:=x.done;have noA:∀b:we,b ∉ (iV CX P w K mg base N qual scope f cd A outer s H E).ex:=λb z=>absurd (show b∈([]:List we)from z) (by simp)
 refine⟨⟨e0.mod,S.kind,rfl,rfl,wo _,λy z c h1 h2=>?_,λy hy=>?_,λy c _ h=>?_,λ_=>hd,Around.frames_deeper e0.frames,.inr ⟨rfl,rfl⟩,λb z=>absurd z (noA b),e0.bs,e0.iZ,λb _ _=>noA b,λb z=>absurd z (noA b),e0.fi,e0.jl⟩,
  rfl,e0.bare,Un.kept hk,⟨_,x.toInCall.ns,λi y v h1 h2 h3=>?_⟩,λy c h=>⟨_,x.cell y c h⟩,e0.aI.fresh (wo _),λy c h=>?_,λp hp=>absurd (show p∈([]:List (we × Obj))from hp) (by simp),e0.aI.kept hk,?_⟩
 ·exact name_of_addr x.apart (Vo h1) (Vo h2)
 ·have hy:scope.names.lookup y=some .cell\/scope.names.lookup y=some .free:=hy
  rcases hy with hy | hy
  ·exact CB hy
  ·exact absurd rfl (S.Y2 _ (Vo hy))
 ·exact Ve (x.above y c (Vo h))
 ·have hi:i<vs.length:=by
   unfold start at h2
   by_cases hi:i<vs.length
   ·exact hi
   ·rw[vi (by simpa using hi)]at h2
    rw[xu]at h2
    split at h2<;>cases h2
  have ha:vs[i]? = some v:=by
   unfold start at h2;rw[vI (by simpa using hi),wu]at h2;cases e:vs[i]? with
   | none=>rw[e]at h2;cases h2
   | some a=>rw[e]at h2;cases h2;rfl
  obtain⟨u,hu,rv⟩:=r.get ha
  have hp:ps[i]? = some y:=by
   rw[<- S.pre,xk (by lia)];exact h1
  have ndP:ps.Nodup:=by rw[<- S.pre];exact S.nd.sublist (XW _ _)
  refine⟨u,rv,?_⟩;rcases S.par y (Qz hp)with k | k
  ·exact .inl ⟨k,MZ ndP hp hu k⟩
  ·obtain⟨c,e⟩:=CB (n:=s.heap.objs.size+1) k
   refine .inr ⟨.inl k,c,e,?_⟩;have q:=x.cell y c e;rw[Yx ndP hp hu (by show scope.names.lookup y≠_;rw[k];decide)]at q;exact q
 ·exact e0.aI.fresh (Ve (x.above y c (Vo h)))
 ·unfold start
  show _=N.length
  rw[wR,wm,Wx]
  lia
theorem Oh{CX:fV}{P:wI}{w:wJ}{K:wb}{mg:Str->Option wg}{k:Nat}{f:we}{name:Str}{params:Arguments}{body:List w9}{scope:Scope}{dV kV doc pm cdv ct oc:wg}{an od:Option we}
  {osl:Array (Option wg)} {N ps:List Str} {sp:Sp} (lk:K.lookup f=some ⟨oc,od,.func (V3 name qual params body scope dV kV doc pm an cdv ct),osl⟩) (hcd:QM K cdv qual=true) (S:aP N ps scope)
  (len:∀vs H Q E,sp vs H Q E->vs.length=ps.length)
  (hbody:∀(A:vb)(outer:List Env)(s:wl)(H:Hp)(vs:List V)(Q:VK)(E:XK),d6 k (A.deeper (envOfC qual scope s.heap.objs.size f cdv))->sp vs H Q E ->
   ∃t,fM (iV CX P w K mg base N qual scope f cdv A outer s H E) body t/\t {nx:=λ_ H'=>Q .a_ H',rt:=Q} (start N vs) H) :
  aH P w K mg base CX (k+1) f (V3 name qual params body scope dV kV doc pm an cdv ct) ps sp:=by
 refine⟨len,λA outer s H args us vs Q E hr e0 hb r hsp=>?_⟩;have hl:=len _ _ _ _ hsp;have KX:K.In s.heap:=e0.mod.rf.keeps λb o e=>(e0.bs b o e).1
 have lim:s.heap.NoLimit:=e0.mod.nolimit.keeps λb o e=>(e0.bs b o e).1
 have hkind:∀y∈ps.zip us,scope.names.lookup y.1=some .local\/(scope.names.lookup y.1=some .cell/\((cellsFrom (s.heap.objs.size+1) scope.names []).lookup y.1).isSome=true):=λ⟨n,v⟩ hy=>by
  rcases S.par n (xz hy).1 with q | q
  ·exact .inl q
  ·exact .inr ⟨q,xJ _ _ _ (.inl q)⟩
 refine codeAny_call_function hr.depth (KX _ _ lk) rfl S.co S.gen rfl (PySem.W.codeRec_of KX hcd) (hb _ _ _ _ ?_);refine wpAny_newFunctionEnv_cells S.kind hkind λenv he s1 x=>?_
 subst he;refine⟨lim.keeps x.toInCall.keep,codeAny_func ?_⟩;obtain⟨t,ht,hq⟩:=hbody A outer s H vs Q E (hr.deeper _) hsp;have I:Inv (iV CX P w K mg base N qual scope f cdv A outer s H E) [] (start N vs) H s1:=zwG S hr.hd e0 hl r x;refine WB (ht [] s1 (start N vs) H _ I hq) (λfl s' hs=>?_) λe s' hs=>hs
 have fin:∀{σ':St}{H':Hp}{v:V}{u:wg},Inv (iV CX P w K mg base N qual scope f cdv A outer s H E) [] σ' H' s'->bj v u->Q v H'->CE outer P w H s Q u s' :=
  λ{σ' H' v u} J rv q=>⟨v,H',J.os,J.bare,J.base,J.aI,rv,q⟩
 cases fl with
 | ret u =>
  obtain⟨v,σ',H',J,rv,q⟩:=hs;exact fin J rv q
 | next =>
  obtain⟨σ',H',J,q⟩:=hs;exact fin (v:=V.a_) (u:=Value.none) J rfl q
 | brk =>
  obtain⟨_,_,_,q⟩:=hs;exact W1 q
 | cont =>
  obtain⟨_,_,_,q⟩:=hs;exact W1 q
section
variable{X:Cx}{x:Str}{p pos:Pos}{e:Expr}{es:List Expr}{t:TA}{id T:String}{r:List V->Hp->VK->Prop}
def FN(r:List V->Hp->VK->Prop)(t:TA):TE:=λσ H Q=>t σ H λvs H1=>r vs H1 Q
theorem bE(hc:aK X (.builtin id) r)(hg:Gl X x)(hm:X.mg x=none)(hv:vN x=some (.builtin id))(ha:PA X (e::es) t)(hn:x≠"__name__":=by decide)(hdb:(x == ("__debug__" : Str))=false:=by decide)
  (he:w5 (e::es) X.env=(false,eval e X.env)::w5 es X.env:=by rfl) (hpl:(backTo pos (w5 es X.env)).any (·.1)=false:=by rfl):PE X (.Call (.Name x p) (e::es) [] pos) (FN r t):=by
 intro pins s σ H Q I h;refine Qg (gW I hg hm hv ?_ hn hdb);exact PyProof.Rows.callWith_builtin1 (aJ (ha pos pins s σ H _ I h) λus s1 ⟨vs,H1,I1,r1,q1⟩=>hc pins s1 σ H1 vs us Q I1 r1 q1) he hpl
theorem dY(hc:aK X (.type T) r)(hg:Gl X x)(hm:X.mg x=none)(hv:vN x=some (.type T))(ha:PA X (e::es) t)(hn:x≠"__name__":=by decide)(hdb:(x == ("__debug__" : Str))=false:=by decide)
  (he:w5 (e::es) X.env=(false,eval e X.env)::w5 es X.env:=by rfl) (hpl:(backTo pos (w5 es X.env)).any (·.1)=false:=by rfl):PE X (.Call (.Name x p) (e::es) [] pos) (FN r t):=by
 intro pins s σ H Q I h;refine Qg (gW I hg hm hv ?_ hn hdb);exact vB (aJ (ha pos pins s σ H _ I h) λus s1 ⟨vs,H1,I1,r1,q1⟩=>hc pins s1 σ H1 vs us Q I1 r1 q1) he hpl
end
section
variable{κ : Type}[DecidableEq κ]
end
abbrev KT(H:Hp):List (List Key × V)->List (List Key × we × wg)->Prop:=Paired λp q=>p.1=q.1/\H q.2.1=some (.tup (p.1.map kV))/\bj p.2 q.2.2
section
variable{P:wI}{w:wJ}{H:Hp}{h:wG}{a:we}
end
section
variable{X:Cx}{pins:List (we × Obj)}{σ : St}{H:Hp}{s:wl}{a:we}{y v:V}{u r:wg}{o:Option V}{A:vb}{E:wg->wl->Prop}
theorem Inv.big(I:Inv X pins σ H s):sysModules<s.heap.objs.size:=by
 have h:wS<s.heap.objs.size:=(I.mod.glob.keeps I.bk).lt;exact XE (by decide) h
end
section
variable{X:Cx}{pins:List (we × Obj)}{σ : St}{H:Hp}{s:wl}{a:we}{kvs:List (Key × V)}{k:Key}{u:wg}{A:vb}{E:wg->wl->Prop}
end
def Ry(i:Expr):Prop:=∀ov iv,subscripted i false ov iv=operate [ov,iv] (getItem ov iv)
theorem zBu{prog:wI}{w:wJ}{A:vb}{E:wg->wl->Prop}{s:wl}{env:Env}{value slice:Expr}{pos:Pos}{T id:String}{Q:wg->wl->Prop}
  (hl:typeLookup (.type T) "__getitem__"=pure (some (.builtin id))) (hs:Ry slice)
  (h:wx (model prog w) A (eval value env) (λo s₁=>wx (model prog w) A (eval slice env) (λi s₂=>s₂.TypeIs o T/\wx (model prog w) A (getItem o i) Q E s₂) E s₁) E s) :
  wx (model prog w) A (eval (.Subscript value slice pos) env) Q E s:=by
 refine Subscript_ (WB h (λo s₁ h₁=>WB h₁ (λi s₂ h₂=>?_) λ_ _ x=>x) λ_ _ x=>x);obtain⟨hT,h₂⟩:=h₂;unfold subscriptTail;refine wf ?_;rw[getitemInPython_of_ne hT.not_modules];refine wf (qU hT hl ?_)
 have fin:wx (model prog w) A (subscripted slice false o i) (λr s₃=>wx (model prog w) A (letTemporaryGo value o r >>= λ_=>pure r) Q E s₃) E s₂:=by
  rw[hs o i];exact wpAny_operating (WB h₂ (λr s₃ h₃=>wf (wpAny_letTemporaryGo (wp h₃))) λ_ _ x=>x)
 first
  | exact wp (wf fin)
  | exact wf (wp (wf fin))
  | exact wf fin
section
variable{X:Cx}{o i e value:Expr}{pos pos' tpos:Pos}{td ty tv:TE}
end
section
variable{X:Cx}{pos:Pos}
end
abbrev VV:List (V × V)->List (wg × wg)->Prop:=Paired λp q=>bj p.1 q.1/\bj p.2 q.2
section
variable{X:Cx}{pins:List (we × Obj)}{σ : St}{H:Hp}{s:wl}{a:we}{y d:V}{u r:wg}{o:Option V}{A:vb}{E:wg->wl->Prop}
end
section
variable{X:Cx}{o e f:Expr}{apos cpos:Pos}{td ty tx:TE}
end
section
variable{X:Cx}{pins:List (we × Obj)}{σ : St}{H:Hp}{s:wl}{a:we}{kvs:List (Key × V)}{A:vb}{E:wg->wl->Prop}
end
section
variable{X:Cx}{pins:List (we × Obj)}{σ : St}{H:Hp}{s:wl}{a:we}{y:V}{u:wg}{A:vb}{E:wg->wl->Prop}
end
end L2
namespace HT
open PySem PyProof.Rows
section
open PySem.SeqAt
open PySem.AutoSeq1 (wpAny_loadPart')
open PySem.MeetsSeq PySem.MeetsSeq2 PySem.MeetsSeq3
end
section
variable{prog:wI}{w:wJ}{A:vb}{E:wg->wl->Prop}{s:wl}
theorem YZ{t b:we}{vs ws:List wg}{Q:wg->wl->Prop}(ht:IsTup s.heap t vs.toArray)(hb:IsTup s.heap b ws.toArray)(hv:vs≠[])
  (h1:ws=[]->Q (.ref t) s) (h2:ws≠[]->Q (.ref s.heap.objs.size) {s with heap:=s.heap.push {cls:=.type "tuple",data:=.seq (vs++ws).toArray}})
  (hsz:vs.length+ws.length<=w8):wx (model prog w) A (WC .Add (.ref t) (.ref b)) Q E s:=by
 obtain⟨⟨cls,dd,data,sl⟩,ho,hc,n,hd⟩:=id ht;obtain⟨⟨cls2,dd2,data2,sl2⟩,ho2,hc2,n2,hd2⟩:=id hb;simp only at hc hd hc2 hd2;subst hc hd hc2 hd2;have e:vs.toArray++ws.toArray=(vs++ws).toArray:=by simp
 by_cases hw:ws=[]
 ·exact concat_meets ⟨_,ho,rfl⟩ ⟨_,ho2,rfl⟩ noFill_tuple_add seq_tuple_add Qr Qk (qW _ _)
   (tuple_addW1 t b vs.toArray ws.toArray n n2 dd dd2 sl sl2 (by simpa using hv) (by simp[hw])) ⟨ho,ho2,h1 hw⟩
 ·refine concat_meets ⟨_,ho,rfl⟩ ⟨_,ho2,rfl⟩ noFill_tuple_add seq_tuple_add Qr Qk (qW _ _)
   (tuple_addW2 t b vs.toArray ws.toArray n n2 dd dd2 sl sl2 (by simpa using hv) (by simpa using hw) (by rw[wO,wO];exact hsz)) ⟨ho,ho2,?_⟩
  rw[e];exact h2 hw
def aX(n d:Nat):Option Int->Nat
 | none=>d
 | some v=>if v<0 then(v+(n:Int)).toNat else min v.toNat n
theorem JO(n d:Nat):aX n d none=d:=rfl
theorem J1(n d k:Nat):aX n d (some (k:Int))=min k n:=by
 show(if(k:Int)<0 then((k:Int)+(n:Int)).toNat else min (k:Int).toNat n)=min k n
 rw[if_neg (by lia),wP]
theorem zCK(n d:Nat)(hd:d<=n)(o:Option Int):aX n d o<=n:=by
 cases o with
 | none=>exact hd
 | some v =>
  show(if v<0 then(v+(n:Int)).toNat else min v.toNat n)<=n
  by_cases hv:v<0
  ·rw[if_pos hv];lia
  ·rw[if_neg hv];exact uk _ _
theorem U9(v:Int)(n d:Nat):(if v<0 then max (v+(n:Int)) 0 else min v (n:Int))=((aX n d (some v):Nat):Int):=by
 show(if v<0 then max (v+(n:Int)) 0 else min v (n:Int))=(((if v<0 then(v+(n:Int)).toNat else min v.toNat n):Nat):Int)
 by_cases hv:v<0
 ·simp only[if_pos hv];lia
 ·simp only[if_neg hv];lia
theorem zuO(lo hi:Option Int)(n:Nat):qO lo hi 1 (n:Int)=(((aX n 0 lo:Nat):Int),((aX n n hi:Nat):Int)):=by
 have h1:¬ ((1:Int)<0):=by lia
 unfold qO;simp only[h1,if_false];refine VH ?_ ?_
 ·cases lo with
  | none=>rfl
  | some v=>exact U9 v n 0
 ·cases hi with
  | none=>rfl
  | some v=>exact U9 v n n
theorem ZZ(i j:Nat):VW (i:Int) (j:Int) 1=j-i:=by
 unfold VW;have h1:(1:Int) > 0:=by lia
 simp only[h1,if_true,Int.ediv_one]
 split<;>lia
theorem UQ{v:wg}{o:Option Int}{Q:Option Int->wl->Prop}(p:IsPart v o)(h:Q o s):wx (model prog w) A (u0 v) Q E s:=by
 cases p with
 | none=>exact slicePart_none h
 | int i t=>exact slicePart_int h
theorem zk7{sl:we}{vl vu:wg}{lo hi:Option Int}{n:Nat}{Q:Int × Int × Nat->wl->Prop}(hs:s.heap.IsSliceOf sl vl vu .none)(pl:IsPart vl lo)(pu:IsPart vu hi)
  (h:Q (((aX n 0 lo:Nat):Int),1,aX n n hi-aX n 0 lo) s):wx (model prog w) A (Q3 (.ref sl) (pure (n:Int))) Q E s:=by
 obtain⟨os,hos,hcs,hds⟩:=id hs;unfold Q3 Ul;refine wf (wf (vD hos hds (x:=vl) rfl (wf (vD hos hds (x:=vu) rfl (wf (vD hos hds (x:=.none) rfl (wp ?_)))))));refine wf (slicePart_none ?_)
 show wx _ _ (if((1:Int) == 0)=true then _ else _) _ _ s
 rw[if_neg (by decide)];refine wf (UQ pl (wf (UQ pu (wf (wp ?_)))))
 show wx _ _ (match qO lo hi 1 (n:Int)with | (lo,hi)=>pure (lo,(1:Int),VW lo hi 1)) _ _ s
 rw[zuO lo hi n]
 show wx _ _ (pure (((aX n 0 lo:Nat):Int),(1:Int),VW ((aX n 0 lo:Nat):Int) ((aX n n hi:Nat):Int) 1)) _ _ s
 rw[ZZ];exact wp h
theorem Zz(xs:Array wg)(i k:Nat):((wt k).filterMap λ(m:Nat)=>xs[((i:Int)+(m:Int)*1).toNat]?).toArray=((xs.toList.drop i).take k).toArray:=by
 have e:(λ(m:Nat)=>xs[((i:Int)+(m:Int)*1).toNat]?)=λm=>xs[i+m]?:=by
  funext m
  have:((i:Int)+(m:Int)*1).toNat=i+m:=by lia
  rw[this]
 rw[e];have:=pick_run xs i k;rw[List.filterMap_map]at this;have e2:((λx=>xs[x]?) ∘ λx=>i+x)=λm=>xs[i+m]?:=rfl
 rw[e2]at this;rw[this]
theorem YG{t sl:we}{items:Array wg}{vl vu:wg}{lo hi:Option Int}{Q:wg->wl->Prop}(ht:IsTup s.heap t items)(hs:s.heap.IsSliceOf sl vl vu .none)(pl:IsPart vl lo)(pu:IsPart vu hi)
  (hw:¬ (aX items.size 0 lo=0/\aX items.size items.size hi=items.size))
  (h:Q (.ref s.heap.objs.size) {s with heap:=s.heap.push {cls:=.type "tuple",data:=.seq ((items.toList.drop (aX items.size 0 lo)).take (aX items.size items.size hi-aX items.size 0 lo)).toArray}})
  (hsz:items.size<=w8):wx (model prog w) A (getItem (.ref t) (.ref sl)) Q E s:=by
 have htake:sizeOk (.seq ((items.toList.drop (aX items.size 0 lo)).take (aX items.size items.size hi-aX items.size 0 lo)).toArray):=by
  show((items.toList.drop (aX items.size 0 lo)).take (aX items.size items.size hi-aX items.size 0 lo)).toArray.size<=w8
  rw[wO,Wq,vR,wK]
  lia
 have hj:aX items.size items.size hi<=items.size:=zCK _ _ (wo _) hi;obtain⟨os,hos,hcs,hds⟩:=id hs;have hTs:s.TypeIs (.ref sl) "slice":=⟨os,hos,hcs⟩;unfold getItem
 try with_reducible refine Wk ?_
 first | refine wf (wp ?_) | skip
 refine wf (wpAny_sequenceKey ht.typeIs (by decide) ?_)
 refine wf (wpAny_callSpecial?_slot (name:=vW "__getitem__") ht.typeIs qh
  (Wd qh ht.typeIs entry_tuple_getitem ?_ (args_tuple_getitem _ _)))
 show wx _ _ (Q4 (.ref t) >>= _) _ _ s
 refine wf (tupleItemsOf_ ht ?_);refine wf (wpAny_typeOf hTs ?_);rw[if_pos (by decide)];refine wf (zk7 hs pl pu ?_)
 have hno:¬ ((((aX items.size 0 lo:Nat):Int) == 0&&(1:Int) == 1&&(aX items.size items.size hi-aX items.size 0 lo) == items.size)=true):=by
  intro q;rw[wZ,wZ]at q;have q1:((aX items.size 0 lo:Nat):Int)=0:=eq_of_beq q.1.1;have q2:aX items.size items.size hi-aX items.size 0 lo=items.size:=eq_of_beq q.2;exact hw ⟨by lia,by lia⟩
 show wx _ _ (if(((aX items.size 0 lo:Nat):Int) == 0&&(1:Int) == 1&&(aX items.size items.size hi-aX items.size 0 lo) == items.size)=true then _ else _) _ _ s
 rw[if_neg hno,Zz]
 first
  | exact wf (m:=V4 _) (WH (wp ⟨_,rfl,wp h⟩) htake)
  | exact wf (m:=V4 _) (WH (wf (wp (wp ⟨_,rfl,wp h⟩))) htake)
  | exact wf (wf (m:=V4 _) (WH (wp (wp ⟨_,rfl,wp h⟩)) htake))
  | exact wf (wf (m:=V4 _) (WH (wp ⟨_,rfl,wp h⟩) htake))
end
end HT
namespace L2
open PySem PySem.Spec PyProof.Rows
abbrev TO:=St->Hp->(Option Int->Hp->Prop)->Prop
def PO(X:Cx)(e:Option Expr)(t:TO):Prop :=
 ∀(pins:List (we × Obj))(s:wl)(σ : St)(H:Hp)(Q:Option Int->Hp->Prop),Inv X pins σ H s->t σ H Q ->
  wx (model X.prog X.w) X.A (evalPart e X.env) (λu s'=>∃o H',Inv X pins σ H' s'/\IsPart u o/\Q o H') X.xe s
def L4:TO:=λ_ H Q=>Q none H
def K9(t:TE):TO:=λσ H Q=>t σ H λx H1=>∃i,x=.int i/\Q (some i) H1
theorem sZ{ns:List Int} : ∀{us:List wg},aT (ns.map V.int) us->IntsAre us ns:=by
 induction ns with
 | nil=>intro us r;rw[xl]at r;cases r;exact .nil
 | cons n ns ih =>
  intro us r;rw[vd]at r;cases r with
  | cons r1 r2 =>
   obtain⟨t,e⟩:=r1;subst e;exact .cons n t (ih r2)
section
variable{X:Cx}{e:Expr}{te:TE}{lo hi:Option Expr}{tl th:TO}{pos p2:Pos}
theorem j4:PO X none L4:=by
 intro pins s σ H Q I h;rw[evalPart_none];exact wp ⟨none,H,I,.none,h⟩
theorem j3(h:PE X e te):PO X (some e) (K9 te):=by
 intro pins s σ H Q I hw;rw[evalPart_some];refine aJ (h pins s σ H _ I hw) λu s1 ⟨x,H1,I1,r1,q1⟩=>?_
 obtain⟨i,rfl,q⟩:=q1;obtain⟨t,rfl⟩:=r1;exact⟨some i,H1,I1,.int i t,q⟩
def jT(X:Cx)(r:V->Option Int->Option Int->Hp->VK->Prop):Prop :=
 ∀(pins:List (we × Obj))(s:wl)(σ : St)(H:Hp)(x:V)(v vl vu:wg)(lo hi:Option Int)(sl:we)(Q:VK),Inv X pins σ H s->bj x v->s.heap.IsSliceOf sl vl vu .none->IsPart vl lo->IsPart vu hi->r x lo hi H Q ->
  ∃T id,typeLookup (.type T) "__getitem__"=pure (some (.builtin id))/\s.TypeIs v T/\wx (model X.prog X.w) X.A (getItem v (.ref sl)) (EP X pins σ Q) X.xe s
theorem jT.or{r r':V->Option Int->Option Int->Hp->VK->Prop}(h:jT X r)(h':jT X r'):jT X (λx lo hi H Q=>r x lo hi H Q\/r' x lo hi H Q):=by
 intro pins s σ H x v vl vu lo hi sl Q I rx hs pl pu q;rcases q with q | q
 ·exact h pins s σ H x v vl vu lo hi sl Q I rx hs pl pu q
 ·exact h' pins s σ H x v vl vu lo hi sl Q I rx hs pl pu q
def NN(r:V->Option Int->Option Int->Hp->VK->Prop)(te:TE)(tl th:TO):TE:=λσ H Q=>te σ H λx H1=>tl σ H1 λl H2=>th σ H2 λu H3=>r x l u H3 Q
theorem jQ{r:V->Option Int->Option Int->Hp->VK->Prop}(hr:jT X r)(he:PE X e te)(hl:PO X lo tl)(hu:PO X hi th):PE X (.Subscript e (.Slice lo hi none p2) pos) (NN r te tl th):=by
 intro pins s σ H Q I h;refine Subscript_ (aJ (he pins s σ H _ I h) λv s1 ⟨x,H1,I1,r1,q1⟩=>?_);refine wpAny_Slice (aJ (hl pins s1 σ H1 _ I1 q1) λvl s2 ⟨l,H2,I2,pl,q2⟩=>aJ (hu pins s2 σ H2 _ I2 q2) λvu s3 ⟨u,H3,I3,pu,q3⟩=>?_);rw[evalPart_none];refine wp ?_;have I4:Inv X pins σ H3 {s3 with heap:=s3.heap.push {cls:=.type "slice",data:=.fields #[vl,vu,.none]}}:=I3.kept (t':=s3.toks) λb ob q=>wn _ q
 obtain⟨T,id,hT,ht,hg⟩:=hr pins {s3 with heap:=s3.heap.push {cls:=.type "slice",data:=.fields #[vl,vu,.none]}} σ H3 x v vl vu l u s3.heap.objs.size Q I4 r1 (Uw ..) pl pu q3
 show wx (model X.prog X.w) X.A (subscriptTail e (.Slice lo hi none p2) v (.ref s3.heap.objs.size)) (EP X pins σ Q) X.xe {s3 with heap:=s3.heap.push {cls:=.type "slice",data:=.fields #[vl,vu,.none]}}
 exact tail_any (ops:=[.ref s3.heap.objs.size,v]) ht hT hg (by with_unfolding_all rfl)
def ko(xs:List V)(lo hi:Option Int):List V:=(xs.drop (HT.aX xs.length 0 lo)).take (HT.aX xs.length xs.length hi-HT.aX xs.length 0 lo)
theorem Yy(xs:List V)(lo hi:Option Int):(ko xs lo hi).length<=xs.length:=by
 unfold ko;rw[Wq,vR]
 lia
def RV(K:wb):V->Option Int->Option Int->Hp->VK->Prop:=λx lo hi H Q=>∃a xs,x=.ref a/\aU K H a xs /\
 ¬ (HT.aX xs.length 0 lo=0/\HT.aX xs.length xs.length hi=xs.length) /\ ∀p,H p=none->Q (.ref p) (upd H p (.tup (ko xs lo hi)))
theorem Zp:jT X (RV X.K):=by
 intro pins s σ H x v vl vu lo hi sl Q I rx hs pl pu h;obtain⟨a,xs,rfl,hx,hw,q⟩:=h;cases rx;obtain⟨its,r,ht,hz⟩:=I.tuple hx;have hlen:its.toArray.size=xs.length:=by rw[wO];exact r.length.symm
 refine⟨"tuple",_,qh.lookup,ht.typeIs,?_⟩;refine HT.YG ht hs pl pu (by rw[hlen];exact hw) ?_ (by rw[hlen];exact hz);rw[hlen];refine⟨.ref s.heap.objs.size,_,I.laid (t':=s.toks) (o:=.tup (ko xs lo hi)) (λb ob q=>wn _ q) (wo _) ?_,rfl,q _ (I.aI.fresh (wo _))⟩;exact⟨Wa (Yy xs lo hi) hz,_,(r.drop (HT.aX xs.length 0 lo)).take (HT.aX xs.length xs.length hi-HT.aX xs.length 0 lo),Qx _ _⟩
def SG(K:wb):R2:=λx y H Q=>∃a b xs ys,x=.ref a/\y=.ref b/\aU K H a xs/\aU K H b ys/\xs≠[]/\xs.length+ys.length<=w8 /\
 (ys=[]->Q (.ref a) H)/\(ys≠[]->∀p,H p=none->Q (.ref p) (upd H p (.tup (xs++ys))))
theorem aT.BI{xs:List V}{us:List wg}(r:aT xs us):us=[] ↔ xs=[]:=by
 cases r with
 | nil=>simp
 | cons _ _=>simp
theorem zBJ:aN X (WC .Add) (SG X.K):=by
 intro pins s σ H x y v u Q I rx ry h;obtain⟨a,b,xs,ys,rfl,rfl,ha,hb,hx,hz,q1,q2⟩:=h;cases rx;cases ry;obtain⟨its,r1,p1,_⟩:=I.tuple ha;obtain⟨its2,r2,p2,_⟩:=I.tuple hb;refine HT.YZ p1 p2 (λz=>hx (r1.BI.mp z)) (λz=>⟨.ref a,H,I,rfl,q1 (r2.BI.mp z)⟩) (λz=>?_) (by rw[<- r1.length,<- r2.length];exact hz);refine⟨.ref s.heap.objs.size,_,I.laid (t':=s.toks) (o:=.tup (xs++ys)) (λb ob q=>wn _ q) (wo _) ?_,rfl,q2 (λw=>z (r2.BI.mpr w)) _ (I.aI.fresh (wo _))⟩;exact⟨by rw[wR];exact hz,_,r1.append r2,Qx _ _⟩
end
def iA(n:Nat)(i:Int):Option Nat:=if 0<=i then(if i<n then some i.toNat else none)else if -(n:Int)<=i then some (i+n).toNat else none
def hZ{α : Type}(xs:List α)(i:Int):Option α:=(iA xs.length i).bind λj=>xs[j]?
theorem Ym{n:Nat}{i:Int}{j:Nat}(h:iA n i=some j):seqIndex? i n=some j/\j<n /\ -(n:Int)<=i/\i<n:=by
 unfold iA at h
 by_cases h0:0<=i
 ·rw[if_pos h0]at h
  by_cases h1:i<n
  ·rw[if_pos h1]at h
   have e:i.toNat=j:=wM h;exact⟨by rw[seqIndex_of h0 h1,e],by lia,by lia,h1⟩
  ·rw[if_neg h1]at h;cases h
 ·rw[if_neg h0]at h
  by_cases h1 : -(n:Int)<=i
  ·rw[if_pos h1]at h
   have e:(i+n).toNat=j:=wM h;exact⟨by rw[seqIndex_neg (by lia) h1,e],by lia,h1,by lia⟩
  ·rw[if_neg h1]at h;cases h
theorem CP{α : Type}{xs:List α}{i:Int}{v : α}(h:hZ xs i=some v):∃j,seqIndex? i xs.length=some j/\xs[j]? = some v/\j<xs.length /\ -(xs.length:Int)<=i/\i<xs.length:=by
 unfold hZ at h;cases e:iA xs.length i with
 | none=>rw[e]at h;cases h
 | some j =>
  rw[e]at h;obtain⟨h1,h2,h3,h4⟩:=Ym e;exact⟨j,h1,h,h2,h3,h4⟩
theorem kP{α : Type}{xs:List α}{j:Nat}{v : α}(h:xs[j]? = some v):hZ xs (j:Int)=some v:=by
 have hj:j<xs.length:=(Wt.mp h).1
 have e:iA xs.length (j:Int)=some j:=by
  unfold iA;rw[if_pos (by lia),if_pos (by lia)];simp
 unfold hZ;rw[e];exact h
def zA2(b:Expr):Prop:=∀o i,subscripted b false o i=operate [o,i] (getItem o i)
def gP(X:Cx)(r:R2):Prop :=
 ∀(value slice:Expr)(pins:List (we × Obj))(s:wl)(σ : St)(H:Hp)(x y:V)(v u:wg)(Q:VK),Inv X pins σ H s->bj x v->bj y u->r x y H Q ->
  subscripted slice false v u=operate [v,u] (getItem v u)->wx (model X.prog X.w) X.A (subscriptTail value slice v u) (EP X pins σ Q) X.xe s
def M5(X:Cx)(id:String)(r:V->List V->Hp->VK->Prop):Prop :=
 ∀(pins:List (we × Obj))(s:wl)(σ : St)(H:Hp)(x:V)(xs:List V)(v:wg)(us:List wg)(Q:VK),Inv X pins σ H s->bj x v->aT xs us->r x xs H Q ->
  wx (model X.prog X.w) X.A (call (.builtin id) (v::us)) (EP X pins σ Q) X.xe s
section
variable{X:Cx}{a b:Expr}{ta tb:TE}{pos:Pos}
variable{σ:St}{H:Hp}{x:V}
theorem gP.or{r r':R2}(h:gP X r)(h':gP X r'):gP X (λx y H Q=>r x y H Q\/r' x y H Q):=by
 intro value slice pins s σ H x y v u Q I rx ry q hs;rcases q with q | q
 ·exact h value slice pins s σ H x y v u Q I rx ry q hs
 ·exact h' value slice pins s σ H x y v u Q I rx ry q hs
theorem dJ{r:R2}(hr:gP X r)(ha:PE X a ta)(hb:PE X b tb)(hs:zA2 b):PE X (.Subscript a b pos) (lJ r ta tb):=by
 intro pins s σ H Q I h;exact Subscript_ (B_ ha hb I h λv u s2 x y H2 I2 rx ry q=>hr a b pins s2 σ H2 x y v u Q I2 rx ry q (hs _ _))
def KP(K:wb):R2:=λx y H Q=>∃p xs i v,x=.ref p/\y=.int i/\aQ K H p xs/\hZ xs i=some v/\Q v H
def MM(K:wb):R2:=λx y H Q=>∃p xs i v,x=.ref p/\y=.int i/\aU K H p xs/\hZ xs i=some v/\Q v H
def Lu:R2:=λx y H Q=>∃z i c,x=.str z/\y=.int i/\z.length<=w8/\hZ z.cps.toList i=some c/\Q (.str ⟨#[c]⟩) H
theorem zBw :gP X (KP X.K):=by
 intro value slice pins s σ H x y v u Q I rx ry h hs;obtain⟨p,xs,i,z,rfl,rfl,hq,he,q⟩:=h;cases rx;obtain⟨t,rfl⟩:=ry;obtain⟨its,r,pl,hz⟩:=I.list hq;obtain⟨j,h1,h2,h3,h4,h5⟩:=CP he;obtain⟨w,ew,rw'⟩:=r.get h2;have hl:=r.length;have hn:=ox;have fin:EP X pins σ Q w s:=⟨z,H,I,rw',q⟩
 by_cases h0:0<=i
 ·have hj:i.toNat=j:=by
   rw[seqIndex_of h0 h5]at h1;exact wM h1
  exact item_listR pl.isList h0 (by lia) (by rw[hj];simpa using ew) fin hs
 ·have hj:(i+(its.toArray.size:Int)).toNat=j:=by
   rw[seqIndex_neg (by lia) h4]at h1;rw[wO,<- hl];exact wM h1
  exact subscriptTail_builtinR (x:=w) pl.isList.typeIs slot_list_getitem.lookup
   (wpAny_getItem_list_neg (Q:=λr s'=>r=w/\EP X pins σ Q r s') pl.isList (by lia) (by rw[wO]<;>lia) (by lia) (by rw[hj];simpa using ew) ⟨rfl,fin⟩) hs
theorem zCZ :gP X (MM X.K):=by
 intro value slice pins s σ H x y v u Q I rx ry h hs;obtain⟨p,xs,i,z,rfl,rfl,hq,he,q⟩:=h;cases rx;obtain⟨t,rfl⟩:=ry;obtain⟨its,r,pl,hz⟩:=I.tuple hq;obtain⟨j,h1,h2,h3,h4,h5⟩:=CP he;obtain⟨w,ew,rw'⟩:=r.get h2;have hl:=r.length;have hn:=ox;have fin:EP X pins σ Q w s:=⟨z,H,I,rw',q⟩
 exact subscriptTail_builtinR (x:=w) pl.typeIs slot_tuple_getitem.lookup
  (getItem_tuple (j:=j) (Q:=λr s'=>r=w/\EP X pins σ Q r s') pl (by lia) (by lia) (by rw[wO,<- hl];exact h1) (by simpa using ew) ⟨rfl,fin⟩) hs
theorem zDi :gP X Lu:=by
 intro value slice pins s σ H x y v u Q I rx ry h hs;obtain⟨z,i,c,rfl,rfl,hz,he,q⟩:=h;obtain⟨t,rfl⟩:=rx;obtain⟨t',rfl⟩:=ry;obtain⟨j,h1,h2,h3,h4,h5⟩:=CP he;have hl:z.cps.toList.length=z.length:=by simp[Str.length]
 rw[hl]at h1 h4 h5;have hn:=ox
 exact tail_any (typeIs_str s z t) slot_str_getitem.lookup (getItem_str (c:=c) (by
  have e1:decide (i < -(2^63:Int))=false:=decide_eq_false (by lia);have e2:decide (i ≥ 2^63)=false:=decide_eq_false (by lia);rw[e1,e2,Ud]) (by rw[h1];simpa using h2) ⟨.str ⟨#[c]⟩,H,I.tok _,⟨_,rfl⟩,q⟩) hs
def dy(K:wb):R2:=λx y H Q=>KP K x y H Q\/MM K x y H Q\/Lu x y H Q
theorem di :gP X (dy X.K):=zBw.or (zCZ.or zDi)
theorem zuF(its:List wg)(n j:Nat)(u:wg):xf (·.setIfInBounds j u) {cls:=.type "list",data:=.seq its.toArray n} = {cls:=.type "list",data:=.seq (its.set j u).toArray n}:=by
 simp[xf]
theorem Inv.lst{pins:List (we × Obj)}{s:wl}{p:we}{xs:List V}(I:Inv X pins σ H s)(h:H p=some (.lst xs)) :
  ∃(its:List wg)(n:Nat),aT xs its/\s.heap.get? p=some {cls:=.type "list",data:=.seq its.toArray n}/\xs.length<=w8:=by
 obtain⟨z,its,n,r,e⟩:=I.aI p _ h;exact⟨its,n,r,e,z⟩
theorem Inv.Y1{pins:List (we × Obj)}{s:wl}{p:we}{xs ys:List V}{its its':List wg}{n n':Nat}{f:Obj->Obj}(I:Inv X pins σ H s)(h:H p=some (.lst xs))
  (ho:s.heap.get? p=some {cls:=.type "list",data:=.seq its.toArray n}) (hf:f {cls:=.type "list",data:=.seq its.toArray n} = {cls:=.type "list",data:=.seq its'.toArray n'}) (r:aT ys its') (hz:ys.length<=w8) (t:Nat) :
  Inv X pins σ (upd H p (.lst ys)) {s with heap:=s.heap.update p f,toks:=t}:=by
 have e:(s.heap.update p f).get? p=some {cls:=.type "list",data:=.seq its'.toArray n'}:=by
  rw[VB f ho (by rw[hf]<;>rfl),hf]
 refine I.write (x:=p) (e:=p) (by rw[h];trivial) (.inl rfl) (λb u hb q=>(Qs _ _ (WE hb)).trans q) ⟨_,e⟩ ?_;exact⟨hz,its',n',r,e⟩
def NW:V->V->V->Hp->(Hp->Prop)->Prop:=λo i v H Q=>∃p xs k j,o=.ref p/\i=.int k/\H p=some (.lst xs)/\iA xs.length k=some j/\Q (upd H p (.lst (xs.set j v)))
theorem pO :Si X NW:=by
 intro pins s σ H o i v ov iv u Q I ro ri rv h;obtain⟨p,xs,k,j,rfl,rfl,hp,hj,q⟩:=h;cases ro;obtain⟨t,rfl⟩:=ri;obtain⟨its,n,r,ho,hz⟩:=I.lst hp;obtain⟨h1,h2,h3,h4⟩:=Ym hj;have hl:=r.length;have hn:=ox
 have I':Inv X pins σ (upd H p (.lst (xs.set j v))) {s with heap:=s.heap.update p (xf (·.setIfInBounds j u))} :=
  I.Y1 hp ho (zuF its n j u) (r.set rv j) (by rw[VC];exact hz) s.toks
 by_cases h0:0<=k
 ·have hk:k.toNat=j:=by
   rw[seqIndex_of h0 h4]at h1;exact wM h1
  exact PySem.W.ki_setAt ho h0 (by lia) (by rw[wO,<- hl];exact h4) (by rw[hk];exact⟨_,I',q⟩)
 ·have hk:(k+(its.toArray.size:Int)).toNat=j:=by
   rw[seqIndex_neg (by lia) h3]at h1;rw[wO,<- hl];exact wM h1
  exact PySem.W.ki_setBack ho (by lia) (by rw[wO,<- hl];exact h3) (by lia) (by rw[hk];exact⟨_,I',q⟩)
theorem zqL(lo hi:Option Int)(n:Nat):(qJ lo hi none n).1=((HT.aX n 0 lo:Nat):Int)/\(qJ lo hi none n).2.1=((HT.aX n n hi:Nat):Int)/\(qJ lo hi none n).2.2=1:=by
 refine⟨?_,?_,rfl⟩
 ·cases lo with
  | none=>simp[qJ,HT.aX]
  | some i =>
   simp only[qJ,HT.aX,ul,show(1:Int) > 0 by decide,if_true]
   by_cases h:i<0
   ·simp only[h,if_true]<;>lia
   ·simp only[h,if_false]<;>lia
 ·cases hi with
  | none=>simp[qJ,HT.aX]
  | some i =>
   simp only[qJ,HT.aX,ul,show(1:Int) > 0 by decide,if_true]
   by_cases h:i<0
   ·simp only[h,if_true]<;>lia
   ·simp only[h,if_false]<;>lia
theorem zoJ(its:List wg)(lo hi:Option Int):slicePick its.toArray lo hi none=((its.drop (HT.aX its.length 0 lo)).take (HT.aX its.length its.length hi-HT.aX its.length 0 lo)).toArray:=by
 obtain⟨h1,h2,h3⟩:=zqL lo hi its.toArray.size;unfold slicePick;rw[h1,h2,h3];simp only[sliceRange_one,pick_run,wO]<;>rfl
def Nr(K:wb):V->Option Int->Option Int->Hp->VK->Prop:=λx lo hi H Q=>∃a xs,x=.ref a/\aQ K H a xs /\ ∀p,H p=none->Q (.ref p) (upd H p (.lst (ko xs lo hi)))
theorem zz3 :jT X (Nr X.K):=by
 intro pins s σ H x v vl vu lo hi sl Q I rx hs pl pu h;obtain⟨a,xs,rfl,hx,q⟩:=h;cases rx;obtain⟨its,r,ht,hz⟩:=I.list hx;have hlen:=r.length;refine⟨"list",_,slot_list_getitem.lookup,ht.isList.typeIs,?_⟩;refine wpAny_getItem_list_slice ht.isList hs pl pu .none (by simp) ?_ (by rw[wO]<;>lia);rw[zoJ,<- hlen];refine⟨.ref s.heap.objs.size,_,I.laid (t':=s.toks) (o:=.lst (ko xs lo hi)) (λb ob q=>wn _ q) (wo _) ?_,rfl,q _ (I.aI.fresh (wo _))⟩;exact⟨Wa (Yy xs lo hi) hz,_,0,(r.drop (HT.aX xs.length 0 lo)).take (HT.aX xs.length xs.length hi-HT.aX xs.length 0 lo),wN _ rfl⟩
def kx:V->Bool
 | .a_=>true
 | .bl _=>true
 | .int _=>true
 | .str _=>true
 | _=>false
def kO:V->V->Bool
 | .a_,.a_=>true
 | .bl a,.bl b=>a == b
 | .bl a,.int b=>(if a then 1 else 0) == b
 | .int a,.bl b=>a == (if b then 1 else 0)
 | .int a,.int b=>a == b
 | .str a,.str b=>a == b
 | _,_=>false
theorem Zy{A:vb}{s:wl}{y:V}{u v:wg}(ry:bj y u)(rx:bj x v)(fy:kx y=true)(fx:kx x=true):SeqAt.EqAt A s u v (kO y x):=by
 cases y with
 | a_ =>
  cases ry;cases x with
  | a_=>cases rx;exact SeqAt.EqAt.same _
  | bl b=>cases rx;exact SeqAt.EqAt.none_bool b
  | int b=>obtain⟨t,rfl⟩:=rx;exact SeqAt.EqAt.none_int b t
  | str b=>obtain⟨t,rfl⟩:=rx;exact SeqAt.EqAt.none_str b t
  | _=>exact absurd (show false=true from fx) vF
 | bl a =>
  cases ry;cases x with
  | a_=>cases rx;exact SeqAt.EqAt.bool_none a
  | bl b=>cases rx;exact SeqAt.EqAt.bool_bool a b
  | int b=>obtain⟨t,rfl⟩:=rx;exact SeqAt.EqAt.bool_int a b t
  | str b=>obtain⟨t,rfl⟩:=rx;exact SeqAt.EqAt.bool_str a b t
  | _=>exact absurd (show false=true from fx) vF
 | int a =>
  obtain⟨t',rfl⟩:=ry;cases x with
  | a_=>cases rx;exact SeqAt.EqAt.int_none a t'
  | bl b=>cases rx;exact SeqAt.EqAt.int_bool a t' b
  | int b=>obtain⟨t,rfl⟩:=rx;exact SeqAt.EqAt.int_int a t' b t
  | str b=>obtain⟨t,rfl⟩:=rx;exact Xz a t' b t
  | _=>exact absurd (show false=true from fx) vF
 | str a =>
  obtain⟨t',rfl⟩:=ry;cases x with
  | a_=>cases rx;exact SeqAt.EqAt.str_none a t'
  | bl b=>cases rx;exact SeqAt.EqAt.str_bool a t' b
  | int b=>obtain⟨t,rfl⟩:=rx;exact XA a t' b t
  | str b=>obtain⟨t,rfl⟩:=rx;exact SeqAt.EqAt.str_str a t' b t
  | _=>exact absurd (show false=true from fx) vF
 | _=>exact absurd (show false=true from fy) vF
def fS(x:V)(u:wg):Bool:=match u with
 | .none=>kO .a_ x
 | .bool b=>kO (.bl b) x
 | .int i _=>kO (.int i) x
 | .str z _=>kO (.str z) x
 | _=>false
theorem R1{y:V}{u:wg}(r:bj y u)(f:kx y=true):fS x u=kO y x:=by
 cases y with
 | a_=>cases r;rfl
 | bl b=>cases r;rfl
 | int i=>obtain⟨t,rfl⟩:=r;rfl
 | str z=>obtain⟨t,rfl⟩:=r;rfl
 | _=>exact absurd (show false=true from f) vF
theorem rW{x:V} : ∀{xs:List V}{us:List wg},aT xs us->xs.all kx=true->us.any (fS x)=xs.any λy=>kO y x
 | _,_,.nil,_=>rfl
 | y::xs,u::us,.cons r t,f=>by
  rw[Xn,wZ]at f;rw[Qt,Qt,R1 r f.1,rW t f.2]
theorem pM{A:vb}{s:wl}{x:V}{v:wg}(rx:bj x v)(fx:kx x=true):∀{xs:List V}{us:List wg},aT xs us->xs.all kx=true->∀u∈us,SeqAt.EqAt A s u v (fS x u)
 | _,_,.nil,_=>λu hu=>by cases hu
 | y::xs,u::us,.cons r t,f=>λu' hu=>by
  rw[Xn,wZ]at f;rcases wF.mp hu with rfl | hu
  ·rw[R1 r f.1];exact Zy r rx f.1 fx
  ·exact pM rx fx t f.2 u' hu
def AV(x:V)(xs:List V):Bool:=xs.any λy=>kO y x
def lz(K:wb)(neg:Bool):R2:=λx y H Q=>∃p xs,y=.ref p/\(aQ K H p xs\/aU K H p xs)/\kx x=true/\xs.all kx=true/\Q (.bl (if neg then !AV x xs else AV x xs)) H
theorem zxp :aN X (wT .In) (lz X.K false):=by
 intro pins s σ H x y v u Q I rx ry h;obtain⟨p,xs,rfl,hq,fx,fs,q⟩:=h;cases ry;rcases hq with hq | hq
 ·obtain⟨its,r,pl,hz⟩:=I.list hq
  refine SeqAt.in_listAt (fS x) pl.isList (λw hw=>pM rx fx r fs w (by simpa using hw)) ⟨.bl _,H,I,rfl,?_⟩;rw[show its.toArray.any (fS x)=its.any (fS x) by simp,rW r fs];exact q
 ·obtain⟨its,r,pl,hz⟩:=I.tuple hq
  refine SeqAt.in_tupleAt (fS x) pl (λw hw=>pM rx fx r fs w (by simpa using hw)) ⟨.bl _,H,I,rfl,?_⟩;rw[show its.toArray.any (fS x)=its.any (fS x) by simp,rW r fs];exact q
theorem Z1 :aN X (wT .NotIn) (lz X.K true):=by
 intro pins s σ H x y v u Q I rx ry h;obtain⟨p,xs,rfl,hq,fx,fs,q⟩:=h;cases ry;rcases hq with hq | hq
 ·obtain⟨its,r,pl,hz⟩:=I.list hq
  refine SeqAt.notIn_listAt (fS x) pl.isList (λw hw=>pM rx fx r fs w (by simpa using hw)) ⟨.bl _,H,I,rfl,?_⟩;rw[show its.toArray.any (fS x)=its.any (fS x) by simp,rW r fs];exact q
 ·obtain⟨its,r,pl,hz⟩:=I.tuple hq
  refine SeqAt.notIn_tupleAt (fS x) pl (λw hw=>pM rx fx r fs w (by simpa using hw)) ⟨.bl _,H,I,rfl,?_⟩;rw[show its.toArray.any (fS x)=its.any (fS x) by simp,rW r fs];exact q
theorem zru :aK X (.builtin "len") (λxs H Q=>∃p ys,xs=[.ref p]/\(aQ X.K H p ys\/aU X.K H p ys)/\Q (.int ys.length) H):=by
 intro pins s σ H xs us Q I r h;obtain⟨p,ys,rfl,hq,q⟩:=h;obtain⟨u,rfl,rx⟩:=gY r;cases rx;have hn:=ox;rcases hq with hq | hq
 ·obtain⟨its,r',pl,hz⟩:=I.list hq
  have hlen:=r'.length;exact Calls.call_len_list pl.isList (by simp only[wO]<;>lia) ⟨.int ys.length,H,I.tok _,⟨s.toks+1,by rw[wO,hlen]⟩,q⟩
 ·obtain⟨its,r',pl,hz⟩:=I.tuple hq
  have hlen:=r'.length;exact len_tuple pl (by simp only[wO]<;>lia) ⟨.int ys.length,H,I.tok _,⟨s.toks+1,by rw[wO,hlen]⟩,q⟩
theorem zql :aK X (.type "list") (λxs H Q=>∃p ys,xs=[.ref p]/\(aQ X.K H p ys\/aU X.K H p ys) /\ ∀l,H l=none->Q (.ref l) (upd H l (.lst ys))):=by
 intro pins s σ H xs us Q I r h;obtain⟨p,ys,rfl,hq,q⟩:=h;obtain⟨u,rfl,rx⟩:=gY r;cases rx
 have fin:∀(its:List wg),aT ys its->ys.length<=w8->∀(h':wG)(c':Nat),(∀b o',s.heap.get? b=some o'->h'.get? b=some o') ->
     h'.get? s.heap.objs.size=some {cls:=.type "list",dict:=none,data:=.seq its.toArray c',slots:=#[]}->EP X pins σ Q (.ref s.heap.objs.size) {s with heap:=h'}:=λits r' hz h' c' kp e =>
   ⟨.ref s.heap.objs.size,_,I.laid (t':=s.toks) kp (wo _) (show dQ X.prog X.w _ h' _ (.lst ys)from⟨hz,its,c',r',e⟩),rfl,q _ (I.aI.fresh (wo _))⟩
 rcases hq with hq | hq
 . obtain⟨its,r',pl,hz⟩:=I.list hq
   have hlen:=r'.length;obtain⟨o,ho,hc,n,hd⟩:=pl.isList;exact call_list_seq p (.inl rfl) ho hc hd (λh' c' kp e=>fin its r' hz h' c' kp e) (by simp only[wO]<;>lia)
 . obtain⟨its,r',pl,hz⟩:=I.tuple hq
   have hlen:=r'.length;obtain⟨o,ho,hc,n,hd⟩:=pl;exact call_list_seq p (.inr rfl) ho hc hd (λh' c' kp e=>fin its r' hz h' c' kp e) (by simp only[wO]<;>lia)
theorem zoz :aK X (.type "tuple") (λxs H Q=>∃p ys,xs=[.ref p]/\((aQ X.K H p ys /\ ∀l,H l=none->Q (.ref l) (upd H l (.tup ys)))\/(aU X.K H p ys/\Q (.ref p) H))):=by
 intro pins s σ H xs us Q I r h;obtain⟨p,ys,rfl,h⟩:=h;obtain⟨u,rfl,rx⟩:=gY r;cases rx;rcases h with⟨hq,q⟩ | ⟨hq,q⟩
 ·obtain⟨its,r',pl,hz⟩:=I.list hq
  have hlen:=r'.length;refine call_tuple_list pl.isList (λh' kp=>?_) (by simp only[wO]<;>lia);have I1:Inv X pins σ H {s with heap:=h'}:=I.kept (t':=s.toks) kp
  have I2:Inv X pins σ (upd H h'.objs.size (.tup ys)) {s with heap:=h'.push {cls:=.type "tuple",data:=.seq its.toArray}} :=
   I1.laid (t':=s.toks) (λb o e=>wn _ e) (wo _) (show dQ X.prog X.w _ _ _ (.tup ys)from⟨hz,its,r',Qx _ _⟩)
  exact⟨.ref h'.objs.size,_,I2,rfl,q _ (I1.aI.fresh (wo _))⟩
 ·obtain⟨its,r',pl,hz⟩:=I.tuple hq
  exact call_tuple_same pl ⟨.ref p,H,I,rfl,q⟩
def zb(K:wb)(T:String)(x:V)(H:Hp):Prop:=match x with
 | .str _=>T="str"
 | .int _=>T="int"
 | .ref p=>(T="list" /\ ∃xs,aQ K H p xs)\/(T="tuple" /\ ∃o,K.lookup p=some o/\o.cls=.type "tuple"/\o.dict=none) \/
     (T="dict"/\((∃kvs,H p=some (.dK kvs)) \/ ∃kvs,H p=some (.dT kvs)))\/(T="set" /\ ∃S n,H p=some (.set S n))
 | _=>False
theorem zCD{pins:List (we × Obj)}{s:wl}{T:String}{v:wg}(I:Inv X pins σ H s)(r:bj x v)(ty:zb X.K T x H) :
  s.TypeIs v T /\ ∀a,v=.ref a->∃ob,s.heap.get? a=some ob/\ob.dict=none:=by
 cases x with
 | str z =>
  obtain⟨t,rfl⟩:=r;cases (show T="str" from ty);exact⟨typeIs_str s z t,λ_ e=>nomatch e⟩
 | int i =>
  obtain⟨t,rfl⟩:=r;cases (show T="int" from ty);exact⟨typeIs_int s i t,λ_ e=>nomatch e⟩
 | ref p =>
  cases r;rcases ty with⟨rfl,xs,hq⟩ | ⟨rfl,o,hk,hc,hd⟩ | ⟨rfl,hk⟩ | ⟨rfl,S,n,hk⟩
  ·obtain⟨its,_,pl,_⟩:=I.list hq
   refine⟨pl.isList.typeIs,λa e=>?_⟩;cases e;obtain⟨o,n,e,c,hd,_⟩:=pl;exact⟨o,e,hd⟩
  ·refine⟨⟨o,I.dW p o hk,hc⟩,λa e=>?_⟩
   cases e;exact⟨o,I.dW _ o hk,hd⟩
  ·have z:∃o,s.heap.get? p=some o/\o.ExactDict:=by
    rcases hk with⟨kvs,hk⟩ | ⟨kvs,hk⟩
    ·obtain⟨_,_,_,_,o,_,_,e,ex,_⟩:=I.aI p _ hk
     exact⟨o,e,ex⟩
    ·obtain⟨_,_,_,_,o,_,_,e,ex,_⟩:=I.aI p _ hk
     exact⟨o,e,ex⟩
   obtain⟨o,e,ex⟩:=z;refine⟨⟨o,e,ex.1⟩,λa e2=>?_⟩;cases e2;exact⟨o,e,ex.2.1⟩
  ·obtain⟨o,_,_,_,e,ex,_⟩:=I.aI p _ hk
   refine⟨⟨o,e,ex.1⟩,λa e2=>?_⟩;cases e2;exact⟨o,e,ex.2.1⟩
 | _=>exact W1 ty
def Oo(K:wb)(T:String)(r:V->List V->Hp->VK->Prop)(to:TE)(t:TA):TE:=λσ H Q=>to σ H λx H1=>zb K T x H1/\t σ H1 λxs H2=>r x xs H2 Q
variable{o e:Expr}{es:List Expr}{to:TE}{t:TA}{name:Str}{apos cpos:Pos}{T id:String}{r:V->List V->Hp->VK->Prop}
theorem nR(pa:PlainAttrs T)(slot:Slot T name id)(hty:typeOf (.builtin id)=pure (.type "method_descriptor"))(hm:M5 X id r)(ho:PE X o to)(ha:PA X (e::es) t)
  (hbase:attributeBase o name X.env (eval o X.env)=eval o X.env:=by rfl)
  (hfew:((backTo cpos (w5 (e::es) X.env)).all (λx=>!x.1)&&(backToKw cpos (keywordEach [] X.env)).all (λx=>x.1.isSome)
   && decide ((e::es).length+([]:List Keyword).length+(if([]:List Keyword).isEmpty then 0 else 1)<30))=true:=by rfl)
  (hline:(apos.endLine == cpos.line)=true:=by rfl) (hs:w5 (e::es) X.env=(false,eval e X.env)::w5 es X.env:=by rfl) (hplain:(backTo cpos (w5 es X.env)).any (·.1)=false:=by rfl) :
  PE X (.Call (.Attribute o name apos) (e::es) [] cpos) (Oo X.K T r to t):=by
 intro pins s σ H Q I h;refine wpAny_Call_method_late hbase hfew hline rfl (aJ (ho pins s σ H _ I h) λv s1 ⟨x,H1,I1,r1,ty,q1⟩=>?_);obtain⟨h1,h2⟩:=zCD I1 r1 ty;refine⟨T,id,pa,slot,hty,h1,h2,?_⟩;have hA:=ha cpos pins s1 σ H1 _ I1 q1;rw[hs]at hA ⊢;refine Calls.callWith_builtin (by show(false || (backTo cpos (w5 es X.env)).any (·.1))=false;rw[hplain]<;>rfl) (Xf ?_);exact aJ hA λus s2 ⟨vs,H2,I2,r2,q2⟩=>hm pins s2 σ H2 x vs v us Q I2 r1 r2 q2
end
def MtM(X:Cx)(id:String)(r:V->List V->Hp->VK->Prop):Prop :=
 ∀(pins:List (we × Obj))(s:wl)(σ : St)(H:Hp)(x:V)(xs:List V)(v:wg)(us:List wg)(Q:VK),Inv X pins σ H s->bj x v->aT xs us->r x xs H Q ->
  wx (model X.prog X.w) X.A (call (.builtin id) (v::us)) (EP X pins σ Q) X.xe s
theorem aT.one:∀{x:V}{us:List wg},aT [x] us->∃u,us=[u]/\bj x u
 | _,_,.cons r .nil=>⟨_,rfl,r⟩
theorem aT.rep{xs:List V}{us:List wg}(h:aT xs us):∀k:Nat,aT (vc k xs).flatten (vc k us).flatten
 | 0=>.nil
 | k+1=>by
  rw[qd,qd,VM,VM];exact aT.append h (aT.rep h k)
theorem RM(its:List wg):∀(k:Nat)(acc:List wg),
  uE (λx1 x2=>x1++x2) acc.toArray (vc k its.toArray)=(acc++(vc k its).flatten).toArray
 | 0,acc=>by simp
 | k+1,acc=>by
  have e:acc.toArray++its.toArray=(acc++its).toArray:=by simp
  have e2:(acc++its)++(vc k its).flatten=acc++(vc (k+1) its).flatten:=by
   rw[qd,VM,Vh]
  rw[<- e2,<- RM its k (acc++its),<- e,qd,uF]
section
variable{X:Cx}{pins:List (we × Obj)}{σ : St}{H:Hp}{s:wl}{l b:we}{xs ys zs:List V}
theorem Inv.Zc{its its':List wg}{n:Nat}{f:Array wg->Array wg}{t':Nat}(I:Inv X pins σ H s)(hH:H l=some (.lst xs))
  (e:s.heap.get? l=some {cls:=.type "list",data:=.seq its.toArray n}) (hf:f its.toArray=its'.toArray) (hv:aT ys its') (hz:ys.length<=w8) :
  Inv X pins σ (upd H l (.lst ys)) {s with heap:=s.heap.update l (xf f),toks:=t'}:=by
 have q:=PySem.IsL.update e f;rw[hf]at q;refine I.write (x:=l) (e:=l) (by rw[hH];exact trivial) (.inl rfl) (λb' u hb hu=>(Qs s.heap (xf f) (WE hb)).trans hu) ⟨_,q⟩ ?_;exact⟨hz,its',_,hv,q⟩
theorem Inv.BN{its:List wg}{t':Nat}(I:Inv X pins σ H s)(hv:aT ys its)(hz:ys.length<=w8) :
  Inv X pins σ (upd H s.heap.objs.size (.lst ys)) {s with heap:=s.heap.push {cls:=.type "list",data:=.seq its.toArray},toks:=t'} :=
 I.laid (λ_ _ q=>wn _ q) (wo _) ⟨hz,its,0,hv,wN _ rfl⟩
theorem Inv.fresh(I:Inv X pins σ H s):H s.heap.objs.size=none:=I.aI.fresh (wo _)
theorem Inv.sO(I:Inv X pins σ H s)(hH:H l=some (.lst xs)):xs.length<=w8 /\ ∃(its:List wg)(n:Nat),aT xs its/\xs.length=its.length/\s.heap.get? l=some {cls:=.type "list",data:=.seq its.toArray n}:=by
 obtain⟨z,its,n,r,e⟩:=I.aI l _ hH;exact⟨z,its,n,r,r.length,e⟩
theorem Z9{n:Nat}(h:n<=w8):qX n=false:=by
 unfold qX;exact decide_eq_false (by lia)
end
section
variable{X:Cx}
def N4:V->List V->Hp->VK->Prop:=λx vs H Q=>∃l xs y,x=.ref l/\vs=[y]/\H l=some (.lst xs)/\xs.length<w8/\Q .a_ (upd H l (.lst (xs++[y])))
theorem mf:MtM X "list.append" N4:=by
 intro pins s σ H x vs v us Q I rx rv h;obtain⟨l,xs,y,rfl,rfl,hH,hz,q⟩:=h;cases rx;obtain⟨u,rfl,ru⟩:=rv.one;obtain⟨z,its,n,r,hl,e⟩:=I.sO hH;refine call_meets F.slot_list_append ⟨_,e,rfl⟩ F.entry_list_append (F.args_list_append_2 _ _) (PySem.list_append l its.toArray n u (by rw[wO];lia)) ⟨e,?_⟩;refine⟨.a_,_,I.Zc (its':=its++[u]) hH e (by simp) (r.append (.cons ru .nil)) ?_,rfl,q⟩;rw[wR,vV]
 lia
def DN:R2:=λx y H Q=>∃l b xs zs,x=.ref l/\y=.ref b/\H l=some (.lst xs)/\H b=some (.lst zs)/\xs.length+zs.length<=w8 /\ ∀p,H p=none->Q (.ref p) (upd H p (.lst (xs++zs)))
theorem zC4:aN X (WC .Add) DN:=by
 intro pins s σ H x y v u Q I rx ry h;obtain⟨l,b,xs,zs,rfl,rfl,hH,hB,hz,q⟩:=h;cases rx;cases ry;obtain⟨z,its,n,r,hl,e⟩:=I.sO hH;obtain⟨z2,its2,n2,r2,hl2,e2⟩:=I.sO hB;refine PySem.P.add_list e e2 ?_ (by rw[wO,wO];lia);have ea:its.toArray++its2.toArray=(its++its2).toArray:=by simp
 rw[ea];exact⟨.ref _,_,I.BN (t':=s.toks) (r.append r2) (by rw[wR];lia),rfl,q _ I.fresh⟩
def rL:R2:=λx y H Q=>∃l k xs,x=.ref l/\y=.int k/\H l=some (.lst xs) /\ -(2^63)<=k/\k<2^63/\xs.length*k.toNat<=w8 /\
 ∀p,H p=none->Q (.ref p) (upd H p (.lst (vc k.toNat xs).flatten))
theorem zAz{α : Type}(xs:List α)(k:Nat):(vc k xs).flatten.length=k*xs.length:=by
 induction k with
 | zero=>simp
 | succ k ih=>rw[qd,VM,wR,ih,qB,QC]
theorem NA:aN X (WC .Mult) rL:=by
 intro pins s σ H x y v u Q I rx ry h;obtain⟨l,k,xs,rfl,rfl,hH,h1,h2,hz,q⟩:=h;cases rx;obtain⟨t,rfl⟩:=ry;obtain⟨z,its,n,r,hl,e⟩:=I.sO hH;have hlen:its.toArray.size*k.toNat<=w8:=by rw[wO,<- hl];exact hz
 have hcap:¬ its.toArray.size*k.toNat > (2^63-1) / 8:=by
  have:(w8:Nat)<=(2^63-1) / 8:=by decide
  lia
 have hfit:¬ (!Builtin.List.listFitsIndex k)=true:=by
  rw[fitsIndex_both h1 h2];exact vF
 have hlong:¬ qX (its.toArray.size*k.toNat)=true:=by
  rw[Z9 hlen];exact vF
 have hnew:uE (λx1 x2=>x1++x2) #[] (vc (if its.toArray.isEmpty=true then 0 else k.toNat) its.toArray)=(vc k.toNat its).flatten.toArray:=by
  have f0:∀m:Nat,uE (λx1 x2=>x1++x2) #[] (vc m its.toArray)=(vc m its).flatten.toArray:=λm=>by
   have:=RM its m [];rw[QD]at this;exact this
  rw[f0];cases its with
  | nil=>simp
  | cons a r'=>rw[if_neg (by simp)]
 refine wpAny_binaryOp_repeat_ref (T:="list") (U:="int") (by decide) ⟨_,e,rfl⟩ (λs'=>typeIs_int s' k t) noFill_list_mul F.fills_int_mul uG repeat_list F.slot_int_index.lookup
  (call_meets uG (typeIs_int s k t) F.entry_int_rmul (F.args_int_rmul_2 _ _) (int___rmul___int_list k t l its.toArray n)
   ⟨e,rfl,⟨_,e,rfl⟩,call_meets F.slot_list_mul ⟨_,e,rfl⟩ F.entry_list_mul (F.args_list_mul_2 _ _) (AutoListH.list___mul___list_int_3 l its.toArray n k t hfit hcap hlong) ⟨e,?_⟩⟩)
 rw[hnew];exact⟨.ref _,_,I.BN (t':=s.toks) (r.rep k.toNat) (by rw[zAz,V5];exact hz),rfl,q _ I.fresh⟩
end
section
variable{prog:wI}{w:wJ}{A:vb}{E:wg->wl->Prop}{s:wl}
end
section
variable{X:Cx}
end
end L2
namespace Att
open PySem PySem.W PySem.Calls PyProof.Rows
theorem zmx{P:Params}{h:wG} : ∀(ns:List Int)(vs:List wg),WellAll P h vs (ns.map WData.int)->IntsAre vs ns:=by
 intro ns
 induction ns with
 | nil =>
  intro vs w;rw[xl]at w;cases w;exact .nil
 | cons n ns ih =>
  intro vs w;rw[vd]at w;cases w with
  | cons a b =>
   cases a;exact .cons _ _ (ih _ b)
theorem zwX{l:OpenLaw}{n:Nat}(hn:l.most=some n){P:Params}{h:wG}{args:List WData}{vals:List wg}
  (hpre:l.row.toRowW.claim.pre args=true) (hwl:WellAll P h vals args) :
  ∃a vs ns,vals=[Value.ref a]/\args=[WData.list (ns.map WData.int)]/\h.get? a=some {cls:=.type "list",data:=.seq vs.toArray}/\IntsAre vs ns/\ns.length<=n:=by
 have hsh:WShape.hasAll [] args [.list .int]=true:=(pre_splitW hpre).1;have hc:l.pre.holds [] {args:=args}=true:=(pre_splitW hpre).2;obtain⟨d,r,rfl,h1,h2⟩:=hasAllW_cons hsh;obtain rfl:=hasAllW_nil h2;obtain⟨xs,rfl,h3⟩:=hasW_list h1;obtain⟨ns,rfl⟩:=items_int h3
 have hlen:ns.length<=n:=by
  unfold OpenLaw.pre at hc
  have h4:(WTm.not (.lt (.lit (.int (n:Int))) (.len (.arg 0)))).holds [] {args:=[.list (ns.map .int)]}=true:=by
   have h4:=(holds_andW hc).1;rw[hn]at h4;exact h4
  have h5:=condW_of h4 (w_not (w_lt w_lit (w_len_list (w_arg rfl))));rw[wm]at h5;refine Nat.le_of_not_lt λq=>?_
  have q':(n:Int)<((ns.length:Nat):Int):=by lia
  first
   | (rw[decide_eq_true q']at h5;exact absurd h5 (by decide))
   | (simp at h5;lia)
 cases hwl with
 | cons w1 w2 =>
  cases w2;cases w1 with
  | list ho hall=>exact⟨_,_,ns,rfl,rfl,ho,zmx ns _ hall,hlen⟩
theorem zxw(l:OpenLaw)(args:List WData):l.row.toRowW.claim.post args (.bool true) args=true :=
 postW_of (r:=l.row.toRowW) (X:=(true == true))
  (show WShape.has [] (.bool true) .bool=true by first | rfl | decide | simp[WShape.has,WShape.arms,WShape.armsAll])
  (show(WTm.eq .res (.lit (.bool true))).value [] {args:=args,res:=some (.bool true),after:=args}=some (.bool (true == true))from w_eq_bool (w_res rfl) w_lit) rfl
theorem YN{l:OpenLaw}{n:Nat}{q:wI}{loose:List Str}{XP:(Str->Option wg)->wG->Prop}{YP:wJ->wG->Prop}{d:DefRec}
  (hn:l.most=some n) (hdf:d.params.defaults=[])
  (call:∀(w:wJ)(s₀ s₁ : wl)(mg mb:Str->Option wg)(fa:we)(o:Obj)(pm cd doc:wg)(a:we)(vs:List wg)(ns:List Int),
   Ground q loose [] XP w s₀ mg mb s₁.heap->YP w s₁.heap ->
   s₁.heap.get? fa=some o->o.data=.func (docDef d.name d.params d.body d.scope pm cd doc)->s₁.heap.CodeRec cd d.name->mg d.name=some (.ref fa) ->
   s₁.heap.get? a=some {cls:=.type "list",data:=.seq vs.toArray}->IntsAre vs ns->ns.length<=n->s₁.gens = #[] ->
   codeAny (model l.prog w) callerA (.call (.ref fa) ⟨[.ref a],[]⟩) (λr s'=>r=.ok (.ret (.bool true))/\OldK s₁.heap s'.heap/\s'.os=s₁.os/\AllBare s'.gens) s₁) :
  WalkO q loose XP YP l.row.toRowW d [] (λf vs=>uH f vs):=by
 intro w s₀ s₁ mg mb G Y fa o pm cd doc dV kV ho hd hcd hD hmg hg args vals as hpre hlay hrd hwl hlo;obtain rfl:dV=.none:=Dflts.none hD hdf;obtain rfl:kV=.none:=Dflts.noKw hD;obtain⟨a,vs,ns,rfl,rfl,hobj,hints,hlen⟩:=zwX hn hpre hwl;refine enter_call (codeAny_mono (call w s₀ s₁ mg mb fa o pm cd doc a vs ns G Y ho (fd_plain hd) hcd hmg hobj hints hlen hg) λr s' hq=>?_);obtain⟨rfl,h2,h3,h4⟩:=hq;exact⟨.inl ⟨.bool true,.bool true,[],rfl,λ_=>rfl,.bool true,zxw l _,λ_=>⟨Q5.nil,λ_ hm=>(nomatch hm)⟩⟩,h2,h3,h4⟩
section
variable{prog:wI}{w:wJ}{A:vb}{E:wg->wl->Prop}{s:wl}{K:Frag}
def zE0(h:wG)(L d:we):List (we × Obj):=(wt h.objs.size).filterMap λa=>if a=L\/a=d then none else(h.get? a).map λo=>(a,o)
end
end Att
namespace L2
open PySem PySem.Spec PyProof.Rows
theorem Nj:∀{vs:List wg}{ns:List Int},IntsAre vs ns->aT (ns.map V.int) vs
 | _,_,.nil=>.nil
 | _,_,.cons n t h=>.cons ⟨t,rfl⟩ (Nj h)
def yw(H:Hp):Prop:=∀b,H b=none \/ ∃o xs,H b=some (.gC o (.lst xs))
theorem zyP{P:wI}{w:wJ}{K:wb}{mg mb:Str->Option wg}{CX:fV}{k:Nat}{fa a:we}{fd:wE}{x:Str}{sp:Sp}{s₁ : wl}{vs:List wg}{ns:List Int}
   (KX:K.In s₁.heap) (hns:s₁.heap.Ns wS mg) (hb:s₁.heap.Ns builtinsNs mb) (hbb:∀x:Str,x≠"__name__" -> mb x=vN x) (hlim:s₁.heap.NoLimit) (hg:s₁.gens = #[])
   (ha:s₁.heap.get? a=some {cls:=.type "list",data:=.seq vs.toArray}) (hi:IntsAre vs ns) (hl:ns.length<=w8) (hr:d6 k callerA)
   (F:∀base:wG,K.In base->base.Ns wS mg->aH P w K mg base CX k fa fd [x] sp) (hbind:∀(s:wl)(u:wg),BindsTo s fd ⟨[u],[]⟩ [(x,u)])
   (hsp:∀H:Hp,yw H->aQ K H a (ns.map V.int)->sp [.ref a] H (λv _=>v=.bl true) λ_ _ _=>False)
   (hCX:∀H e s',CX [] H s₁ (λ_ _ _=>False) e s'->False) :
   codeAny (model P w) callerA (.call (.ref fa) ⟨[.ref a],[]⟩) (λr s'=>r=.ok (.ret (.bool true))/\OldK s₁.heap s'.heap/\s'.os=s₁.os/\AllBare s'.gens) s₁:=by
 have rv:=Nj hi;have lenV:=hi.length
 have core:∀H:Hp,yw H->aQ K H a (ns.map V.int)->dB P w H s₁.heap->(∀b,H b≠none->b=a)->(H a≠none->K.lookup a=none) ->
     codeAny (model P w) callerA (.call (.ref fa) ⟨[.ref a],[]⟩) (λr s'=>r=.ok (.ret (.bool true))/\OldK s₁.heap s'.heap/\s'.os=s₁.os/\AllBare s'.gens) s₁:=by
   intro H hO hS aI hA hK;have base_of:∀{b:we}{o:Obj},s₁.heap.get? b=some o->H b=none->(jV s₁.heap H).get? b=some o:=λe n=>ZU e n
   have noA:∀{b:we}{o:Obj}{es:Array DictEntry}{ep:Nat},s₁.heap.get? b=some o->o.data=.dict es ep->H b=none:=λ{b o es ep} e d=>by
     cases q:H b with
     | none=>rfl
     | some u =>
       have e':b=a:=hA b (by rw[q];simp);subst e';rw[ha]at e;cases e;have d':Data.seq vs.toArray _=Data.dict es ep:=d;cases d'
   have nsK:∀{b:we}{m:Str->Option wg},s₁.heap.Ns b m->(jV s₁.heap H).Ns b m:=λ{b m} ⟨o,es,ep,e,d,r⟩=>⟨o,es,ep,base_of e (noA e d),d,r⟩
   have hKb:K.In (jV s₁.heap H):=λb o e=>base_of (KX b o e) (by
     cases q:H b with
     | none=>rfl
     | some u =>
       have e':b=a:=hA b (by rw[q];simp);subst e';rw[hK (by rw[q];simp)]at e;cases e)
   have hM:Mod K mg (jV s₁.heap H):=⟨hKb,nsK hns,⟨mb,nsK hb,hbb⟩,let ⟨mc,h1,h2⟩:=hlim;⟨mc,nsK h1,h2⟩⟩;have e0:zH P w K mg (jV s₁.heap H) callerA [] s₁ H:=⟨rfl,hM,λb o e=>zA1 e,Nat.le_of_eq (ZR _ _),trivial,λb hb=>absurd (show b∈([]:List we)from hb) (by simp),aI,.of_eq hg⟩;refine codeAny_mono ((F _ hKb (nsK hns)).run callerA [] s₁ H ⟨[.ref a],[]⟩ [.ref a] [.ref a] _ _ hr e0 (hbind s₁ (.ref a)) (.cons rfl .nil) (hsp H hO hS)) λr s' h=>?_
   cases r with
   | error e=>exact(hCX H e s' h).elim
   | ok fl =>
     cases fl with
     | next=>exact W1 h
     | brk=>exact W1 h
     | cont=>exact W1 h
     | ret u =>
       obtain⟨v,H',os,bare,un,hok',r',q⟩:=h;have q':v=.bl true:=q;subst q';obtain rfl:u=Value.bool true:=r';refine⟨rfl,OldK.of_keep λb o e=>?_,os,bare⟩;cases q:H b with
       | none=>exact un.keep b o e q (by intro z;exact absurd (show b∈([]:List we)from z) (by simp)) (by simp)
       | some u =>
         rcases hO b with z | ⟨ob,xs,z⟩
         . rw[q]at z;cases z
         . have z2:=un.hJ b ob _ z
           obtain⟨e1,_⟩:=aI b _ z;obtain⟨e2,_⟩:=hok' b _ z2;rw[e]at e1;cases e1;exact e2
 cases hk:K.lookup a with
 | some o =>
   have e:=KX a o hk;rw[ha]at e;cases e;refine core (λ_=>none) (λ_=>.inl rfl) (.inr ⟨_,vs.toArray,_,hk,rfl,rfl,rfl,by rw[wO,lenV];exact hl,by simpa using rv⟩) (λb u z=>by have z':(none:Option HO)=some u:=z;cases z') (λb z=>absurd rfl z) λz=>absurd rfl z
 | none =>
   refine core (λb=>if b=a then some (.gC {cls:=.type "list",data:=.seq vs.toArray} (.lst (ns.map V.int)))else none) (λb=>?_) (.inl (.inr ⟨{cls:=.type "list",data:=.seq vs.toArray},if_pos rfl⟩)) (λb u z=>?_) (λb z=>?_) λ_=>hk
   . by_cases hb:b=a
     . exact .inr ⟨_,_,if_pos hb⟩
     . exact .inl (if_neg hb)
   . by_cases hb:b=a
     . have z':=(if_pos hb).symm.trans z
       cases z';subst hb;exact⟨ha,by rw[wm];exact hl,vs,_,rv,ha⟩
     . have z':=(if_neg hb).symm.trans z
       cases z'
   . by_cases hb:b=a
     . exact hb
     . exact absurd (if_neg hb) z
abbrev KOf{K:wb}{h:wG}(_:K.In h):wb:=K
theorem YX{l:xA}{n k:Nat}{q:wI}{loose:List Str}{XP:(Str->Option wg)->wG->Prop}{YP:wJ->wG->Prop}{d:DefRec}{K:Params->wb}{CX:wJ->fV}{sp:wJ->Sp}{x:Str}
  (hn:l.most=some n) (hn2:n<=w8) (hdf:d.params.defaults=[]) (hr:d6 k callerA)
  (hY:∀(w:wJ)(h:wG),YP w h->(K w.params).In h)
  (F:∀(w:wJ)(mg:Str->Option wg)(fa:we)(h:wG),(K w.params).In h->h.Ns wS mg->mg d.name=some (.ref fa) ->
   ∃fd:wE,(∀(s:wl)(u:wg),BindsTo s fd ⟨[u],[]⟩ [(x,u)]) /\
    ∀base:wG,(K w.params).In base->base.Ns wS mg->aH l.prog w (K w.params) mg base (CX w) k fa fd [x] (sp w))
  (hsp:∀(w:wJ)(H:Hp)(a:we)(ns:List Int),ns.length<=n->yw H->aQ (K w.params) H a (ns.map V.int)->sp w [.ref a] H (λv _=>v=.bl true) λ_ _ _=>False)
  (hCX:∀(w:wJ)(H:Hp)(s:wl)(e:wg)(s':wl),CX w [] H s (λ_ _ _=>False) e s'->False) :
  Ue q loose XP YP l.row.toRowW d [] (λf vs=>uH f vs):=by
 refine Att.YN hn hdf λw s₀ s₁ mg mb fa o pm cd doc a vs ns G Y ho hd hcd hmg hobj hints hlen hg=>?_
 have KX:=hY w _ Y;obtain⟨fd,hb,hF⟩:=F w mg fa _ KX G.T.g hmg;exact zyP KX G.T.g G.T.b G.T.builtins G.T.nolimit hg hobj hints (Wa hlen hn2) hr hF hb (λH hO hS=>hsp w H a ns hlen hO hS) λH e s'=>hCX w H s₁ e s'
def ou(s:w9):Arguments:=match s with
 | .FunctionDef _ a _ _ _ _ _ _ _ _=>a
 | _=>{posonlyargs:=[],args:=[],vararg:=none,kwonlyargs:=[],kw_defaults:=[],kwarg:=none,defaults:=[]}
def kZ(s:w9):List w9:=match s with
 | .FunctionDef _ _ b _ _ _ _ _ _ _=>b
 | _=>[]
def aC(s:w9):Scope:=match s with
 | .FunctionDef _ _ _ _ _ _ sc _ _ _=>sc
 | _=>{kind:=.function,names:=[],isGenerator:=false,isCoroutine:=false}
abbrev aR:fV:=λ_ _ _ _ _ _=>False
abbrev E0:XK:=λ_ _ _=>False
theorem zDT{X:Cx} : nj aR X E0:=λ_ _ _ _ _ _ _ h=>h.elim
structure kT(K:wb)(x qual:Str)(st:w9)(f:we)(fd:wE):Prop where
 ex:∃(oc:wg)(od:Option we)(kV doc pm:wg)(an:Option we)(cdv ct:wg)(osl:Array (Option wg)),
   fd=V3 x qual (ou st) (kZ st) (aC st) .none kV doc pm an cdv ct/\K.lookup f=some ⟨oc,od,.func fd,osl⟩/\QM K cdv qual=true
 kp:Qh K (.ref f)=true
section
variable{P:wI}{w:wJ}{K:wb}{mg:Str->Option wg}{base:wG}
variable{qual x:Str}{st:w9}{f:we}
theorem kT.ok{fd:wE}{N ps:List Str}{k:Nat}{sp:Sp}(F:kT K x qual st f fd)(S:aP N ps (aC st))(len:∀vs H Q E,sp vs H Q E->vs.length=ps.length)
  (hbody:∀(cdv:wg)(A:vb)(outer:List Env)(s:wl)(H:Hp)(vs:List V)(Q:VK)(E:XK),d6 k (A.deeper (envOfC qual (aC st) s.heap.objs.size f cdv))->sp vs H Q E ->
   ∃t,fM (iV aR P w K mg base N qual (aC st) f cdv A outer s H E).zx (kZ st) t/\t {nx:=λ_ H'=>Q .a_ H',rt:=Q} (start N vs) H):aH P w K mg base aR (k+1) f fd ps sp:=by
 obtain⟨oc,od,kV,doc,pm,an,cdv,ct,osl,rfl,lk,hcd⟩:=F.ex;refine Oh lk hcd S len λA outer s H vs Q E hr hsp=>?_
 obtain⟨t,h,q⟩:=hbody cdv A outer s H vs Q E hr hsp;exact⟨t,h.zx,q⟩
theorem kT.binds{fd:wE}{ps:List Str}(F:kT K x qual st f fd)
  (h:∀(kV doc pm:wg)(an:Option we)(cdv ct:wg)(us:List wg),us.length=ps.length->bindArgs (V3 x qual (ou st) (kZ st) (aC st) .none kV doc pm an cdv ct) ⟨us,[]⟩=pure (ps.zip us)):lV K fd ps []:=by
 obtain⟨oc,od,kV,doc,pm,an,cdv,ct,osl,rfl,lk,hcd⟩:=F.ex;exact .all (h kV doc pm an cdv ct)
theorem Lv{oc:wg}{od an:Option we}{osl:Array (Option wg)}{kV doc pm cdv ct:wg}(l:K.lookup f=some ⟨oc,od,.func (V3 x qual (ou st) (kZ st) (aC st) .none kV doc pm an cdv ct),osl⟩)
  (c:QM K cdv qual=true) (k:Qh K (.ref f)=true):kT K x qual st f (V3 x qual (ou st) (kZ st) (aC st) .none kV doc pm an cdv ct):=⟨⟨oc,od,kV,doc,pm,an,cdv,ct,osl,rfl,l,c⟩,k⟩
end
theorem jo{n:Nat}(h:n<=1000):n<w8:=W7 h (by decide)
section
variable{X:Cx}
theorem pv(i:Nat){x:Str}{pos:Pos}(hN:X.N[i]? = some x:=by rfl)(hv:AN X.env.scope x:=by first | exact Or.inl rfl | exact Or.inr (Or.inl rfl) | exact Or.inr (Or.inr rfl))(hd:(x == ("__debug__" : Str))=false:=by decide)
  (hcd:(x == ("__classdict__" : Str))=false:=by decide):PE X (.Name x pos) (r_ i):=zCr hN hv hd hcd
end
theorem m_{A B:Prop}(h:B):if false=true then A else B:=by
 rw[if_neg vF];exact h
theorem og{A B:Prop}(h:A):if true=true then A else B:=by
 rw[if_pos rfl];exact h
def ah(H H':Hp):Prop:=∀b o,H b=some o->H' b=some o
theorem ah.refl(H:Hp):ah H H:=λ_ _ h=>h
theorem ah.trans{H H1 H2:Hp}(a:ah H H1)(b:ah H1 H2):ah H H2:=λc o h=>b c o (a c o h)
theorem ah.seq{K:wb}{H H':Hp}{a:we}{xs:List V}(e:ah H H')(h:aQ K H a xs):aQ K H' a xs:=by
 rcases h with(h | ⟨o,h⟩) | h
 ·exact .inl (.inl (e _ _ h))
 ·exact .inl (.inr ⟨o,e _ _ h⟩)
 ·exact .inr h
end L2
namespace GM
variable{B t u:Int}{a b h x y:Rat}{c i j k m n v w:Nat}{l ps xs ys:List Rat}{ns:List Int}{left:List Nat}{fl:Nat->Nat}
def dv(t b:Int):Int:=if b<0 then -((vE t b:Nat):Int)else((vE t b:Nat):Int)
theorem CL{b:Int}(hb:b≠0):0<vE t b:=qC t hb
theorem PJ{b:Int}(hb:b≠0):dv t b≠0:=by
 have:=CL (t:=t) hb;unfold dv
 split<;>lia
theorem fN{a d:Int}(h:d ∣ a)(hd:d≠0):a.fdiv d=a / d:=by
 obtain⟨k,rfl⟩:=h;rw[Int.mul_fdiv_cancel_left _ hd,V6 _ hd]
theorem PF{b:Int}(hb:b≠0):t.fdiv (dv t b)=(wB t b).num:=by
 have hg:=CL (t:=t) hb;have h1:((vE t b:Nat):Int) ∣ t:=qG ..;rw[Rat.num_divInt,XF b t];unfold dv
 by_cases h:b<0
 ·rw[if_pos h,Q6 h,fN (uc.mpr h1) (by lia),Int.ediv_neg]
  obtain⟨k,hk⟩:=h1;have:(-1:Int)*t=((vE t b:Nat):Int)*(-k):=by rw[uI,ud,<- hk]
  rw[this,V6 _ (by lia)];have e:t / ((vE t b:Nat):Int)=k:=QZ (by lia) hk;rw[e]
 ·rw[if_neg h,xL (by lia),xM,fN h1 (by lia)]
theorem zCN{b:Int}(hb:b≠0):b.fdiv (dv t b)=((wB t b).den:Int):=by
 have hg:=CL (t:=t) hb;have h1:((vE t b:Nat):Int) ∣ b:=Qn ..;rw[u3,if_neg hb,XF b t];unfold dv
 by_cases h:b<0
 ·rw[if_pos h,fN (uc.mpr h1) (by lia),Int.ediv_neg,V7]
  obtain⟨k,hk⟩:=h1;have:(b.natAbs:Int)=((vE t b:Nat):Int)*(-k):=by rw[ud,<- hk];lia
  rw[this,V6 _ (by lia)];have e:b / ((vE t b:Nat):Int)=k:=QZ (by lia) hk;rw[e]
 ·rw[if_neg h,fN h1 (by lia),V7]
  have:(b.natAbs:Int)=b:=by lia
  rw[this]
def gX(p q:Int):Bool:=decide (1<=q)&&decide (vE p q=1)
theorem V_(r:Rat):gX r.num r.den=true:=by
 have h:=r.reduced;have hd:=r.den_pos;simp only[gX,wZ,decide_eq_true_eq];refine⟨by lia,?_⟩;have:Nat.gcd r.num.natAbs r.den=1:=h
 simpa [vE] using this
theorem zqY{p q:Int}(h:gX p q=true):∃r:Rat,p=r.num/\q=(r.den:Int):=by
 simp only[gX,wZ,decide_eq_true_eq]at h;obtain⟨h1,h2⟩:=h;refine⟨⟨p,q.toNat,by lia,?_⟩,rfl,by show q=((q.toNat:Nat):Int);lia⟩;have e:q.toNat=q.natAbs:=by lia
 rw[e];exact h2
theorem Tz{a b:Int}(hb:0<b)(ha:0<=a):vE b (a % b)=vE a b:=by
 rw[XF a b];have e:a=a % b+b*(a / b):=(Int.emod_add_mul_ediv a b).symm
 conv=>rhs;rw[e]
 rw[Int.gcd_add_mul_left_right]
structure Bd(n:Nat)(x:Int):Prop where
 lt:x.natAbs<2^n
theorem Bd.mono{x:Int}(h:Bd m x)(e:m<=n):Bd n x:=⟨wV h.lt (Xg (by decide) e)⟩
theorem Bd.mul{x y:Int}(h:Bd m x)(k:Bd n y):Bd (m+n) (x*y):=by
 refine⟨?_⟩;rw[xW,QV];exact Nat.mul_lt_mul'' h.lt k.lt
theorem Bd.add{x y:Int}(h:Bd m x)(k:Bd n y):Bd (max m n+1) (x+y):=by
 have h1:=(h.mono (uJ m n)).lt;have h2:=(k.mono (um m n)).lt;refine⟨?_⟩;rw[WY]
 lia
theorem Bd.sub{x y:Int}(h:Bd m x)(k:Bd n y):Bd (max m n+1) (x-y):=by
 have h1:=(h.mono (uJ m n)).lt;have h2:=(k.mono (um m n)).lt;refine⟨?_⟩;rw[WY]
 lia
theorem Bd.neg{x:Int}(h:Bd n x):Bd n (-x):=⟨by rw[Int.natAbs_neg];exact h.lt⟩
theorem Bd.le{x y:Int}(h:Bd n x)(e:y.natAbs<=x.natAbs):Bd n y:=⟨W7 e h.lt⟩
theorem Bd.log{x:Int}(h:Bd n x)(hn:0<n):x.natAbs.log2<n:=by
 by_cases e:x.natAbs=0
 ·rw[e];exact hn
 ·exact(Nat.log2_lt e).mpr h.lt
theorem zDC(t b:Int)(hb:b≠0):(wB t b).num.natAbs<=t.natAbs:=by
 rw[<- PF hb]
 have h1:dv t b ∣ t:=by
  have:((vE t b:Nat):Int) ∣ t:=qG ..;unfold dv;split
  ·exact uc.mpr this
  ·exact this
 rw[fN h1 (PJ hb)];exact xg t _
theorem BV(t b:Int)(hb:b≠0):(wB t b).den<=b.natAbs:=by
 rw[u3,if_neg hb];exact Nat.div_le_self _ _
structure ag(n:Nat)(x:Rat):Prop where
 t:Bd n x.num
 b:Bd n (x.den:Int)
theorem ag.mono(h:ag m x)(e:m<=n):ag n x:=⟨h.t.mono e,h.b.mono e⟩
theorem ag.divInt{b:Int}(hb:b≠0)(h1:Bd n t)(h2:Bd n b):ag n (wB t b) :=
 ⟨h1.le (zDC t b hb),h2.le (by have:=BV t b hb;simpa using this)⟩
theorem Bd.kD{m:Int}(h1 : -100000000000000000000000000000000000000<=m)(h2:m<=100000000000000000000000000000000000000):Bd 128 m:=⟨by
 have e:(2:Nat)^128=340282366920938463463374607431768211456:=by decide
 rw[e]
 lia⟩
theorem gM(x:Rat):(x.den:Int)≠0:=by have:=x.den_pos;lia
theorem den_pos(x:Rat):(0:Int)<(x.den:Int):=by have:=x.den_pos;lia
theorem GO(x y:Rat):(x.den:Int)*(y.den:Int)≠0:=xB (gM x) (gM y)
theorem zC1(x y:Rat):wB (x.num*(y.den:Int)+y.num*(x.den:Int)) ((x.den:Int)*(y.den:Int))=x+y:=by
 rw[<- VD,xm,Rat.add_def']
theorem MF(x y:Rat):wB (x.num*(y.den:Int)-y.num*(x.den:Int)) ((x.den:Int)*(y.den:Int))=x-y:=by
 rw[<- VD,xm,Rat.sub_def']
theorem UP(x y:Rat):wB (x.num*y.num) ((x.den:Int)*(y.den:Int))=x*y:=by
 rw[<- VD,xm,Rat.mul_def']
theorem Mn(x y:Rat):wB (x.num*(y.den:Int)) ((x.den:Int)*y.num)=x / y:=by
 rw[xN,Rat.inv_def,<- xX,Vy]
theorem zEy(x y:Rat):decide (x.num*(y.den:Int)<y.num*(x.den:Int))=decide (x<y):=by
 rw[vL,decide_eq_true_eq,decide_eq_true_eq,Rat.lt_iff]
theorem yk(h:y≠0):y.num≠0:=λe=>h (Rat.num_eq_zero.mp e)
theorem ag.add(h:ag m x)(k:ag n y):ag (m+n+1) (x+y):=by
 rw[<- zC1];refine ag.divInt (GO x y) ?_ ((h.b.mul k.b).mono (by lia));exact((h.t.mul k.b).add (k.t.mul h.b)).mono (by lia)
theorem ag.sub(h:ag m x)(k:ag n y):ag (m+n+1) (x-y):=by
 rw[<- MF];refine ag.divInt (GO x y) ?_ ((h.b.mul k.b).mono (by lia));exact((h.t.mul k.b).sub (k.t.mul h.b)).mono (by lia)
theorem ag.mul(h:ag m x)(k:ag n y):ag (m+n) (x*y):=by
 rw[<- UP];exact ag.divInt (GO x y) (h.t.mul k.t) (h.b.mul k.b)
theorem ag.zero :ag 1 0:=⟨⟨by decide⟩,⟨by decide⟩⟩
theorem ag.one :ag 1 1:=⟨⟨by decide⟩,⟨by decide⟩⟩
def aE(a b:Rat):Nat->Rat
 | 0=>0
 | n+1=>a*aE a b n+b
def push(a b:Rat):Nat->Rat->Rat
 | 0,x=>x
 | n+1,x=>a*push a b n x+b
theorem ib(a b:Rat)(n:Nat)(x:Rat):push a b n x=a^n*x+aE a b n:=by
 induction n with
 | zero=>simp[push,aE,Rat.add_zero,V8]
 | succ n ih=>rw[push,ih,aE,WL];grind
theorem zxT(a b:Rat)(m n:Nat)(x:Rat):push a b (m+n) x=push a b n (push a b m x):=by
 induction n with
 | zero=>rfl
 | succ n ih=>rw[<- WS,push,push,ih]
theorem ag.pow(h:ag k a)(n:Nat):ag (k*n+1) (a^n):=by
 induction n with
 | zero=>rw[V8];exact ag.one.mono (by lia)
 | succ n ih=>rw[WL];exact(ih.mul h).mono (by rw[qY];lia)
theorem ag.aE(h:ag k a)(hb:ag k b)(n:Nat):ag ((2*k+1)*n+1) (aE a b n):=by
 induction n with
 | zero=>exact ag.zero.mono (by lia)
 | succ n ih=>exact((h.mul ih).add hb).mono (by rw[qY];lia)
theorem de(t:Int)(hu:u≠0):(wB t u)*(u:Rat)=(t:Rat):=by
 rw[Rat.divInt_eq_div];exact W8 λz=>hu (Vn.mp z)
theorem j7(x:Rat):x*((x.den:Int):Rat)=(x.num:Rat):=by
 have:=de x.num (gM x)
 rwa[Vy]at this
theorem gj(hu:u≠0)(h:x*(u:Rat)=(t:Rat)):wB t u=x:=by
 have h1:=de t hu;have h2:(wB t u-x)*(u:Rat)=0:=by grind
 have h3:(u:Rat)≠0:=by
  intro z;exact hu (Vn.mp z)
 have:=xC.mp h2
 grind
theorem zxl(a b:Rat)(t u:Int)(hu:u≠0):wB (a.num*b.den*t+b.num*a.den*u) (u*a.den*b.den)=a*wB t u+b:=by
 refine gj (xB (xB hu (gM a)) (gM b)) ?_;have h1:=de t hu;have h2:=j7 a;have h3:=j7 b;simp only[vS,qP]
 grind
theorem R5(a b:Rat)(n:Nat)(x y:Rat):push a b n y-push a b n x=a^n*(y-x):=by
 rw[ib,ib];grind
theorem lQ(h:0<a)(n:Nat):0<a^n:=Rat.pow_pos h
theorem zu1(h:1<a)(n:Nat):1<a^(n+1):=by
 induction n with
 | zero=>simpa using h
 | succ n ih =>
  rw[WL];have:=VZ (show 0<a^(n+1)-1 by grind) (show 0<a-1 by grind)
  grind
theorem LJ(h0:0<a)(h:a<1)(n:Nat):a^(n+1)<1:=by
 induction n with
 | zero=>simpa using h
 | succ n ih =>
  rw[WL];have:=VZ (show 0<1-a^(n+1) by grind) h0
  grind
theorem one_pow'(n:Nat):(1:Rat)^n=1:=by
 induction n with
 | zero=>rfl
 | succ n ih=>rw[WL,ih,QW]
theorem lK(h:0<u):(0:Rat)<(u:Rat):=uK.mpr h
theorem ZV(hu:0<u)(ht:0<t):0<wB t u:=by
 have e:=de t (show u≠0 by lia);have:=lK ht;rw[<- e]at this;exact(Rat.mul_pos_iff_of_pos_right (lK hu)).mp this
theorem P7{c:Int}(hu:0<u)(h:t<=c*u):wB t u<=(c:Rat):=by
 have e:=de t (show u≠0 by lia);refine Rat.le_of_mul_le_mul_right (c:=(u:Rat)) ?_ (lK hu);rw[e,<- vS];exact Vt.mpr h
theorem zuI{c:Int}(hu:0<u)(h:t<c*u):wB t u<(c:Rat):=by
 have e:=de t (show u≠0 by lia);refine Rat.lt_of_mul_lt_mul_right (c:=(u:Rat)) ?_ (vT (lK hu));rw[e,<- vS];exact xO.mpr h
theorem RY(hu:0<u):((wB t u).den:Int)<=u:=by
 have:=BV t u (by lia)
 lia
theorem zwj{c:Int}(h:x<=(c:Rat)):x.num<=c*x.den:=by
 have:=(Xh x c).mp h
 simpa using this
theorem ZW(h:0<=x):0<=x.num:=Qi.mpr h
theorem ag.small{d:Nat}(h0:0<=x)(hc:x<=((c:Int):Rat))(hd:x.den<=d)(z:c*d<1024)(hd2:d<1024):ag 10 x:=by
 have h1:=zwj hc;have h2:=ZW h0;have h3:(c:Int)*(x.den:Int)<=(c:Int)*(d:Int):=Int.mul_le_mul_of_nonneg_left (by lia) (by lia);have h4:(c:Int)*(d:Int)<1024:=by rw[<- VD];lia
 refine⟨⟨?_⟩,⟨?_⟩⟩
 ·show _<1024
  lia
 ·show _<1024
  lia
theorem NV{z:Int}(e:x=wB z u)(h1:1<=u)(h2:u<=8)(h3:1<=z)(h4:z<=4*u):0<x/\x<=4/\x.den<=8:=by
 subst e;refine⟨ZV (by lia) (by lia),P7 (c:=4) (by lia) h4,?_⟩;have:=RY (t:=z) (show 0<u by lia)
 lia
theorem FQ{r:Int}(e:y=wB r u)(h1:1<=u)(h2:u<=12)(h3:0<=r)(h4:r<=u):0<=y/\y<=1/\y.den<=12:=by
 subst e;refine⟨XX h3 (by lia),P7 (c:=1) (by lia) (by lia),?_⟩;have:=RY (t:=r) (show 0<u by lia)
 lia
theorem ag.four :ag 3 4:=⟨⟨by decide +kernel⟩,⟨by decide +kernel⟩⟩
theorem oA{f:Rat->Rat}(h:i<xs.length):(xs.map f).getD i 0=f (xs.getD i 0):=by
 rw[wa,wa,wu,wc h]
 rfl
theorem ZK(ha:0<a)(n:Nat)(x y:Rat):push a b n x<push a b n y ↔ x<y:=by
 have e:=R5 a b n x y;have p:=lQ ha n
 constructor
 ·intro h
  have:0<a^n*(y-x):=by rw[<- e];grind
  have h2:=(Rat.mul_pos_iff_of_pos_left p).mp this
  grind
 ·intro h
  have:0<a^n*(y-x):=VZ p (by grind)
  grind
def dM(a b:Rat)(n:Nat)(xs:List Rat)(i:Nat):List Rat:=(xs.map λx=>push a b n (x+(1-xs.getD i 0))).set i 0
def aM(a b:Rat)(ns:List Int)(xs:List Rat):Nat->List Rat
 | 0=>xs
 | k+1=>dM a b (ns.getD k 0).toNat (aM a b ns xs k) k
theorem iF(a b:Rat)(n:Nat)(xs:List Rat)(i:Nat):(dM a b n xs i).length=xs.length:=by simp[dM]
theorem c_(a b:Rat)(ns:List Int)(xs:List Rat):∀k,(aM a b ns xs k).length=xs.length
 | 0=>rfl
 | k+1=>by rw[aM,iF,c_ a b ns xs k]
theorem gG(a b:Rat)(n:Nat)(xs:List Rat)(i j:Nat)(hj:j<xs.length):(dM a b n xs i).getD j 0=if j=i then 0 else push a b n (xs.getD j 0+(1-xs.getD i 0)):=by
 unfold dM;rw[wa,VN]
 by_cases h:i=j
 ·subst h
  simp[hj]
 ·rw[if_neg h,if_neg (WE h),wu,wc hj]
  simp[wa,hj]
def Cm(m:Nat)(xs:List Rat):Prop:=∃B:Int,0<B/\Bd m B /\ ∀x∈xs,∃t:Int,x=wB t B/\Bd m t
theorem Cm.mono(h:Cm m xs)(e:m<=n):Cm n xs:=by
 obtain⟨B,h0,h1,h2⟩:=h;exact⟨B,h0,h1.mono e,λx hx=>let ⟨t,e1,e2⟩:=h2 x hx;⟨t,e1,e2.mono e⟩⟩
theorem Cm.d_(h:Cm m xs)(hx:x∈xs):ag m x:=by
 obtain⟨B,h0,h1,h2⟩:=h;obtain⟨t,rfl,ht⟩:=h2 x hx;exact ag.divInt (by lia) ht h1
theorem Cm.pos(h:Cm m xs):1<=m:=by
 obtain⟨B,h0,h1,_⟩:=h;cases m with
 | zero=>have:=h1.lt;simp at this;lia
 | succ m=>lia
theorem Cm.get(h:Cm m xs)(i:Nat):ag m (xs.getD i 0):=by
 rcases wA i xs.length with z | z
 ·rw[wa,wc z]
  exact h.d_ (vK z)
 ·rw[wa,wL z]
  exact ag.zero.mono h.pos
theorem pY{a b:Rat}(ba:ag 10 a)(bb:ag 10 b){m:Nat}{t u:Int}(hu:0<u)(bt:Bd m t)(bu:Bd m u):∀n:Nat,0<u*((a.den:Int)*(b.den:Int))^n/\Bd (m+21*n) (u*((a.den:Int)*(b.den:Int))^n) /\
  ∃T:Int,push a b n (wB t u)=wB T (u*((a.den:Int)*(b.den:Int))^n)/\Bd (m+21*n) T
 | 0=>⟨by simpa using hu,by simpa using bu,t,by simp[push],by simpa using bt⟩
 | n+1=>by
  obtain⟨h1,h2,T,e,hT⟩:=pY ba bb hu bt bu n;have eb:u*((a.den:Int)*(b.den:Int))^(n+1)=u*((a.den:Int)*(b.den:Int))^n*(a.den:Int)*(b.den:Int):=by rw[V9,<- qi,qi (u*_)]
  rw[eb];refine⟨vQ (vQ h1 (den_pos a)) (den_pos b),((h2.mul ba.b).mul bb.b).mono (by lia),a.num*(b.den:Int)*T+b.num*(a.den:Int)*(u*((a.den:Int)*(b.den:Int))^n),?_,(((ba.t.mul bb.b).mul hT).add ((bb.t.mul ba.b).mul h2)).mono (by lia)⟩;rw[push,e];exact(zxl a b T _ (by lia)).symm
theorem Cm.mQ(h:Cm m xs)(ba:ag 10 a)(bb:ag 10 b)(n i:Nat):Cm (m+2+21*n) (dM a b n xs i):=by
 obtain⟨B,h0,h1,h2⟩:=h
 have hz:∃z:Int,xs.getD i 0=wB z B/\Bd m z:=by
  rcases wA i xs.length with q | q
  ·rw[wa,wc q]
   exact h2 _ (vK q)
  ·rw[wa,wL q]
   exact⟨0,by simp,⟨by simp;exact Wi m⟩⟩
 obtain⟨z,ez,hz⟩:=hz;have key:=λ(t:Int)(ht:Bd m t)=>pY ba bb h0 (show Bd (m+2) (t+B-z)from((ht.add h1).sub hz).mono (by lia)) (h1.mono (by lia)) n
 obtain⟨p1,p2,_⟩:=key 0 ⟨by simp;exact Wi m⟩;refine⟨_,p1,p2,λx hx=>?_⟩
 have hx':x=0 \/ ∃y∈xs,x=push a b n (y+(1-xs.getD i 0)):=by
  unfold dM at hx;rcases xh hx with q | q
  ·obtain⟨y,hy,rfl⟩:=wU.mp q
   exact .inr ⟨y,hy,rfl⟩
  ·exact .inl q
 rcases hx' with rfl | ⟨y,hy,rfl⟩
 ·exact⟨0,by simp,⟨by simp;exact Wi _⟩⟩
 ·obtain⟨t,rfl,ht⟩:=h2 y hy
  obtain⟨_,_,T,e,hT⟩:=key t ht
  have e2:wB t B+(1-xs.getD i 0)=wB (t+B-z) B:=by
   rw[ez]
   symm
   refine gj (by lia) ?_;have q1:=de t (show B≠0 by lia);have q2:=de z (show B≠0 by lia);have q3:((t+B-z:Int):Rat)=(t:Rat)+(B:Rat)-(z:Rat):=by push_cast;rfl
   rw[q3,<- q1,<- q2]
   grind
  rw[e2];exact⟨T,e,hT⟩
theorem Cm.snoc(h:Cm m xs):Cm m (xs++[0]):=by
 obtain⟨B,h0,h1,h2⟩:=h;refine⟨B,h0,h1,λx hx=>?_⟩;rcases vX.mp hx with q | q
 ·exact h2 x q
 ·rw[w6.mp q]
  exact⟨0,by simp,⟨by simp;exact Wi m⟩⟩
def upTo(ns:List Int)(k:Nat):Nat:=((ns.take k).map xD).sum
theorem pG(h:k<ns.length):upTo ns (k+1)=upTo ns k+(ns.getD k 0).toNat:=by
 unfold upTo;rw[Qo,wc h,wa,wc h,vA,List.sum_append]
 show _+([ns[k].toNat]:List Nat).sum=_
 rw[List.sum_singleton]
 rfl
theorem Cm.rows{m:Nat}{xs:List Rat}{a b:Rat}{ns:List Int}(h:Cm m xs)(ba:ag 10 a)(bb:ag 10 b):∀k,k<=ns.length->Cm (m+2*k+21*upTo ns k) (aM a b ns xs k)
 | 0,_=>h.mono (by lia)
 | k+1,hk=>by
  have:=(Cm.rows h ba bb (ns:=ns) k (by lia)).mQ ba bb (ns.getD k 0).toNat k;rw[aM];refine this.mono ?_;rw[pG (by lia)]
  lia
theorem Mo(a:Rat)(m:Nat):∀n:Nat,a^(m+n)=a^m*a^n
 | 0=>by rw[XG,V8,Rat.mul_one]
 | n+1=>by rw[<- WS,WL,Mo a m n,WL,Uf]
theorem zwZ(a b:Rat)(n:Nat)(xs ys:List Rat)(i j:Nat)(hx:xs.length=ys.length)(hj:j<xs.length) :
  (dM a b n xs i).getD j 0-(dM a b n ys i).getD j 0=a^n*((xs.getD j 0-ys.getD j 0)-(xs.getD i 0-ys.getD i 0)):=by
 rw[gG a b n xs i j hj,gG a b n ys i j (by lia)]
 by_cases h:j=i
 ·subst h
  rw[if_pos rfl,if_pos rfl]
  grind
 ·rw[if_neg h,if_neg h,R5]
  grind
theorem CV(a b:Rat)(ns:List Int)(xs ys:List Rat)(hx:xs.length=ys.length)(hn:ns.length=xs.length)(l:Nat)(hl:l+1=xs.length)(h0:xs.getD l 0=ys.getD l 0) :
  ∀k,k<=ns.length->∀j,j<xs.length->(aM a b ns xs k).getD j 0-(aM a b ns ys k).getD j 0=a^upTo ns k*((xs.getD j 0-ys.getD j 0)-(if k=0 then 0 else xs.getD (k-1) 0-ys.getD (k-1) 0))
 | 0,_,j,hj=>by simp[aM,upTo];grind
 | k+1,hk,j,hj=>by
  rw[aM,aM,zwZ _ _ _ _ _ _ _ (by rw[c_,c_,hx]) (by rw[c_];exact hj),CV a b ns xs ys hx hn l hl h0 k (by lia) j hj,CV a b ns xs ys hx hn l hl h0 k (by lia) k (by lia),pG (by lia),Mo];simp only[qZ];rw[if_neg (show ¬ k+1=0 by lia)]
  grind
def mz(a b:Rat)(n:Nat)(xs:List Rat):List Rat:=(xs.tail.map λy=>push a b n (y+(1-xs.headD 0)))++[0]
def turned(a b:Rat)(ns:List Int)(xs:List Rat):Nat->List Rat
 | 0=>xs
 | k+1=>mz a b (ns.getD k 0).toNat (turned a b ns xs k)
theorem nv(a b:Rat)(ns:List Int)(xs:List Rat):∀k,k<=xs.length->turned a b ns xs k=(aM a b ns xs k).drop k++(aM a b ns xs k).take k
 | 0,_=>by simp[turned,aM]
 | k+1,hk=>by
  have hl:(aM a b ns xs k).length=xs.length:=c_ a b ns xs k;have hk':k<(aM a b ns xs k).length:=by lia
  rw[turned,nv a b ns xs k (by lia),aM];generalize aM a b ns xs k=r at *;generalize (ns.getD k 0).toNat=n;have e1:r.drop k=r[k]::r.drop (k+1):=qQ hk';have e2:r.getD k 0=r[k]:=by rw[wa,wc hk'];rfl
  unfold mz dM;rw[e1,e2,xn,u4,List.headD_cons,List.drop_set_of_lt (by lia),vA,Xo,Vh]
  congr 1
  have hm:k<(r.map λx=>push a b n (x+(1-r[k]))).length:=by rw[wm];exact hk'
  rw[Xp];generalize (r.map λx=>push a b n (x+(1-r[k])))=s at hm ⊢;rw[List.take_set,Qo,wc hm]
  show _=(s.take k++[s[k]]).set k 0
  have hlk:(s.take k).length=k:=by rw[Wq];lia
  rw[List.set_append_right _ _ (by lia),hlk,Vf]
  rfl
theorem zux(a b:Rat)(ns:List Int)(xs:List Rat)(h:ns.length=xs.length):turned a b ns xs ns.length=aM a b ns xs ns.length:=by
 rw[nv a b ns xs _ (by lia)];have hl:(aM a b ns xs ns.length).length=xs.length:=c_ a b ns xs _;rw[xP (by lia),WF (by lia),QD]
def mT(xs:List Rat):Nat->Int
 | 0=>1
 | k+1=>mT xs k*((xs.getD k 0).den:Int)
theorem Pw(xs:List Rat):∀k,0<mT xs k
 | 0=>by show(0:Int)<1;decide
 | k+1=>vQ (Pw xs k) (den_pos _)
theorem R8(xs:List Rat):∀k j,j<k->((xs.getD j 0).den:Int) ∣ mT xs k
 | 0,j,h=>by lia
 | k+1,j,h=>by
  rcases wA j k with z | z
  ·exact qj (R8 xs k j z) (Vi ..)
  ·have:j=k:=by lia
   subst this;exact uo ..
theorem Yb{xs:List Rat}{m:Nat}(h:∀i,ag m (xs.getD i 0)):∀k,Bd (m*k+1) (mT xs k)
 | 0=>⟨by show(1:Int).natAbs<_;simp⟩
 | k+1=>by
  rw[mT];refine((Yb h k).mul (h k).b).mono ?_;rw[QX];lia
theorem zt0(hB:0<B)(h:(x.den:Int) ∣ B):wB (x.num*B.fdiv x.den) B=x:=by
 obtain⟨c,rfl⟩:=h;rw[fN (Vi ..) (gM x),V6 _ (gM x)];refine gj (by lia) ?_;have:=j7 x;rw[vS,vS,<- this]
 grind
theorem zAZ{d:Int}(hd:0<d)(hB:0<B)(h:Bd m B):Bd m (B.fdiv d):=by
 refine h.le ?_;rw[VI _ (by lia)];have h1:0<=B / d:=Int.ediv_nonneg (by lia) (by lia);have h2:B / d<=B:=ur _ (by lia)
 lia
theorem CW(a b:Rat)(ns:List Int)(xs:List Rat)(hk:k<xs.length):(turned a b ns xs k).headD 0=(aM a b ns xs k).getD k 0:=by
 have hl:=c_ a b ns xs k;rw[nv a b ns xs k (by lia),qQ (by lia),wa,wc (by lia)]
 rfl
theorem GN(a b:Rat)(ns:List Int)(xs:List Rat)(hx:0<xs.length):∀k,(turned a b ns xs k).length=xs.length
 | 0=>rfl
 | k+1=>by
  have:=GN a b ns xs hx k;rw[turned,mz,wR,wm,Qv,this];simp;lia
theorem RW(x y:Rat):((x*y).num=x.num / (x.num.natAbs.gcd y.den:Nat)*(y.num / (y.num.natAbs.gcd x.den:Nat)))/\((x*y).den=x.den / (y.num.natAbs.gcd x.den)*(y.den / (x.num.natAbs.gcd y.den))):=by
 show(Rat.mul x y).num=_/\(Rat.mul x y).den=_
 unfold Rat.mul;simp only[Int.divExact_eq_ediv,Nat.divExact_eq_div]
 constructor<;>trivial
theorem Lm(x y:Rat):((x+y).num=(x.num*((y.den / x.den.gcd y.den:Nat):Int)+y.num*((x.den / x.den.gcd y.den:Nat):Int)) / (((x.num*((y.den / x.den.gcd y.den:Nat):Int)+y.num*((x.den / x.den.gcd y.den:Nat):Int)).natAbs.gcd (x.den.gcd y.den):Nat):Int))/\((x+y).den=x.den / (x.den.gcd y.den)*(y.den / ((x.num*((y.den / x.den.gcd y.den:Nat):Int)+y.num*((x.den / x.den.gcd y.den:Nat):Int)).natAbs.gcd (x.den.gcd y.den)))):=by
 show(Rat.add x y).num=_/\(Rat.add x y).den=_
 unfold Rat.add
 by_cases hg:x.den.gcd y.den=1
 ·simp[hg]
 ·simp only[hg,dite_false,Rat.maybeNormalize_eq]
  refine⟨by simp,?_⟩;simp;have:(x.num*((y.den / x.den.gcd y.den:Nat):Int)+y.num*((x.den / x.den.gcd y.den:Nat):Int)).natAbs.gcd (x.den.gcd y.den) ∣ y.den:=Nat.dvd_trans (XY _ _) (XY _ _);simp at this;rw[Nat.mul_div_assoc _ this]
def fA(x y:Rat):Int:=((vE (x.den:Int) (y.den:Int):Nat):Int)
def kG(x y:Rat):Int:=x.num*(y.den:Int).fdiv (fA x y)+y.num*(x.den:Int).fdiv (fA x y)
def jG(x y:Rat):Int:=((vE (kG x y) (fA x y):Nat):Int)
theorem Bf(x y:Rat):0<fA x y:=by
 have:0<vE (x.den:Int) (y.den:Int):=Int.gcd_pos_of_ne_zero_left _ (by have:=x.den_pos;lia);unfold fA;lia
theorem Dz(x y:Rat):0<jG x y:=by
 have:0<vE (kG x y) (fA x y):=qC _ (by have:=Bf x y;lia);unfold jG;lia
theorem BY(x y:Rat):fA x y=((x.den.gcd y.den:Nat):Int):=by simp[fA,vE]
theorem pC(x y:Rat):fA x y ∣ (x.den:Int):=qG ..
theorem zK(x y:Rat):fA x y ∣ (y.den:Int):=Qn ..
theorem zC9(x y:Rat):jG x y ∣ kG x y:=qG ..
theorem DJ(x y:Rat):jG x y ∣ fA x y:=Qn ..
theorem Nn(x y:Rat):kG x y=x.num*((y.den / x.den.gcd y.den:Nat):Int)+y.num*((x.den / x.den.gcd y.den:Nat):Int):=by
 have h:=Bf x y;rw[kG,fN (zK x y) (by lia),fN (pC x y) (by lia),BY,V7,V7]
theorem RF(x y:Rat):jG x y=(((x.num*((y.den / x.den.gcd y.den:Nat):Int)+y.num*((x.den / x.den.gcd y.den:Nat):Int)).natAbs.gcd (x.den.gcd y.den):Nat):Int):=by
 rw[jG,Nn,BY];simp[vE]
theorem zBy(x y:Rat):(kG x y).fdiv (jG x y)=(x+y).num:=by
 have h:=Dz x y;rw[fN (zC9 x y) (by lia),(Lm x y).1,RF,Nn]
theorem zAl(x y:Rat):(x.den:Int).fdiv (fA x y)*(y.den:Int).fdiv (jG x y)=((x+y).den:Int):=by
 have h:=Dz x y;have h2:=Bf x y;rw[fN (qj (DJ x y) (zK x y)) (by lia),fN (pC x y) (by lia),(Lm x y).2,RF,BY];simp only[VD,V7]
def gz(x y:Rat):Int:=((vE x.num (y.den:Int):Nat):Int)
theorem mW(x y:Rat):0<gz x y:=by
 have:0<vE x.num (y.den:Int):=qC _ (by have:=y.den_pos;lia);unfold gz;lia
theorem yS(x y:Rat):gz x y ∣ x.num:=qG ..
theorem nY(x y:Rat):gz x y ∣ (y.den:Int):=Qn ..
theorem AS(x y:Rat):gz x y=((x.num.natAbs.gcd y.den:Nat):Int):=by simp[gz,vE]
theorem zAs(x y:Rat):x.num.fdiv (gz x y)*y.num.fdiv (gz y x)=(x*y).num:=by
 have h:=mW x y;have h2:=mW y x;rw[fN (yS x y) (by lia),fN (yS y x) (by lia),(RW x y).1,AS,AS]
theorem zAn(x y:Rat):(x.den:Int).fdiv (gz y x)*(y.den:Int).fdiv (gz x y)=((x*y).den:Int):=by
 have h:=mW x y;have h2:=mW y x;rw[fN (nY x y) (by lia),fN (nY y x) (by lia),(RW x y).2,AS,AS];simp only[VD,V7]
theorem mi{a d:Int}(h:Bd n a)(hd:d ∣ a)(hp:0<d):Bd n (a.fdiv d):=by
 rw[fN hd (by lia)];exact h.le (xg a d)
theorem pS{a d:Int}(h:Bd n a)(hd:d ∣ a)(ha:0<a):Bd n d :=
 h.le (Ug (by lia) (Int.natAbs_dvd_natAbs.mpr hd))
theorem yZ(t b:Int):vE (if t<0 then -t else t) b=vE t b:=by split<;>simp
theorem zz0(h:ag n y):ag n (-y):=⟨by simpa using h.t.neg,by simpa using h.b⟩
theorem zuG(x y:Rat):x + -y=x-y:=(Rat.sub_eq_add_neg x y).symm
theorem zW(h:0<y.num):(y⁻¹).num=(y.den:Int)/\((y⁻¹).den:Int)=y.num:=by
 have:¬ y.num<0:=by lia
 constructor
 ·rw[Rat.num_inv,xL h,xM]
 ·rw[Rat.den_inv];split<;>lia
theorem yz(h:y.num<0):(y⁻¹).num = -(y.den:Int)/\((y⁻¹).den:Int) = -y.num:=by
 constructor
 ·rw[Rat.num_inv,Q6 h,uI]
 ·rw[Rat.den_inv];split<;>lia
theorem UK(h:ag n y)(hy:y≠0):ag n y⁻¹:=by
 have:=yk hy
 by_cases p:0<y.num
 ·exact⟨by rw[(zW p).1];exact h.b,by rw[(zW p).2];exact h.t⟩
 ·have p:y.num<0:=by lia
  exact⟨by rw[(yz p).1];exact h.b.neg,by rw[(yz p).2];exact h.t.neg⟩
theorem SO(x y:Rat):0<(x.den:Int)*(y.den:Int):=vQ (den_pos x) (den_pos y)
theorem getD_mem{α : Type}{xs:List α}{d : α}(h:i<xs.length):xs.getD i d∈xs:=by
 rw[wa,wc h];exact vK h
def ki(x:Rat):Bool:=(!decide (x<0))&&(decide (x<1)&&decide ((x.den:Int)<=60))
structure eY(x:Rat):Prop where
 nn:0<=x
 lt:x<1
 den:x.den<=60
theorem eY.is(h:eY x):ki x=true:=by
 have h1:=h.nn;have h2:=h.lt;have h3:=h.den;have h4:¬ x<0:=Vu.mpr h1;have h5:(x.den:Int)<=60:=by lia
 simp[ki,h4,h2,h5]
theorem eY.d_(h:eY x):ag 6 x:=by
 have h1:=h.nn;have h2:=h.lt;have h3:=h.den;have n0:0<=x.num:=Qi.mpr h1
 have n1:x.num<x.den:=by
   have:=Rat.lt_iff x 1 |>.mp h2
   simpa using this
 exact ⟨⟨by have : (2 : Nat) ^ 6 = 64 := by decide
            omega⟩, ⟨by have : (2 : Nat) ^ 6 = 64 := by decide
                        omega⟩⟩
def mx(m:Rat)(l:List Rat):Rat:=l.foldl (λm x=>if m<x then x else m) m
theorem LR:∀(l:List Rat)(m:Rat),m<=mx m l /\ ∀y∈l,y<=mx m l
 | [],m=>⟨WZ,λy h=>by cases h⟩
 | x::l,m=>by
  have h:=LR l (if m<x then x else m);have e:mx m (x::l)=mx (if m<x then x else m) l:=rfl;rw[e]
  have h1:m<=(if m<x then x else m)/\x<=(if m<x then x else m):=by
   split
   ·rename_i z;exact⟨vT z,WZ⟩
   ·rename_i z;exact⟨WZ,Vu.mp z⟩
  refine⟨xo h1.1 h.1,λy hy=>?_⟩;rcases wF.mp hy with rfl | hy
  ·exact xo h1.2 h.1
  ·exact h.2 y hy
theorem Dh:∀(l:List Rat)(m:Rat),mx m l=m\/mx m l∈l
 | [],m=>.inl rfl
 | x::l,m=>by
  have e:mx m (x::l)=mx (if m<x then x else m) l:=rfl;rw[e];rcases Dh l (if m<x then x else m)with h | h
  ·rw[h]
   split
   ·exact .inr (wz ..)
   ·exact .inl rfl
  ·exact .inr (wy _ h)
theorem ya(m x:Rat)(l:List Rat):mx m (l++[x])=if mx m l<x then x else mx m l:=by
 unfold mx;rw[XZ];rfl
def cb(xs:List Rat):Rat:=mx (xs.getD 0 0) xs
theorem L5 : ∀y∈xs,y<=cb xs:=(LR xs _).2
theorem ic(h:1<=xs.length):cb xs∈xs:=by
 rcases Dh xs (xs.getD 0 0)with e | e
 ·unfold cb
  rw[e,wa,wc (by lia)];exact vK _
 ·exact e
theorem oH(h:i<xs.length):xs.take (i+1)=xs.take i++[xs.getD i 0]:=by
 rw[Qo,wa,wc h];rfl
theorem RD(b:∀i,ag n (xs.getD i 0))(h1:1<=xs.length)(i:Nat):ag n (mx (xs.getD 0 0) (xs.take i)):=by
 rcases Dh (xs.take i) (xs.getD 0 0)with e | e
 ·rw[e];exact b 0
 ·have e:=ut _ _ e
  obtain⟨j,hj,ej⟩:=wX e;rw[<- ej];have:=b j;rw[wa,wc hj]at this;exact this
theorem Tv{r:Int}(h0:0<=r)(h1:r<u)(h2:u<=60):eY (wB r u):=by
 refine⟨XX h0 (by lia),zuI (c:=1) (by lia) (by lia),?_⟩;have:=BV r u (by lia)
 lia
def aG(ps:List Rat)(left:List Nat):List Nat:=left.filter λw=>!decide (ps.getD w 0<1)
def bW(left wave:List Nat):List Nat:=left.filter λw=>!decide (w∈wave)
def cZ(f g:Rat)(ps:List Rat)(l:List Nat):List Rat:=l.foldl (λps w=>ps.set w (f*ps.getD w 0+g)) ps
def cT(a b:Rat):Nat->List Rat->List Nat->List (List Nat) × (List Nat × List Rat)
 | 0,ps,left=>([],left,ps)
 | n+1,ps,left=>match aG ps left with
  | []=>([],left,ps)
  | w::ws=>((w::ws)::(cT a b n (cZ (a^(w::ws).length) (aE a b (w::ws).length) ps (bW left (w::ws))) (bW left (w::ws))).1,(cT a b n (cZ (a^(w::ws).length) (aE a b (w::ws).length) ps (bW left (w::ws))) (bW left (w::ws))).2)
def jh(left:List Nat)(ps:List Rat):List Rat:=(wt ps.length).map λi=>if i∈left then ps.getD i 0 else 0
def bK(xs:List Rat):List Rat:=xs.map (· + (1-cb xs))
def eH(a b:Rat)(xs:List Rat):List (List Nat) × (List Nat × List Rat):=cT a b xs.length (bK xs) (wt xs.length)
def cE(a b:Rat)(xs:List Rat):List (List Nat):=(eH a b xs).1
def dC(a b:Rat)(xs:List Rat):List Rat:=jh (eH a b xs).2.1 (eH a b xs).2.2
theorem oG(h:aG ps left=[]):cT a b n ps left=([],left,ps):=by
 cases n with
 | zero=>rfl
 | succ n=>rw[cT,h]
theorem jy(h:aG ps left≠[]):cT a b (n+1) ps left=(aG ps left::(cT a b n (cZ (a^(aG ps left).length) (aE a b (aG ps left).length) ps (bW left (aG ps left))) (bW left (aG ps left))).1,(cT a b n (cZ (a^(aG ps left).length) (aE a b (aG ps left).length) ps (bW left (aG ps left))) (bW left (aG ps left))).2):=by
 rw[cT];cases e:aG ps left with
 | nil=>exact absurd e h
 | cons w ws=>rfl
theorem ztC(f g:Rat)(ps:List Rat)(l:List Nat)(w:Nat):cZ f g ps (l++[w])=(cZ f g ps l).set w (f*(cZ f g ps l).getD w 0+g):=by
 unfold cZ;rw[XZ];rfl
theorem iT(f g:Rat):∀(l:List Nat)(ps:List Rat),(cZ f g ps l).length=ps.length
 | [],ps=>rfl
 | w::l,ps=>by
  show(cZ f g (ps.set w _) l).length=_
  rw[iT f g l,VC]
theorem LY(h:w≠j):(ps.set w y).getD j 0=ps.getD j 0:=by
 rw[wa,VN,if_neg h,wa]
theorem PY(h:w<ps.length):(ps.set w y).getD w 0=y:=by
 rw[wa,VN,if_pos rfl,if_pos h];rfl
theorem jI(f g:Rat):∀(l:List Nat)(ps:List Rat),l.Nodup->(∀w∈l,w<ps.length)->∀j,(cZ f g ps l).getD j 0=if j∈l then f*ps.getD j 0+g else ps.getD j 0
 | [],ps,_,_,j=>by simp[cZ]
 | w::l,ps,nd,hl,j=>by
  have nd':=WW.mp nd
  show(cZ f g (ps.set w _) l).getD j 0=_
  rw[jI f g l _ nd'.2 (λv hv=>by rw[VC];exact hl v (wy _ hv)) j]
  by_cases hj:j=w
  ·subst hj
   rw[if_neg nd'.1,if_pos (wz ..),PY (hl j (wz ..))]
  ·rw[LY (WE hj)]
   by_cases hm:j∈l
   ·rw[if_pos hm,if_pos (wy _ hm)]
   ·rw[if_neg hm,if_neg (λz=>by rcases wF.mp z with z | z;(exact hj z);exact hm z)]
theorem zuZ(ps:List Rat)(left:List Nat):bW left (aG ps left)=left.filter λw=>decide (ps.getD w 0<1):=by
 unfold bW;refine vO λw hw=>?_
 have e:(w∈aG ps left)=(¬ ps.getD w 0<1):=by
  unfold aG;rw[vg];simp[hw]
 simp only[e];simp
theorem Du(ps:List Rat)(left:List Nat):(aG ps left).length+(bW left (aG ps left)).length=left.length:=by
 rw[zuZ];unfold aG
 induction left with
 | nil=>rfl
 | cons w l ih=>by_cases h:ps.getD w 0<1<;>simp only[W4,h,decide_true,decide_false,Wv,QN,if_true,if_false,ve,vo]<;>lia
theorem nB{wave:List Nat}(h:left.Nodup):(bW left wave).Nodup:=h.filter _
theorem nX{wave:List Nat}(h:∀w∈left,w<n):∀w∈bW left wave,w<n:=λw hw=>h w (vg.mp hw).1
theorem MA(left:List Nat)(ps:List Rat):(jh left ps).length=ps.length:=by simp[jh]
theorem nI(h:j<ps.length):(jh left ps).getD j 0=if j∈left then ps.getD j 0 else 0:=by
 unfold jh;rw[wa,wu,vM h]
 rfl
theorem fH(xs:List Rat):(bK xs).length=xs.length:=by simp[bK]
theorem p_{a b:Rat} : ∀(n:Nat)(ps:List Rat)(left:List Nat),(cT a b n ps left).2.2.length=ps.length
 | 0,ps,left=>rfl
 | n+1,ps,left=>by
  by_cases h:aG ps left=[]
  ·rw[oG h]
  ·rw[jy h]
   show(cT a b n _ _).2.2.length=_
   rw[p_ n,iT]
theorem jw(a b:Rat)(xs:List Rat):(dC a b xs).length=xs.length:=by
 unfold dC eH;rw[MA,p_,fH]
theorem Cm.Kp(h0:0<B)(h1:Bd m B)(h:∀j,j<ps.length->∃t:Int,ps.getD j 0=wB t B/\Bd m t):∀x∈ps,∃t:Int,x=wB t B/\Bd m t:=λx hx=>by
 obtain⟨j,hj,e⟩:=wX hx;have:=h j hj;rw[wa,wc hj]at this;rw[<- e];exact this
theorem tT{a b:Rat}(ba:ag 10 a)(bb:ag 10 b){m:Nat}{t:Int}(h:Bd m t):∀n:Nat,Bd (m+21*n) (t*((a.den:Int)*(b.den:Int))^n)
 | 0=>by simpa using h
 | n+1=>by
  rw[V9,<- qi];exact((tT ba bb h n).mul (ba.b.mul bb.b)).mono (by lia)
theorem rA{d:Int}(h0:0<B)(hd:0<d):wB t B=wB (t*d) (B*d):=by
 symm
 refine gj (by have:=vQ h0 hd;lia) ?_;have q1:=de t (show B≠0 by lia);rw[vS,vS,<- Uf,q1]
theorem Cm.wave(c:Cm m (h::ps))(ba:ag 10 a)(bb:ag 10 b)(n:Nat){l:List Nat}(nd:l.Nodup)(hl:∀w∈l,w<ps.length):Cm (m+21*n) (h::cZ (a^n) (aE a b n) ps l):=by
 obtain⟨B,h0,h1,h2⟩:=c;have hz:Bd m (0:Int):=⟨by simp;exact Wi m⟩;obtain⟨p1,p2,_⟩:=pY ba bb h0 hz h1 n;have hd:0<((a.den:Int)*(b.den:Int))^n:=ue (vQ (den_pos a) (den_pos b));refine⟨_,p1,p2,λx hx=>?_⟩;rcases wF.mp hx with rfl | hx
 ·obtain⟨t,rfl,ht⟩:=h2 x (wz ..)
  exact⟨_,rA h0 hd,tT ba bb ht n⟩
 ·refine Cm.Kp p1 p2 (λj hj=>?_) x hx
  rw[iT]at hj;obtain⟨t,e,ht⟩:=h2 (ps.getD j 0) (wy _ (getD_mem hj));rw[jI _ _ _ _ nd hl]
  split
  ·obtain⟨_,_,T,e2,hT⟩:=pY ba bb h0 ht h1 n
   exact⟨T,by rw[<- ib,e,e2],hT⟩
  ·exact⟨_,by rw[e];exact rA h0 hd,tT ba bb ht n⟩
theorem Cm.rise{M:Rat}(c:Cm m (h::xs))(hM:M∈xs):Cm (m+2) ((h+(1-M))::xs.map (· + (1-M))):=by
 obtain⟨B,h0,h1,h2⟩:=c;obtain⟨z,ez,hz⟩:=h2 M (wy _ hM)
 have key:∀t:Int,Bd m t->wB t B+(1-M)=wB (t+B-z) B/\Bd (m+2) (t+B-z):=λt ht=>by
  refine⟨?_,((ht.add h1).sub hz).mono (by lia)⟩;rw[ez]
  symm
  refine gj (by lia) ?_;have q1:=de t (show B≠0 by lia);have q2:=de z (show B≠0 by lia);have q3:((t+B-z:Int):Rat)=(t:Rat)+(B:Rat)-(z:Rat):=by push_cast;rfl
  rw[q3,<- q1,<- q2]
  grind
 refine⟨B,h0,h1.mono (by lia),λx hx=>?_⟩;rcases wF.mp hx with rfl | hx
 ·obtain⟨t,e,ht⟩:=h2 h (wz ..)
  rw[e];exact⟨_,(key t ht).1,(key t ht).2⟩
 ·obtain⟨y,hy,rfl⟩:=wU.mp hx
  obtain⟨t,e,ht⟩:=h2 y (wy _ hy)
  show ∃t:Int,y+(1-M)=_/\_
  rw[e];exact⟨_,(key t ht).1,(key t ht).2⟩
theorem Cm.kB(c:Cm m xs)(h:∀y∈ys,y∈xs\/y=0):Cm m ys:=by
 obtain⟨B,h0,h1,h2⟩:=c;refine⟨B,h0,h1,λy hy=>?_⟩;rcases h y hy with z | rfl
 ·exact h2 y z
 ·exact⟨0,by simp,⟨by simp;exact Wi m⟩⟩
theorem zyL : ∀y∈jh left ps,y∈ps\/y=0:=λy hy=>by
 unfold jh at hy;obtain⟨i,hi,e⟩:=wU.mp hy;rw[<- e]
 split
 ·exact .inl (getD_mem (wH.mp hi))
 ·exact .inr rfl
theorem Cm.Y0(h:∀i,ag k (xs.getD i 0)):Cm (k*xs.length+1+k) xs:=by
 have h0:=Pw xs xs.length;have h1:=Yb h xs.length;refine⟨mT xs xs.length,h0,h1.mono (by lia),Cm.Kp h0 (h1.mono (by lia)) λj hj=>?_⟩;exact⟨_,(zt0 h0 (R8 xs _ j hj)).symm,((h j).t.mul (zAZ (den_pos _) h0 h1)).mono (by lia)⟩
def ai(a b:Rat)(xs:List Rat):Nat->List Rat
 | 0=>xs
 | k+1=>dC a b (ai a b xs k)
def aF(a b:Rat)(xs:List Rat):Nat->Rat
 | 0=>0
 | k+1=>aF a b xs k+(1-cb (ai a b xs k))
theorem aY(a b:Rat)(xs:List Rat):∀k,(ai a b xs k).length=xs.length
 | 0=>rfl
 | k+1=>by rw[ai,jw,aY a b xs k]
theorem zj{f:Rat->Rat}(h:w<xs.length):(xs.map f).getD w 0=f (xs.getD w 0):=by
 rw[wa,wu,wc h,wa,wc h];rfl
def kf(d:Int)(m:Nat)(xs:List Rat):Prop:=∃B:Int,0<B/\d ∣ B/\Bd m B /\ ∀x∈xs,∃t:Int,x=wB t B/\Bd m t
theorem kf.of{d:Int}(h:Cm m xs)(hd:0<d)(b:Bd 4 d):kf d (m+4) xs:=by
 obtain⟨B,h0,h1,h2⟩:=h;refine⟨B*d,vQ h0 hd,uo ..,(h1.mul b),λx hx=>?_⟩;obtain⟨t,e,ht⟩:=h2 x hx;exact⟨t*d,by rw[e];exact rA h0 hd,ht.mul b⟩
theorem R4{a b:Rat}(ta:Bd 6 a.num)(da:Bd 4 (a.den:Int))(tb:Bd 4 b.num){m:Nat}{t u:Int}(hu:0<u)(hd:(b.den:Int) ∣ u)(bt:Bd m t)(bu:Bd m u):∀n:Nat,0<u*(a.den:Int)^n/\(b.den:Int) ∣ u*(a.den:Int)^n/\Bd (m+9*n) (u*(a.den:Int)^n) /\
  ∃T:Int,push a b n (wB t u)=wB T (u*(a.den:Int)^n)/\Bd (m+9*n) T
 | 0=>⟨by simpa using hu,by simpa using hd,by simpa using bu,t,by simp[push],by simpa using bt⟩
 | n+1=>by
  obtain⟨h1,hdv,h2,T,e,hT⟩:=R4 ta da tb hu hd bt bu n;have eb:u*(a.den:Int)^(n+1)=u*(a.den:Int)^n*(a.den:Int):=by rw[V9,<- qi]
  rw[eb];generalize u*(a.den:Int)^n=U at *;obtain⟨c,rfl⟩:=hdv
  have hc:0<c:=by
   have hb:=den_pos b;rcases Int.lt_or_le 0 c with z | z
   ·exact z
   ·have:=Int.mul_nonpos_of_nonneg_of_nonpos (Int.le_of_lt hb) z
    lia
  have bc:Bd (m+9*n) c:=h2.le (by
   rw[xW];exact Nat.le_mul_of_pos_left _ (by have:=den_pos b;lia))
  refine⟨vQ h1 (den_pos a),qj (Vi ..) (Vi ..),(h2.mul da).mono (by lia),a.num*T+b.num*(a.den:Int)*c,?_,((ta.mul hT).add ((tb.mul da).mul bc)).mono (by lia)⟩;rw[push,e]
  symm
  have hU:((b.den:Int)*c)*(a.den:Int)≠0:=by have:=vQ h1 (den_pos a);lia
  refine gj hU ?_;have q1:=de T (show(b.den:Int)*c≠0 by lia);have q2:=j7 a;have q3:=j7 b;have q4:((a.num*T+b.num*(a.den:Int)*c:Int):Rat)=(a.num:Rat)*(T:Rat)+(b.num:Rat)*((a.den:Int):Rat)*(c:Rat):=by push_cast;rfl
  have q5:(((b.den:Int)*c*(a.den:Int):Int):Rat)=((b.den:Int):Rat)*(c:Rat)*((a.den:Int):Rat):=by push_cast;rfl
  have q6:(((b.den:Int)*c:Int):Rat)=((b.den:Int):Rat)*(c:Rat):=by push_cast;rfl
  rw[q6]at q1;rw[q4,q5,<- q1,<- q2,<- q3]
  grind
theorem cw(a b:Rat)(xs:List Rat)(m:Nat):∀k,ai a b (ai a b xs m) k=ai a b xs (m+k)
 | 0=>rfl
 | k+1=>by rw[ai,cw a b xs m k];rfl
theorem kj(a b:Rat)(xs:List Rat)(m:Nat):∀k,aF a b xs m+aF a b (ai a b xs m) k=aF a b xs (m+k)
 | 0=>by show aF a b xs m+0=aF a b xs m;grind
 | k+1=>by
  have:=kj a b xs m k
  show aF a b xs m+(aF a b (ai a b xs m) k+(1-cb (ai a b (ai a b xs m) k)))=aF a b xs (m+k)+(1-cb (ai a b xs (m+k)))
  rw[cw,<- this]
  grind
theorem Sy{a b:Rat}(a0:0<a)(b0:0<=b){x:Rat}(h:0<x):∀n:Nat,0<push a b n x
 | 0=>h
 | n+1=>by
  have h1:=Sy a0 b0 h n;have h2:=VZ a0 h1
  show 0<a*push a b n x+b
  grind
structure h9(l:List Rat):Prop where
 pw:l.Pairwise (· > ·)
 nn:∀y∈l,0<=y
theorem h9.step(a0:0<a)(b0:0<=b)(h:h9 (x::l))(x1:x<1):h9 (mz a b n (x::l)):=by
 have hp:=W9.mp h.pw;have pos:∀y∈l,0<push a b n (y+(1-x)):=λy hy=>Sy a0 b0 (by have:=h.nn y (wy _ hy);grind) n
 unfold mz;refine⟨qH.mpr ⟨?_,xv _ _,?_⟩,λy hy=>?_⟩
 ·show(l.map λy=>push a b n (y+(1-x))).Pairwise (· > ·)
  rw[qw];refine hp.2.imp λ{y z} hyz=>?_
  show push a b n (z+(1-x))<push a b n (y+(1-x))
  have hyz:z<y:=hyz;exact(ZK a0 n _ _).mpr (by grind)
 ·intro y hy z hz
  obtain⟨w,hw,rfl⟩:=wU.mp hy;rw[w6.mp hz];exact pos w hw
 ·rcases vX.mp hy with hy | hy
  ·obtain⟨w,hw,rfl⟩:=wU.mp hy
   exact vT (pos w hw)
  ·rw[w6.mp hy];exact WZ
structure gU(xs row:List Rat)(fl:Nat->Nat):Prop where
 at':∀w,w<xs.length->xs.getD w 0=row.getD (fl w) 0
 lt:∀w,w<xs.length->fl w<row.length
def bD(n:Nat)(fl:Nat->Nat)(c:Nat):List Nat:=(wt n).filter λw=>decide (fl w=c)
theorem sh{row:List Rat}(h:gU xs row fl)(some:∃w,w<xs.length/\fl w=c)(top:∀j,j<row.length->j≠c->row.getD j 0<row.getD c 0):cb xs=row.getD c 0:=by
 obtain⟨w,hw,rfl⟩:=some;have h1:1<=xs.length:=by lia
 refine Rat.le_antisymm ?_ ?_
 ·obtain⟨j,hj,e⟩:=wX (ic h1)
  have ea:=h.at' j hj;rw[wa,wc hj]at ea;have ea:xs[j]=row.getD (fl j) 0:=ea;rw[<- e,ea]
  by_cases z:fl j=fl w
  ·rw[z];exact WZ
  ·exact vT (top _ (h.lt j hj) z)
 ·rw[<- h.at' w hw]
  exact L5 _ (getD_mem hw)
theorem EG{row:List Rat}(h:gU xs row fl)(some:∃w,w<xs.length/\fl w=c)(top:∀j,j<row.length->j≠c->row.getD j 0<row.getD c 0):aG (bK xs) (wt xs.length)=bD xs.length fl c:=by
 unfold aG bD;refine vO λw hw=>?_
 have hw:=wH.mp hw;have hm:=sh h some top
 have e:(bK xs).getD w 0=row.getD (fl w) 0+(1-row.getD c 0):=by
  unfold bK;rw[wa,wu,wc hw,hm];have ea:=h.at' w hw;rw[wa,wc hw]at ea;have ea:xs[w]=row.getD (fl w) 0:=ea
  show xs[w]+(1-row.getD c 0)=_
  rw[ea]
 rw[e]
 by_cases z:fl w=c
 ·rw[z,decide_eq_true rfl,decide_eq_false (by grind)];rfl
 ·have:=top _ (h.lt w hw) z
  rw[decide_eq_false z,decide_eq_true (by grind)];rfl
theorem M1{row:List Rat}(h:gU xs row fl)(hm:cb xs=row.getD c 0)(hw:w<xs.length):(bK xs).getD w 0=row.getD (fl w) 0+(1-row.getD c 0):=by
 unfold bK;rw[wa,wu,wc hw,hm];have ea:=h.at' w hw;rw[wa,wc hw]at ea;have ea:xs[w]=row.getD (fl w) 0:=ea
 show xs[w]+(1-row.getD c 0)=_
 rw[ea]
theorem Zo{row:List Rat}(h:gU xs row fl)(some:∃w,w<xs.length/\fl w=c)(top:∀j,j<row.length->j≠c->row.getD j 0<row.getD c 0)
  (low:∀j,j<row.length->j≠c->(∃w,w<xs.length/\fl w=j)->push a b (bD xs.length fl c).length (row.getD j 0+(1-row.getD c 0))<1) :
  cE a b xs=[bD xs.length fl c]/\gU (dC a b xs) (dM a b (bD xs.length fl c).length row c) fl:=by
 have hm:=sh h some top;have he:=EG h some top;obtain⟨w0,hw0,hf0⟩:=some
 have hne:bD xs.length fl c≠[]:=λe=>by
  have:w0∈bD xs.length fl c:=vg.mpr ⟨wH.mpr hw0,decide_eq_true hf0⟩;rw[e]at this;cases this
 have hlen:xs.length=(xs.length-1)+1:=by lia
 have hcl:c<row.length:=by rw[<- hf0];exact h.lt w0 hw0
 have nd:=W5 (n:=xs.length)
 have hmemL:∀w,w∈bW (wt xs.length) (bD xs.length fl c) ↔ w<xs.length/\fl w≠c:=λw=>by
  unfold bW bD;rw[vg,wH]
  constructor
  ·rintro ⟨h1,h2⟩
   refine⟨h1,λz=>?_⟩;have:w∈(wt xs.length).filter λw=>decide (fl w=c):=vg.mpr ⟨wH.mpr h1,decide_eq_true z⟩
   simp[this]at h2
  ·rintro ⟨h1,h2⟩
   exact⟨h1,by simp[h2]⟩
 have hps:∀w,w<xs.length->fl w≠c->(cZ (a^(bD xs.length fl c).length) (aE a b (bD xs.length fl c).length) (bK xs) (bW (wt xs.length) (bD xs.length fl c))).getD w 0=push a b (bD xs.length fl c).length (row.getD (fl w) 0+(1-row.getD c 0)):=λw hw hf=>by
  rw[jI _ _ _ _ (nB nd) (λv hv=>by rw[fH];exact((hmemL v).mp hv).1),if_pos ((hmemL w).mpr ⟨hw,hf⟩),M1 h hm hw,ib]
 have hend:aG (cZ (a^(bD xs.length fl c).length) (aE a b (bD xs.length fl c).length) (bK xs) (bW (wt xs.length) (bD xs.length fl c))) (bW (wt xs.length) (bD xs.length fl c))=[]:=by
  unfold aG;rw[xQ];intro w hw;have hw':=(hmemL w).mp hw;rw[hps w hw'.1 hw'.2];have:=low (fl w) (h.lt w hw'.1) hw'.2 ⟨w,hw'.1,rfl⟩;rw[decide_eq_true this]
  decide
 have hR:eH a b xs=([bD xs.length fl c],bW (wt xs.length) (bD xs.length fl c),cZ (a^(bD xs.length fl c).length) (aE a b (bD xs.length fl c).length) (bK xs) (bW (wt xs.length) (bD xs.length fl c))):=by
  unfold eH;generalize hN:cT a b xs.length (bK xs) (wt xs.length)=r;rw[show cT a b xs.length (bK xs) (wt xs.length)=cT a b ((xs.length-1)+1) (bK xs) (wt xs.length) by rw[<- hlen],jy (by rw[he];exact hne),he,oG hend]at hN;exact hN.symm
 refine⟨by unfold cE;rw[hR],λw hw=>?_,λw hw=>by rw[iF];exact h.lt w (by rw[jw]at hw;exact hw)⟩;rw[jw]at hw;have hfw:=h.lt w hw;unfold dC;rw[hR,nI (by rw[iT,fH];exact hw),gG _ _ _ _ _ _ hfw]
 by_cases z:fl w=c
 ·rw[if_neg (λy=>((hmemL w).mp y).2 z),if_pos z]
 ·rw[if_pos ((hmemL w).mpr ⟨hw,z⟩),if_neg z,hps w hw z]
theorem zrV{row:List Rat}(h:gU xs row fl)(some:∃w,w<xs.length/\fl w=c)(top:∀j,j<row.length->j≠c->row.getD j 0<row.getD c 0)
  {w1:Nat} (hw1:w1<xs.length) (hf1:fl w1≠c) (up:¬ push a b (bD xs.length fl c).length (row.getD (fl w1) 0+(1-row.getD c 0))<1):1<(cE a b xs).length:=by
 have hm:=sh h some top;have he:=EG h some top;obtain⟨w0,hw0,hf0⟩:=some
 have hne:bD xs.length fl c≠[]:=λe=>by
  have:w0∈bD xs.length fl c:=vg.mpr ⟨wH.mpr hw0,decide_eq_true hf0⟩;rw[e]at this;cases this
 have hw01:w0≠w1:=λe=>hf1 (by rw[<- e];exact hf0)
 have hlen:xs.length=(xs.length-2)+1+1:=by lia
 have nd:=W5 (n:=xs.length)
 have hmem:w1∈bW (wt xs.length) (bD xs.length fl c):=by
  unfold bW bD;rw[vg,wH];exact⟨hw1,by simp[hf1]⟩
 have hend:aG (cZ (a^(bD xs.length fl c).length) (aE a b (bD xs.length fl c).length) (bK xs) (bW (wt xs.length) (bD xs.length fl c))) (bW (wt xs.length) (bD xs.length fl c))≠[]:=λe=>by
  have:w1∈aG (cZ (a^(bD xs.length fl c).length) (aE a b (bD xs.length fl c).length) (bK xs) (bW (wt xs.length) (bD xs.length fl c))) (bW (wt xs.length) (bD xs.length fl c)):=by
   unfold aG;refine vg.mpr ⟨hmem,?_⟩;rw[jI _ _ _ _ (nB nd) (λv hv=>by rw[fH];exact wH.mp (vg.mp hv).1),if_pos hmem,M1 h hm hw1,<- ib,decide_eq_false up]
   rfl
  rw[e]at this;cases this
 unfold cE eH;rw[show cT a b xs.length (bK xs) (wt xs.length)=cT a b ((xs.length-2)+1+1) (bK xs) (wt xs.length) by rw[<- hlen],jy (by rw[he];exact hne),he,jy hend]
 show 1<(_::_::_:List (List Nat)).length
 simp
theorem Nz{row:List Rat}(hi:i<=row.length)(hj:j<row.length):(aM a b ns row i).getD j 0∈turned a b ns row i:=by
 have hl:=c_ a b ns row i;rw[nv a b ns row i hi];have hm:(aM a b ns row i).getD j 0∈aM a b ns row i:=getD_mem (by lia);generalize (aM a b ns row i).getD j 0=y at hm;have hm2:y∈(aM a b ns row i).take i++(aM a b ns row i).drop i:=by rw[xY];exact hm
 rcases vX.mp hm2 with z | z
 ·exact vX.mpr (.inr z)
 ·exact vX.mpr (.inl z)
theorem DM{row:List Rat}(h:h9 (turned a b ns row i))(hi:i<row.length)(hj:j<row.length)(hne:j≠i):(aM a b ns row i).getD j 0<(aM a b ns row i).getD i 0:=by
 have hl:=c_ a b ns row i;have hpw:=h.pw;rw[nv a b ns row i (by lia),qQ (by lia),xn]at hpw;have hp:=(W9.mp hpw).1;have e:(aM a b ns row i).getD i 0=(aM a b ns row i)[i]'(by lia):=by rw[wa,wc (by lia)];rfl
 rw[e];refine hp _ ?_;rw[vX];have ej:(aM a b ns row i).getD j 0=(aM a b ns row i)[j]'(by lia):=by rw[wa,wc (by lia)];rfl
 rw[ej];rcases wA j i with z | z
 ·refine .inr (Xi.mpr ⟨j,by rw[Wq];lia,?_⟩)
  rw[X0]
 ·refine .inl (Xi.mpr ⟨j-(i+1),by rw[vR];lia,?_⟩)
  rw[X1]
  congr 1
  lia
def eJ(a b:Rat)(ns:List Int)(row:List Rat)(i:Nat):Rat:=(aM a b ns row (i+1)).getD ((i+1) % row.length) 0
structure fJ(xs row:List Rat)(fl:Nat->Nat)(ns:List Int):Prop where
 pl:gU xs row fl
 mR:h9 row
 one:row.getD 0 0<1
 len:ns.length=row.length
 some:∀c,c<row.length->∃w,w<xs.length/\fl w=c
 size:∀c,c<row.length->(ns.getD c 0).toNat=(bD xs.length fl c).length
theorem Ab{a b:Rat}(a0:0<a)(b0:0<=b){xs row:List Rat}{fl:Nat->Nat}{ns:List Int}(h:fJ xs row fl ns):∀i,i<=row.length->(∀t,t<i->eJ a b ns row t<1)->gU (ai a b xs i) (aM a b ns row i) fl/\h9 (turned a b ns row i)/\(i<row.length->(aM a b ns row i).getD i 0<1) /\ ∀t,t<i->cE a b (ai a b xs t)=[bD xs.length fl t]
 | 0,_,_=>⟨h.pl,h.mR,λ_=>h.one,λt ht=>by lia⟩
 | i+1,hi,ht=>by
  obtain⟨P,F,o,W⟩:=Ab a0 b0 h i (by lia) (λt ht'=>ht t (by lia));have hl:=c_ a b ns row i;have hpl:=aY a b xs i;have hi':i<row.length:=by lia
  have oi:=o hi';have ti:=ht i (by lia)
  have hne:turned a b ns row i≠[]:=λe=>by
   have:=GN a b ns row (by lia) i;rw[e]at this;simp at this;lia
  obtain⟨x,l,ex⟩:∃x l,turned a b ns row i=x::l:=by
   cases e:turned a b ns row i with
   | nil=>exact absurd e hne
   | cons x l=>exact⟨x,l,rfl⟩
  have hx:x=(aM a b ns row i).getD i 0:=by
   have:=CW a b ns row hi';rw[ex]at this;exact this
  have F1:h9 (turned a b ns row (i+1)):=by
   show h9 (mz a b (ns.getD i 0).toNat (turned a b ns row i))
   rw[ex]at F ⊢;exact F.step a0 b0 (by rw[hx];exact oi)
  have hsz:(ns.getD i 0).toNat=(bD (ai a b xs i).length fl i).length:=by rw[hpl];exact h.size i hi'
  have hrow:aM a b ns row (i+1)=dM a b (bD (ai a b xs i).length fl i).length (aM a b ns row i) i:=by rw[<- hsz];rfl
  have headTop:(turned a b ns row (i+1)).headD 0=eJ a b ns row i:=by
   unfold eJ;rcases wA (i+1) row.length with z | z
   ·rw[CW a b ns row z,xp z]
   ·have e:i+1=row.length:=by lia
    rw[e,Nat.mod_self,nv a b ns row _ (wo _)];have hl1:=c_ a b ns row row.length;rw[xP (by lia),WF (by lia),QD];cases e2:aM a b ns row row.length with
    | nil=>rw[e2]at hl1;simp at hl1;lia
    | cons y m=>rfl
  have below:∀y∈turned a b ns row (i+1),y<1:=λy hy=>by
   have hpw:=F1.pw;cases e2:turned a b ns row (i+1)with
   | nil=>rw[e2]at hy;cases hy
   | cons z m =>
    rw[e2]at hy hpw headTop
    have hz:z<1:=by
     have:z=eJ a b ns row i:=headTop;rw[this];exact ti
    rcases wF.mp hy with rfl | hy
    ·exact hz
    ·have:=(W9.mp hpw).1 y hy
     have:y<z:=this
     grind
  have G:=Zo (a:=a) (b:=b) (c:=i) P (by obtain⟨w,h1,h2⟩:=h.some i hi';exact⟨w,by lia,h2⟩) (λj hj hji=>DM F hi' (by lia) hji) (λj hj hji _=>by
   have hm:=Nz (a:=a) (b:=b) (ns:=ns) (row:=row) (i:=i+1) (j:=j) hi (by lia);have:=below _ hm;rw[hrow,gG _ _ _ _ _ _ hj,if_neg hji]at this;exact this)
  refine⟨by rw[hrow];exact G.2,F1,λhlt=>?_,λt ht'=>?_⟩
  ·have:=below _ (Nz (a:=a) (b:=b) (ns:=ns) (row:=row) (i:=i+1) (j:=i+1) hi hlt)
   exact this
  ·rcases wA t i with z | z
   ·exact W t z
   ·have:t=i:=by lia
    subst this;have:=G.1;rw[hpl]at this;exact this
def f_(xs:List Rat)(v:Rat):List Nat:=(wt xs.length).filter λw=>decide (xs.getD w 0=v)
def iR:Nat->List Rat->List Rat
 | 0,_=>[]
 | _+1,[]=>[]
 | n+1,x::l=>cb (x::l)::iR n ((x::l).filter λy=>!decide (y=cb (x::l)))
def aj(xs:List Rat):List Rat:=iR xs.length xs
theorem Gu(n:Nat):iR n []=[]:=by cases n<;>rfl
theorem oB(h:l≠[]):iR (n+1) l=cb l::iR n (l.filter λy=>!decide (y=cb l)):=by
 cases l with
 | nil=>exact absurd rfl h
 | cons x l=>rfl
theorem O9(h:l≠[]):(l.filter λy=>!decide (y=cb l)).length<l.length:=by
 have hm:cb l∈l:=ic (qf.mpr h);rcases wA (l.filter λy=>!decide (y=cb l)).length l.length with z | z
 ·exact z
 ·have:=List.length_filter_eq_length_iff.mp (uL (WK _ _) z) (cb l) hm
  simp at this
theorem EV:∀(n:Nat)(l:List Rat),∀y∈iR n l,y∈l
 | 0,l,y,h=>by cases h
 | n+1,[],y,h=>by cases h
 | n+1,x::l,y,h=>by
  rw[oB (by simp)]at h;rcases wF.mp h with rfl | h
  ·exact ic (by simp)
  ·exact(vg.mp (EV n _ y h)).1
theorem jL:∀(n:Nat)(l:List Rat),(iR n l).Pairwise (· > ·)
 | 0,l=>Q5.nil
 | n+1,[]=>Q5.nil
 | n+1,x::l=>by
  rw[oB (by simp)];refine W9.mpr ⟨λy hy=>?_,jL n _⟩;have hf:=vg.mp (EV n _ y hy);have h1:=L5 y hf.1;have h2:¬ y=cb (x::l):=by simpa using hf.2
  show y<cb (x::l)
  exact Qa h1 h2
theorem KN:∀(n:Nat)(l:List Rat),l.length<=n->∀y∈l,y∈iR n l
 | 0,l,h,y,hy=>by
  have:l=[]:=Ql.mp (by lia);rw[this]at hy;cases hy
 | n+1,[],h,y,hy=>by cases hy
 | n+1,x::l,h,y,hy=>by
  rw[oB (by simp)]
  by_cases z:y=cb (x::l)
  ·rw[z];exact wz ..
  ·have hl:=O9 (l:=x::l) (by simp)
   refine wy _ (KN n _ (by lia) y (vg.mpr ⟨hy,by simp[z]⟩))
def aV(xs:List Rat)(w:Nat):Nat:=(aj xs).idxOf (xs.getD w 0)
theorem rG(h:y∈xs):y∈aj xs:=KN _ _ (wo _) y h
theorem ky(h:y∈aj xs):y∈xs:=EV _ _ y h
theorem kM(xs:List Rat):gU xs (aj xs) (aV xs):=by
 have key:∀w,w<xs.length->aV xs w<(aj xs).length:=λw hw=>List.idxOf_lt_length_of_mem (rG (getD_mem hw))
 refine⟨λw hw=>?_,key⟩;rw[wa (l:=aj xs),wc (key w hw)];exact(List.getElem_idxOf (key w hw)).symm
theorem Dr(hw:w<xs.length)(hc:c<(aj xs).length):aV xs w=c ↔ xs.getD w 0=(aj xs).getD c 0:=by
 have P:=kM xs;have e:=P.at' w hw;have hl:=P.lt w hw
 constructor
 ·rintro rfl;exact e
 ·intro h
  rw[e]at h;rcases WU (aV xs w) c with z | z | z
  ·have:=(We.mp (jL xs.length xs)) (aV xs w) c hl hc z
   rw[wa,wc hl,wa,wc hc]at h;have h:(aj xs)[aV xs w]=(aj xs)[c]:=h;have this:(aj xs)[c]<(aj xs)[aV xs w]:=this;rw[h]at this;exact absurd this (by grind)
  ·exact z
  ·have:=(We.mp (jL xs.length xs)) c (aV xs w) hc hl z
   rw[wa,wc hl,wa,wc hc]at h;have h:(aj xs)[aV xs w]=(aj xs)[c]:=h;have this:(aj xs)[aV xs w]<(aj xs)[c]:=this;rw[h]at this;exact absurd this (by grind)
theorem zw2(hc:c<(aj xs).length):bD xs.length (aV xs) c=f_ xs ((aj xs).getD c 0):=by
 unfold bD f_;refine vO λw hw=>?_
 exact decide_eq_decide.mpr (Dr (wH.mp hw) hc)
def aW(xs:List Rat):List Int:=(aj xs).map λv=>((f_ xs v).length:Int)
theorem SW(nn:∀x∈xs,0<=x)(lt:∀x∈xs,x<1):fJ xs (aj xs) (aV xs) (aW xs) where
 pl:=kM xs
 mR:=⟨jL _ _,λy hy=>nn y (ky hy)⟩
 one:=by
  rcases wA 0 (aj xs).length with z | z
  ·exact lt _ (ky (getD_mem z))
  ·rw[wa,wL z];decide
 len:=by unfold aW;rw[wm]
 some:=λc hc=>by
  obtain⟨w,hw,e⟩:=wX (ky (getD_mem (d:=0) hc));refine⟨w,hw,(Dr hw hc).mpr ?_⟩;rw[wa,wc hw];exact e
 size:=λc hc=>by
  rw[zw2 hc];unfold aW;rw[wa,wu,wc hc,wa,wc hc]
  rfl
theorem OC:∀{l m:List Rat},l.Pairwise (· > ·)->m.Pairwise (· > ·)->(∀y,y∈l ↔ y∈m)->l=m
 | [],[],_,_,_=>rfl
 | [],y::m,_,_,h=>by have:=(h y).mpr (wz ..);cases this
 | x::l,[],_,_,h=>by have:=(h x).mp (wz ..);cases this
 | x::l,y::m,hl,hm,h=>by
  have pl:=W9.mp hl;have pm:=W9.mp hm
  have e:x=y:=by
   rcases wF.mp ((h x).mp (wz ..))with z | z
   ·exact z
   ·rcases wF.mp ((h y).mpr (wz ..))with z2 | z2
    ·exact z2.symm
    ·have a1:x<y:=pm.1 x z
     have a2:y<x:=pl.1 y z2
     grind
  subst e;rw[OC pl.2 pm.2 λz=>⟨λhz=>?_,λhz=>?_⟩]
  ·rcases wF.mp ((h z).mp (wy _ hz))with e | e
   ·have:z<x:=pl.1 z hz
    rw[e]at this;exact absurd this (by grind)
   ·exact e
  ·rcases wF.mp ((h z).mpr (wy _ hz))with e | e
   ·have:z<x:=pm.1 z hz
    rw[e]at this;exact absurd this (by grind)
   ·exact e
theorem A0{row:List Rat}(P:gU ys row fl)(F:row.Pairwise (· > ·))(some:∀c,c<row.length->∃w,w<ys.length/\fl w=c):aj ys=row:=by
 refine OC (jL _ _) F λy=>⟨λh=>?_,λh=>?_⟩
 ·obtain⟨w,hw,e⟩:=wX (ky h)
  have ea:=P.at' w hw;rw[wa,wc hw]at ea;have ea:ys[w]=row.getD (fl w) 0:=ea;rw[<- e,ea];exact getD_mem (P.lt w hw)
 ·obtain⟨c,hc,e⟩:=wX h
  obtain⟨w,hw,hf⟩:=some c hc;have ea:=P.at' w hw;rw[hf,wa (l:=row),wc hc]at ea;have ea:ys.getD w 0=row[c]:=ea;rw[<- e,<- ea];exact rG (getD_mem hw)
def eO(a b:Rat)(ns:List Int)(row:List Rat):Nat->Rat
 | 0=>0
 | k+1=>eO a b ns row k+(1-(aM a b ns row k).getD k 0)
theorem RO{a b:Rat}(a0:0<a)(b0:0<=b){xs row:List Rat}{fl:Nat->Nat}{ns:List Int}(h:fJ xs row fl ns):∀i,i<=row.length->(∀t,t<i->eJ a b ns row t<1)->aF a b xs i=eO a b ns row i
 | 0,_,_=>rfl
 | i+1,hi,ht=>by
  have ht':∀t,t<i->eJ a b ns row t<1:=λt z=>ht t (by lia)
  obtain⟨P,F,_,_⟩:=Ab a0 b0 h i (by lia) ht';have hpl:=aY a b xs i;have hl:=c_ a b ns row i;have hm:=sh (c:=i) P (by obtain⟨w,h1,h2⟩:=h.some i (by lia);exact⟨w,by lia,h2⟩) (λj hj hji=>DM F (by lia) (by lia) hji);rw[aF,eO,RO a0 b0 h i (by lia) ht',hm]
theorem zwv(a0:0<a)(b0:0<=b){row:List Rat}(h:fJ xs row fl ns){t:Nat}(ht:t<row.length)(free:∀s,s<t->eJ a b ns row s<1)(up:¬ eJ a b ns row t<1):1<(cE a b (ai a b xs t)).length:=by
 obtain⟨P,F,o,_⟩:=Ab a0 b0 h t (by lia) free;have hpl:=aY a b xs t;have hl:=c_ a b ns row t;have hsz:(ns.getD t 0).toNat=(bD (ai a b xs t).length fl t).length:=by rw[hpl];exact h.size t ht
 have hrow:aM a b ns row (t+1)=dM a b (bD (ai a b xs t).length fl t).length (aM a b ns row t) t:=by rw[<- hsz];rfl
 have hj:(t+1) % row.length<row.length:=qm _ (by lia)
 have hne:(t+1) % row.length≠t:=λe=>by
  apply up
  unfold eJ;rw[hrow,e,gG _ _ _ _ _ _ (by lia),if_pos rfl]
  decide
 obtain⟨w1,hw1,hf1⟩:=h.some _ hj;refine zrV (c:=t) P (by obtain⟨w,h1,h2⟩:=h.some t ht;exact⟨w,by lia,h2⟩) (λj hj hji=>DM F ht (by lia) hji) (w1:=w1) (by lia) (by rw[hf1];exact hne) ?_;intro z
 apply up
 unfold eJ;rw[hrow,gG _ _ _ _ _ _ (by lia),if_neg hne,<- hf1];exact z
theorem pk{a b:Rat}(a0:0<a)(b0:0<=b):∀n:Nat,0<=aE a b n
 | 0=>WZ
 | n+1=>by
  have h1:=pk a0 b0 n;have h2:=Qj (vT a0) h1
  show 0<=a*aE a b n+b
  grind
theorem EY{a b:Rat}(a0:0<a)(b0:0<=b):∀(n:Nat)(ps:List Rat)(left:List Nat),left.length<=n->left.Nodup->(∀w∈left,w<ps.length)->(∀w∈left,0<=ps.getD w 0) ->
  ∀w∈(cT a b n ps left).2.1,w∈left/\0<=(cT a b n ps left).2.2.getD w 0/\(cT a b n ps left).2.2.getD w 0<1
 | 0,ps,left,hn,_,_,_=>by
  have:left=[]:=Ql.mp (by lia);subst this;intro w hw;cases (show w∈([]:List Nat)from hw)
 | n+1,ps,left,hn,nd,hlt,nn=>by
  by_cases e:aG ps left=[]
  ·rw[oG e]
   intro w hw;have hw:w∈left:=hw;refine⟨hw,nn w hw,?_⟩;have:¬ w∈aG ps left:=by rw[e];simp
   unfold aG at this;rw[vg]at this
   show ps.getD w 0<1
   by_cases z:ps.getD w 0<1
   ·exact z
   ·exact absurd ⟨hw,by simp only[z,decide_false,QN]⟩ this
  ·rw[jy e]
   have hl:=Du ps left;have hp:=qf.mpr e;have nd':(bW left (aG ps left)).Nodup:=nB nd;have lt':∀w∈bW left (aG ps left),w<(cZ (a^(aG ps left).length) (aE a b (aG ps left).length) ps (bW left (aG ps left))).length:=λw hw=>by rw[iT];exact nX hlt w hw
   have ih:=EY a0 b0 n (cZ (a^(aG ps left).length) (aE a b (aG ps left).length) ps (bW left (aG ps left))) (bW left (aG ps left)) (by lia) nd' lt' (λw hw=>by
    rw[jI _ _ _ _ nd' (nX hlt),if_pos hw];have h1:=nn w (vg.mp hw).1;have h2:=Qj (vT (lQ a0 (aG ps left).length)) h1;have h3:=pk a0 b0 (aG ps left).length
    grind)
   intro w hw;have:=ih w hw;exact⟨(vg.mp this.1).1,this.2⟩
theorem OD(nn:∀x∈xs,0<=x)(lt:∀x∈xs,x<1)(hw:w<xs.length):0<=(bK xs).getD w 0:=by
 have h1:=ic (xs:=xs) (by lia);have h2:=lt _ h1;have h3:=nn _ (getD_mem (d:=0) hw);unfold bK;rw[zj hw]
 grind
theorem Yp(a0:0<a)(b0:0<=b)(nn:∀x∈xs,0<=x)(lt:∀x∈xs,x<1):∀y∈dC a b xs,0<=y/\y<1:=λy hy=>by
 obtain⟨j,hj,e⟩:=wX hy;have hlen:=jw a b xs;have hjx:j<xs.length:=by lia
 have hpl:(eH a b xs).2.2.length=xs.length:=by
  unfold eH;rw[p_,fH]
 have e2:(dC a b xs).getD j 0=y:=by rw[wa,wc hj];exact e
 unfold dC at e2;rw[nI (by lia)]at e2
 split at e2
 ·rename_i hm
  have:=EY a0 b0 xs.length (bK xs) (wt xs.length) (by simp) W5 (λw hw=>by rw[fH];exact wH.mp hw) (λw hw=>OD nn lt (wH.mp hw)) j hm;rw[<- e2];exact this.2
 ·rw[<- e2];exact⟨WZ,by decide⟩
theorem zrS(a0:0<a)(b0:0<=b)(h1:1<=xs.length)(nn:∀x∈xs,0<=x)(lt:∀x∈xs,x<1):0∈dC a b xs:=by
 obtain⟨j,hj,e⟩:=wX (ic h1)
 have hr:(bK xs).getD j 0=1:=by
  unfold bK;rw[zj hj,wa,wc hj]
  show xs[j]+(1-cb xs)=1
  rw[e];grind
 have hend:j∈aG (bK xs) (wt xs.length):=by
  unfold aG;rw[vg];refine⟨wH.mpr hj,?_⟩;rw[hr];decide
 have hne:aG (bK xs) (wt xs.length)≠[]:=λz=>by rw[z]at hend;cases hend
 have hpl:(eH a b xs).2.2.length=xs.length:=by
  unfold eH;rw[p_,fH]
 have hnot:¬ j∈(eH a b xs).2.1:=λz=>by
  unfold eH at z;obtain⟨n,hn⟩:∃n,xs.length=n+1:=⟨xs.length-1,by lia⟩;have hl:=Du (bK xs) (wt xs.length);rw[vx]at hl;have hp:=qf.mpr hne;have z':j∈(cT a b (n+1) (bK xs) (wt xs.length)).2.1:=by rw[<- hn];exact z
  rw[jy hne]at z';have nd':(bW (wt xs.length) (aG (bK xs) (wt xs.length))).Nodup:=nB W5;have ltr:∀w∈wt xs.length,w<(bK xs).length:=λw hw=>by rw[fH];exact wH.mp hw
  have:=EY a0 b0 n _ _ (by lia) nd' (λw hw=>by rw[iT];exact nX ltr w hw) (λw hw=>by
   rw[jI _ _ _ _ nd' (nX ltr),if_pos hw];have h1:=OD nn lt (wH.mp (vg.mp hw).1);have h2:=Qj (vT (lQ a0 (aG (bK xs) (wt xs.length)).length)) h1;have h3:=pk a0 b0 (aG (bK xs) (wt xs.length)).length
   grind) j z'
  have:=(vg.mp this.1).2;simp only[hend,decide_true,Wv]at this;cases this
 have hlen:=jw a b xs
 have hg:(dC a b xs).getD j 0=0:=by
  unfold dC;rw[nI (by lia),if_neg hnot]
 rw[<- hg];exact getD_mem (by lia)
structure cq(xs:List Rat):Prop where
 nn:∀x∈xs,0<=x
 lt:∀x∈xs,x<1
theorem cq.mQ(a0:0<a)(b0:0<=b)(h:cq xs):cq (dC a b xs):=⟨λy hy=>(Yp a0 b0 h.nn h.lt y hy).1,λy hy=>(Yp a0 b0 h.nn h.lt y hy).2⟩
theorem cq.at{a b:Rat}(a0:0<a)(b0:0<=b){xs:List Rat}(h:cq xs):∀k,cq (ai a b xs k)
 | 0=>h
 | k+1=>(cq.at a0 b0 h k).mQ a0 b0
theorem cq.zero(a0:0<a)(b0:0<=b)(h:cq xs)(h1:1<=xs.length)(hk:1<=k):0∈ai a b xs k:=by
 obtain⟨j,rfl⟩:∃j,k=j+1:=⟨k-1,by lia⟩;have:=h.at a0 b0 j;exact zrS a0 b0 (by rw[aY];exact h1) this.nn this.lt
theorem BX(h:cq xs)(h0:0∈xs):(aj xs).dropLast++[0]=aj xs:=by
 have hm:=rG h0;have hne:aj xs≠[]:=λe=>by rw[e]at hm;cases hm
 have hpw:(aj xs).Pairwise (· > ·):=jL _ _
 have hl:(aj xs).getLast hne=0:=by
  have h1:=h.nn _ (ky (List.getLast_mem hne))
  have h2:(aj xs).getLast hne<=0:=by
   have e:=QP hne;rw[<- e]at hm hpw;rcases vX.mp hm with z | z
   ·have:=(qH.mp hpw).2.2 0 z _ (w6.mpr rfl)
    exact vT this
   ·rw[<- w6.mp z];exact WZ
  grind
 have:=QP hne;rw[hl]at this;exact this
theorem nP(h1:1<=xs.length):1<=(aj xs).length:=by
 have:=rG (getD_mem (d:=0) (show 0<xs.length by lia));exact qt this
theorem yi(xs:List Rat):(aW xs).length=(aj xs).length:=by unfold aW;rw[wm]
theorem kN(xs:List Rat):∀n∈aW xs,0<=n:=λn hn=>by
 obtain⟨v,_,rfl⟩:=wU.mp hn
 lia
theorem YC{α : Type}(g h : α -> Nat):∀l:List α,(l.map λv=>g v+h v).sum=(l.map g).sum+(l.map h).sum
 | []=>rfl
 | x::l=>by
  simp only[vd,Vk,YC g h l]
  lia
theorem R6(x:Rat):∀vs:List Rat,vs.Nodup->(vs.map λv=>if x=v then 1 else 0).sum<=1
 | [],_=>by simp
 | v::vs,nd=>by
  have⟨h1,h2⟩:=WW.mp nd;rw[vd,Vk]
  by_cases e:x=v
  ·have z:(vs.map λv=>if x=v then 1 else 0).sum=0:=by
    have:∀ws:List Rat,(∀y∈ws,x≠y)->(ws.map λv=>if x=v then 1 else 0).sum=0:=by
     intro ws
     induction ws with
     | nil=>intro _;rfl
     | cons y ws ih =>
      intro hy;rw[vd,Vk,if_neg (hy y (wz ..)),ih λz hz=>hy z (wy _ hz)]
    exact this vs λy hy z=>h1 (by rw[<- e,z];exact hy)
   rw[z,if_pos e]
   lia
  ·have:=R6 x vs h2
   rw[if_neg e];lia
theorem Oj(f:Nat->Rat)(vs:List Rat)(nd:vs.Nodup):∀l:List Nat,(vs.map λv=>(l.filter λw=>decide (f w=v)).length).sum<=l.length
 | []=>by
  have:∀ws:List Rat,(ws.map λv=>(([]:List Nat).filter λw=>decide (f w=v)).length).sum=0:=by
   intro ws
   induction ws with
   | nil=>rfl
   | cons y ws ih=>rw[vd,Vk,ih];rfl
  rw[this];exact wo _
 | w::l=>by
  have ih:=Oj f vs nd l
  have e:(vs.map λv=>((w::l).filter λw=>decide (f w=v)).length)=vs.map λv=>(if f w=v then 1 else 0)+(l.filter λw=>decide (f w=v)).length:=by
   refine qg λv _=>?_
   rw[W4]
   by_cases z:f w=v
   ·rw[if_pos (by simp[z]),if_pos z,vo];lia
   ·rw[if_neg (by simp[z]),if_neg z];lia
  rw[e,YC,vo];have:=R6 (f w) vs nd
  lia
theorem Et(xs:List Rat):(aj xs).Nodup:=(jL xs.length xs).imp λ{x y} h=>by
 have h:y<x:=h;intro e;rw[e]at h;exact absurd h (by grind)
theorem PB(xs:List Rat):((aW xs).map xD).sum<=xs.length:=by
 have:=Oj (λw=>xs.getD w 0) (aj xs) (Et xs) (wt xs.length);rw[vx]at this
 have e:(aW xs).map xD=(aj xs).map λv=>((wt xs.length).filter λw=>decide (xs.getD w 0=v)).length:=by
  unfold aW;rw[WM];refine qg λv _=>?_
  show((f_ xs v).length:Int).toNat=_
  rw[wP];rfl
 rw[e];exact this
theorem NO(xs:List Rat):upTo (aW xs) (aW xs).length<=xs.length:=by
 unfold upTo;rw[Wr];exact PB xs
theorem ztM(xs:List Rat):∀n∈aW xs,0<=n/\n<=xs.length:=λn hn=>by
 obtain⟨v,_,rfl⟩:=wU.mp hn
 have:(f_ xs v).length<=xs.length:=by
  have:=WK (λw=>decide (xs.getD w 0=v)) (wt xs.length);rw[vx]at this;exact this
 lia
theorem kU(xs:List Rat):(aj xs).length<=xs.length:=by
 have h:∀(n:Nat)(l:List Rat),(iR n l).length<=n:=by
  intro n
  induction n with
  | zero=>intro l;exact wo _
  | succ n ih =>
   intro l
   by_cases e:l=[]
   ·rw[e,Gu];simp
   ·rw[oB e,vo]
    have:=ih (l.filter λy=>!decide (y=cb l))
    lia
 exact h _ _
theorem lB(c:Cm m xs)(h:∀y∈ys,y∈xs):Cm m ys:=c.kB λy hy=>.inl (h y hy)
theorem pe(c:Cm m xs):Cm m (aj xs).dropLast:=lB c λy hy=>ky (by rw[xZ]at hy;exact List.mem_of_mem_take hy)
def seg(n:Nat)(fl:Nat->Nat)(s t:Nat):List Nat:=(wt n).filter λw=>decide (s<=fl w)&&decide (fl w<t)
theorem hV{s t:Nat} : w∈seg n fl s t ↔ w<n/\s<=fl w/\fl w<t:=by
 unfold seg;rw[vg,wH,wZ,decide_eq_true_eq,decide_eq_true_eq]
theorem M9(n:Nat)(fl:Nat->Nat)(s t:Nat):(seg n fl s t).Nodup:=W5.filter _
theorem zxv{s t u:Nat}(h1:s<=t)(h2:t<=u):(seg n fl s t++seg n fl t u).Perm (seg n fl s u):=by
 have e1:(seg n fl s u).filter (λw=>decide (fl w<t))=seg n fl s t:=by
  unfold seg;rw[Qb];refine vO λw _=>?_
  rw[vL];simp only[wZ,decide_eq_true_eq]
  lia
 have e2:(seg n fl s u).filter (λw=>!decide (fl w<t))=seg n fl t u:=by
  unfold seg;rw[Qb];refine vO λw _=>?_
  rw[vL];simp only[wZ,WV,decide_eq_true_eq,decide_eq_false_iff_not]
  lia
 have:=List.filter_append_perm (λw=>decide (fl w<t)) (seg n fl s u);rw[e1,e2]at this;exact this
theorem NS(n:Nat)(fl:Nat->Nat)(s:Nat):seg n fl s s=[]:=by
 unfold seg;rw[xQ];intro w _;simp only[wZ,decide_eq_true_eq]
 lia
inductive jD(n:Nat)(fl:Nat->Nat):Nat->List (List Nat)->Nat->Prop
 | nil (t:Nat):jD n fl t [] t
 | cons {t u v:Nat} {ws:List (List Nat)} : t<u->jD n fl u ws v->jD n fl t (seg n fl t u::ws) v
theorem jD.le{t:Nat}{ws:List (List Nat)}(h:jD n fl t ws v):t<=v:=by
 induction h with
 | nil t=>exact wo t
 | cons h _ ih=>lia
theorem jD.perm{t:Nat}{ws:List (List Nat)}(h:jD n fl t ws v):ws.flatten.Perm (seg n fl t v):=by
 induction h with
 | nil t=>rw[NS];exact List.Perm.refl _
 | cons h k ih =>
  rw[VM];exact(List.Perm.append_left _ ih).trans (zxv (by lia) k.le)
theorem P9(p:Nat->Prop)[DecidablePred p](t:Nat):∀m:Nat,t<=m->(∀c d,t<=c->c<=d->d<m->p d->p c)->∃u,t<=u/\u<=m /\ ∀c,t<=c->c<m->(p c ↔ c<u)
 | 0,h,_=>⟨0,h,wo 0,λc _ hc=>absurd hc (by lia)⟩
 | m+1,h,mono=>by
  rcases wA m t with z | z
  ·exact⟨m+1,h,wo _,λc h1 h2=>absurd h2 (by lia)⟩
  ·by_cases q:p m
   ·exact⟨m+1,h,wo _,λc h1 h2=>⟨λ_=>h2,λ_=>mono c m h1 (by lia) (by lia) q⟩⟩
   ·obtain⟨u,u1,u2,hu⟩:=P9 p t m z (λc d h1 h2 h3=>mono c d h1 h2 (by lia))
    refine⟨u,u1,by lia,λc h1 h2=>?_⟩;rcases wA c m with y | y
    ·exact hu c h1 y
    ·have:c=m:=by lia
     subst this;exact⟨λk=>absurd k q,λk=>absurd k (by lia)⟩
theorem Ar{row:List Rat}(F:row.Pairwise (· > ·)){d:Nat}(h:c<d)(hd:d<row.length):row.getD d 0<row.getD c 0:=by
 have:=We.mp F c d (by lia) hd h;rw[wa,wc hd,wa,wc (by lia)];exact this
theorem zBt{row:List Rat}(F:row.Pairwise (· > ·)){d:Nat}(h:c<=d)(hd:d<row.length):row.getD d 0<=row.getD c 0:=by
 rcases wA c d with z | z
 ·exact vT (Ar F z hd)
 ·rw[show c=d by lia];exact WZ
theorem U3{a b:Rat}(a0:0<a)(b0:0<=b){row:List Rat}{fl:Nat->Nat}{N:Nat}(F:row.Pairwise (· > ·)):∀(n:Nat)(ps:List Rat)(t:Nat)(A B:Rat),t<=row.length->ps.length=N->0<A->(∀w∈seg N fl t row.length,ps.getD w 0=A*row.getD (fl w) 0+B/\0<ps.getD w 0) ->
  ∃(v:Nat)(A' B':Rat),v<=row.length/\0<A'/\jD N fl t (cT a b n ps (seg N fl t row.length)).1 v/\(cT a b n ps (seg N fl t row.length)).2.1=seg N fl v row.length /\
   ∀w∈seg N fl v row.length,(cT a b n ps (seg N fl t row.length)).2.2.getD w 0=A'*row.getD (fl w) 0+B'/\0<A'*row.getD (fl w) 0+B'
 | 0,ps,t,A,B,ht,hl,hA,hw=>⟨t,A,B,ht,hA,.nil t,rfl,λw h=>⟨(hw w h).1,by rw[<- (hw w h).1];exact(hw w h).2⟩⟩
 | n+1,ps,t,A,B,ht,hl,hA,hw=>by
  by_cases e:aG ps (seg N fl t row.length)=[]
  ·rw[oG e]
   exact⟨t,A,B,ht,hA,.nil t,rfl,λw h=>⟨(hw w h).1,by rw[<- (hw w h).1];exact(hw w h).2⟩⟩
  ·obtain⟨u,u1,u2,hu⟩:=P9 (λc=>¬ A*row.getD c 0+B<1) t row.length ht (λc d h1 h2 h3 hp=>by
    have:=Rat.mul_le_mul_of_nonneg_left (zBt F h2 h3) (vT hA);have hp:¬ A*row.getD d 0+B<1:=hp
    show ¬ A*row.getD c 0+B<1
    grind)
   have eE:aG ps (seg N fl t row.length)=seg N fl t u:=by
    unfold aG
    have:(seg N fl t row.length).filter (λw=>!decide (ps.getD w 0<1))=(seg N fl t row.length).filter (λw=>decide (fl w<u)):=by
     refine vO λw h=>?_
     have h1:=hw w h;have h2:=hV.mp h;rw[vL,WV,decide_eq_false_iff_not,decide_eq_true_eq,h1.1];exact hu (fl w) h2.2.1 h2.2.2
    rw[this];unfold seg;rw[Qb];refine vO λw _=>?_
    rw[vL];simp only[wZ,decide_eq_true_eq]
    lia
   have eL:bW (seg N fl t row.length) (seg N fl t u)=seg N fl u row.length:=by
    unfold bW
    have:(seg N fl t row.length).filter (λw=>!decide (w∈seg N fl t u))=(seg N fl t row.length).filter (λw=>!decide (fl w<u)):=by
     refine vO λw h=>?_
     have h2:=hV.mp h;rw[vL,WV,WV,decide_eq_false_iff_not,decide_eq_false_iff_not,hV]
     constructor
     ·intro k y;exact k ⟨h2.1,h2.2.1,y⟩
     ·intro k y;exact k y.2.2
    rw[this];unfold seg;rw[Qb];refine vO λw _=>?_
    rw[vL];simp only[wZ,WV,decide_eq_true_eq,decide_eq_false_iff_not]
    lia
   have htu:t<u:=by
    rcases wA t u with z | z
    ·exact z
    ·have:u=t:=by lia
     rw[eE,this,NS]at e;exact absurd rfl e
   rw[jy e,eE,eL];have hf:=lQ a0 (seg N fl t u).length;have hg:=pk a0 b0 (seg N fl t u).length;generalize a^(seg N fl t u).length=f at *;generalize aE a b (seg N fl t u).length=g at *;have hA':0<f*A:=VZ hf hA
   obtain⟨v,A',B',hv,hA2,hs,hl2,hw2⟩:=U3 (fl:=fl) (N:=N) a0 b0 F n (cZ f g ps (seg N fl u row.length)) u (f*A) (f*B+g) u2 (by rw[iT];exact hl) hA' (λw h=>by
    have hm:=hV.mp h;have h1:=hw w (hV.mpr ⟨hm.1,by lia,hm.2.2⟩);have h3:=VZ hf h1.2;rw[jI _ _ _ _ (M9 ..) (λw h=>by rw[hl];exact(hV.mp h).1),if_pos h];refine⟨by rw[h1.1];grind,by grind⟩)
   exact⟨v,A',B',hv,hA2,.cons htu hs,hl2,hw2⟩
structure ma(xs ys:List Rat)(waves:List (List Nat))(v:Nat):Prop where
 v1:1<=v
 vm:v<=(aj xs).length
 first:∃ws,waves=seg xs.length (aV xs) 0 1::ws/\jD xs.length (aV xs) 1 ws v
 vals:∃(A B:Rat),0<A/\aj ys=((aj xs).drop v).map (λx=>A*x+B)++[0]/\(∀x∈(aj xs).drop v,0<A*x+B)
 at':gU ys (aj ys) (λw=>if aV xs w<v then(aj xs).length-v else aV xs w-v)
 len:ys.length=xs.length
theorem TJ : (l.drop v).getD c 0=l.getD (v+c) 0:=by
 rw[wa,Q0,wa]
theorem nQ(hc:c<(aj xs).length):∃w,w<xs.length/\aV xs w=c:=by
 have hm:(aj xs).getD c 0∈xs:=ky (getD_mem hc);obtain⟨w,hw,e⟩:=wX hm;refine⟨w,hw,(Dr hw hc).mpr ?_⟩;rw[wa,wc hw];exact e
theorem yr(a0:0<a)(b0:0<=b)(h1:1<=xs.length)(nn:∀x∈xs,0<=x)(lt:∀x∈xs,x<1):∃v,ma xs (dC a b xs) (cE a b xs) v:=by
 have P:=kM xs;have F:(aj xs).Pairwise (· > ·):=jL xs.length xs;have m1:=nP h1;have top:∀j,j<(aj xs).length->j≠0->(aj xs).getD j 0<(aj xs).getD 0 0:=λj hj h0=>Ar F (by lia) hj
 have he:=EG P (nQ m1) top;have hmax:=sh P (nQ m1) top;have hmx1:cb xs<1:=lt _ (ic h1)
 have e01:bD xs.length (aV xs) 0=seg xs.length (aV xs) 0 1:=by
  unfold bD seg;refine vO λw _=>?_
  rw[vL];simp only[wZ,decide_eq_true_eq]
  lia
 rw[e01]at he
 have hr:wt xs.length=seg xs.length (aV xs) 0 (aj xs).length:=by
  unfold seg
  symm
  rw[List.filter_eq_self];intro w hw;have:=P.lt w (wH.mp hw);simp only[wZ,decide_eq_true_eq]
  lia
 have hne:aG (bK xs) (wt xs.length)≠[]:=λe=>by
  obtain⟨w,hw,hf⟩:=nQ m1;rw[he]at e;have:w∈seg xs.length (aV xs) 0 1:=hV.mpr ⟨hw,by lia,by lia⟩;rw[e]at this;cases this
 obtain⟨n,hn⟩:∃n,xs.length=n+1:=⟨xs.length-1,by lia⟩
 have eL:bW (wt xs.length) (seg xs.length (aV xs) 0 1)=seg xs.length (aV xs) 1 (aj xs).length:=by
  unfold bW seg;refine vO λw hw=>?_
  have h2:=P.lt w (wH.mp hw);rw[vL,WV,decide_eq_false_iff_not]
  have:w∈(wt xs.length).filter (λw=>decide (0<=aV xs w)&&decide (aV xs w<1)) ↔ aV xs w<1:=by
   rw[vg,wZ,decide_eq_true_eq,decide_eq_true_eq];exact⟨λh=>h.2.2,λh=>⟨hw,by lia,h⟩⟩
  rw[this];simp only[wZ,decide_eq_true_eq]
  lia
 have hf:=lQ a0 (seg xs.length (aV xs) 0 1).length;have hg:=pk a0 b0 (seg xs.length (aV xs) 0 1).length
 have eR:eH a b xs=(seg xs.length (aV xs) 0 1::(cT a b n (cZ (a^(seg xs.length (aV xs) 0 1).length) (aE a b (seg xs.length (aV xs) 0 1).length) (bK xs) (seg xs.length (aV xs) 1 (aj xs).length)) (seg xs.length (aV xs) 1 (aj xs).length)).1,(cT a b n (cZ (a^(seg xs.length (aV xs) 0 1).length) (aE a b (seg xs.length (aV xs) 0 1).length) (bK xs) (seg xs.length (aV xs) 1 (aj xs).length)) (seg xs.length (aV xs) 1 (aj xs).length)).2):=by
  unfold eH;have e:cT a b xs.length (bK xs) (wt xs.length)=cT a b (n+1) (bK xs) (wt xs.length):=by rw[<- hn]
  rw[e,jy hne,he,eL]
 generalize a^(seg xs.length (aV xs) 0 1).length=f at *;generalize aE a b (seg xs.length (aV xs) 0 1).length=g at *
 obtain⟨v,A,B,hv,hA,hs,hl2,hw2⟩:=U3 (fl:=aV xs) (N:=xs.length) a0 b0 F n (cZ f g (bK xs) (seg xs.length (aV xs) 1 (aj xs).length)) 1 f (f*(1-cb xs)+g) m1 (by rw[iT,fH]) hf (λw h=>by
  have hm:=hV.mp h;rw[jI _ _ _ _ (M9 ..) (λw h=>by rw[fH];exact(hV.mp h).1),if_pos h]
  have e:(bK xs).getD w 0=(aj xs).getD (aV xs w) 0+(1-cb xs):=by
   unfold bK;rw[zj hm.1,P.at' w hm.1]
  have hx:=nn _ (getD_mem (d:=0) hm.1);rw[P.at' w hm.1]at hx;have h3:=VZ hf (show 0<(aj xs).getD (aV xs w) 0+(1-cb xs) by grind);rw[e];exact⟨by grind,by grind⟩)
 have v1:=hs.le
 have ePh:∀w,w<xs.length->(dC a b xs).getD w 0=if aV xs w<v then 0 else A*(aj xs).getD (aV xs w) 0+B:=λw hw=>by
  have hpl:(eH a b xs).2.2.length=xs.length:=by unfold eH;rw[p_,fH]
  unfold dC;rw[nI (by lia),eR]
  show(if w∈(cT a b n _ _).2.1 then _ else _)=_
  rw[hl2]
  by_cases z:aV xs w<v
  ·rw[if_neg (λh=>by have:=(hV.mp h).2.1;lia),if_pos z]
  ·have hmem:w∈seg xs.length (aV xs) v (aj xs).length:=hV.mpr ⟨hw,by lia,P.lt w hw⟩
   rw[if_pos hmem,if_neg z];exact(hw2 w hmem).1
 have posd:∀x∈(aj xs).drop v,0<A*x+B:=λx hx=>by
  obtain⟨c,hc,e⟩:=wX hx;rw[vR]at hc;obtain⟨w,hw,hfw⟩:=nQ (xs:=xs) (c:=v+c) (by lia);have:=(hw2 w (hV.mpr ⟨hw,by lia,P.lt w hw⟩)).2;rw[hfw,<- TJ,wa,wc (by rw[vR];lia)]at this;rw[<- e];exact this
 have rlen:(((aj xs).drop v).map (λx=>A*x+B)++[0]).length=(aj xs).length-v+1:=by simp
 have rget:∀c,c<(aj xs).length-v->(((aj xs).drop v).map (λx=>A*x+B)++[0]).getD c 0=A*(aj xs).getD (v+c) 0+B:=λc hc=>by
  rw[wa,vI (by simp;lia),<- wa,zj (by rw[vR];lia),TJ]
 have rlast:(((aj xs).drop v).map (λx=>A*x+B)++[0]).getD ((aj xs).length-v) 0=0:=by
  rw[wa,vi (by simp)];simp
 have P2:gU (dC a b xs) (((aj xs).drop v).map (λx=>A*x+B)++[0]) (λw=>if aV xs w<v then(aj xs).length-v else aV xs w-v):=by
  refine⟨λw hw=>?_,λw hw=>?_⟩
  ·rw[jw]at hw
   rw[ePh w hw];have:=P.lt w hw
   by_cases z:aV xs w<v
   ·simp only[z,if_true]
    exact rlast.symm
   ·simp only[z,if_false]
    rw[rget _ (by lia),show v+(aV xs w-v)=aV xs w by lia]
  ·rw[jw]at hw
   have:=P.lt w hw;rw[rlen]
   show(if aV xs w<v then _ else _)<_
   split<;>lia
 have F2:(((aj xs).drop v).map (λx=>A*x+B)++[0]).Pairwise (· > ·):=by
  rw[qH];refine⟨?_,xv _ _,λx hx y hy=>?_⟩
  ·rw[qw]
   refine(Ux F).imp λ{x y} h=>?_
   have:=Rat.mul_lt_mul_of_pos_left (show y<x from h) hA
   show A*y+B<A*x+B
   grind
  ·obtain⟨z,hz,rfl⟩:=wU.mp hx
   rw[w6.mp hy];exact posd z hz
 have eV:aj (dC a b xs)=((aj xs).drop v).map (λx=>A*x+B)++[0]:=A0 P2 F2 λc hc=>by
  rw[rlen]at hc;rcases wA c ((aj xs).length-v)with z | z
  ·obtain⟨w,hw,hfw⟩:=nQ (xs:=xs) (c:=v+c) (by lia)
   refine⟨w,by rw[jw];exact hw,?_⟩
   show(if aV xs w<v then _ else _)=_
   rw[hfw,if_neg (by lia)]
   lia
  ·obtain⟨w,hw,hfw⟩:=nQ m1
   refine⟨w,by rw[jw];exact hw,?_⟩
   show(if aV xs w<v then _ else _)=_
   rw[hfw,if_pos (by lia)]
   lia
 refine⟨v,v1,hv,⟨_,by unfold cE;rw[eR],hs⟩,⟨A,B,hA,eV,posd⟩,by rw[eV];exact P2,jw ..⟩
def kX(xs:List Rat):List (List Nat):=(aj xs).map (f_ xs)
theorem ik(xs:List Rat):(kX xs).length=(aj xs).length:=wm ..
theorem Nt{row:List Rat}(P:gU ys row fl)(F:row.Pairwise (· > ·))(hc:c<row.length):f_ ys (row.getD c 0)=bD ys.length fl c:=by
 unfold f_ bD;refine vO λw hw=>?_
 have hw:=wH.mp hw;rw[vL,decide_eq_true_eq,decide_eq_true_eq,P.at' w hw]
 constructor
 ·intro h
  rcases WU (fl w) c with z | z | z
  ·have:=Ar F z hc;rw[h]at this;exact absurd this (by grind)
  ·exact z
  ·have:=Ar F z (P.lt w hw);rw[h]at this;exact absurd this (by grind)
 ·rintro rfl;rfl
theorem zsq(hc:c<(aj xs).length):(kX xs).getD c []=seg xs.length (aV xs) c (c+1):=by
 have h:=Nt (kM xs) (jL xs.length xs) hc;unfold kX;rw[wa,wu,wc hc]
 show f_ xs (aj xs)[c]=_
 rw[wa,wc hc]at h;have h:f_ xs (aj xs)[c]=_:=h;rw[h];unfold bD seg;refine vO λw _=>?_
 rw[vL];simp only[wZ,decide_eq_true_eq]
 lia
theorem ma.new{waves:List (List Nat)}(J:ma xs ys waves v):kX ys=(kX xs).drop v++[seg xs.length (aV xs) 0 v]:=by
 obtain⟨A,B,hA,eV,pos⟩:=J.vals;have F2:(aj ys).Pairwise (· > ·):=jL ys.length ys;have hlen:(aj ys).length=(aj xs).length-v+1:=by rw[eV];simp
 have v1:=J.v1;have vm:=J.vm;refine WN (by rw[ik,hlen,wR,vR,ik];rfl) λc h1 h2=>?_
 rw[ik,hlen]at h1
 have e1:(kX ys)[c]'(by rw[ik];lia)=bD xs.length (λw=>if aV xs w<v then(aj xs).length-v else aV xs w-v) c:=by
  have:=Nt J.at' F2 (c:=c) (by lia);rw[J.len]at this;rw[<- this];unfold kX;rw[Vp,wa,wc (by lia)]
  rfl
 rw[e1];rcases wA c ((aj xs).length-v)with z | z
 ·rw[List.getElem_append_left (by rw[vR,ik];lia),X1]
  have hg:=zsq (xs:=xs) (c:=v+c) (by lia);rw[wa,wc (by rw[ik];lia)]at hg;have hg:(kX xs)[v+c]'(by rw[ik];lia)=_:=hg;rw[hg];unfold bD seg;refine vO λw hw=>?_
  have:=(kM xs).lt w (wH.mp hw);rw[vL];simp only[wZ,decide_eq_true_eq]
  split<;>lia
 ·rw[List.getElem_append_right (by rw[vR,ik];lia)]
  have hc:c=(aj xs).length-v:=by lia
  simp only[List.getElem_singleton];unfold bD seg;refine vO λw hw=>?_
  have:=(kM xs).lt w (wH.mp hw);rw[vL];simp only[wZ,decide_eq_true_eq]
  split<;>lia
theorem ma.perm{waves:List (List Nat)}(J:ma xs ys waves v):waves.flatten.Perm (seg xs.length (aV xs) 0 v):=by
 obtain⟨ws,e,s⟩:=J.first;rw[e];exact(jD.cons (by decide) s).perm
theorem ma.more{waves:List (List Nat)}(J:ma xs ys waves v):1<waves.length ↔ 1<v:=by
 obtain⟨ws,e,s⟩:=J.first;rw[e];cases s with
 | nil=>simp
 | cons h k=>have:=k.le;simp;lia
theorem Cs(F s:Rat):∀n:Nat,aE F s n=aE F 1 n*s
 | 0=>by show(0:Rat)=0*s;rw[Rat.zero_mul]
 | n+1=>by
  show F*aE F s n+s=(F*aE F 1 n+1)*s
  rw[Cs F s n]
  grind
theorem Az{k:Nat}{F:Rat}(h:ag k F):∀i:Nat,∃T:Int,aE F 1 i=wB T ((F.den:Int)^i)/\Bd ((k+1)*i+1) T/\Bd (k*i+1) ((F.den:Int)^i)
 | 0=>⟨0,by simp[aE],⟨by simp⟩,⟨by simp⟩⟩
 | i+1=>by
  obtain⟨T,e,bT,bd⟩:=Az h i;have hd:(F.den:Int)^i≠0:=qo (gM F);have hd1:(F.den:Int)^(i+1)≠0:=qo (gM F);have ed:(F.den:Int)^(i+1)=(F.den:Int)^i*(F.den:Int):=V9 ..
  have bd1:Bd (k*(i+1)+1) ((F.den:Int)^(i+1)):=by
   rw[ed];exact(bd.mul h.b).mono (by rw[qY];lia)
  refine⟨F.num*T+(F.den:Int)^(i+1),?_,?_,bd1⟩
  ·symm
   refine gj hd1 ?_
   show(F*aE F 1 i+1)*_=_
   rw[e];have k1:=de T hd;have k2:=j7 F
   have e1:((F.num*T+(F.den:Int)^(i+1):Int):Rat)=(F.num:Rat)*(T:Rat)+(((F.den:Int)^(i+1):Int):Rat):=by
    rw[qP,vS]
   rw[e1,<- k1,<- k2,ed,vS];generalize (((F.den:Int)^i:Int):Rat)=D;generalize ((F.den:Int):Rat)=d;generalize wB T ((F.den:Int)^i)=y
   grind
  ·have h1:(k+1)*(i+1)=(k+1)*i+(k+1):=qY ..
   have h2:k*(i+1)<=(k+1)*i+k:=by rw[qY];have:=Wf i (show k<=k+1 by lia);lia
   exact((h.t.mul bT).add bd1).mono (by lia)
theorem Pm{F:Rat}(h:ag k F)(i:Nat):ag ((k+1)*i+1) (aE F 1 i):=by
 obtain⟨T,e,bT,bd⟩:=Az h i;rw[e];exact ag.divInt (qo (gM F)) bT (bd.mono (by have:=Wf i (show k<=k+1 by lia);lia))
def fI(F s:Rat)(n:Nat)(x:Rat):Rat:=F^n*x+aE F 1 n*s
theorem oy(F s:Rat)(n:Nat)(x:Rat):fI F s n x=push F s n x:=by
 unfold fI;rw[ib,<- Cs]
theorem zzu(F s:Rat)(m n:Nat)(x:Rat):fI F s (m+n) x=fI F s n (fI F s m x):=by
 rw[oy,oy,oy,zxT]
theorem zwL(F s x:Rat):fI F s 0 x=x:=by rw[oy];rfl
theorem zx6(F s x:Rat):fI F s 1 x=F*x+s:=by rw[oy];rfl
theorem OV{F s r:Rat}(h:r*(1-F)=s):∀k:Nat,aE F s k=r-F^k*r
 | 0=>by rw[V8,QW];show(0:Rat)=r-r;grind
 | k+1=>by
  show F*aE F s k+s=_
  rw[OV h k,WL]
  grind
theorem zzi{F s r:Rat}(h:r*(1-F)=s)(n:Nat)(x:Rat):fI F s n x=r+F^n*(x-r):=by
 unfold fI;rw[<- Cs,OV h]
 grind
theorem Cm.Y4(c:Cm m (h::xs))(ba:ag 10 a)(bb:ag 10 b)(n i:Nat):Cm (m+2+21*n) ((h+(1-xs.getD i 0))::dM a b n xs i):=by
 obtain⟨B,h0,h1,h2⟩:=c
 have hz:∃z:Int,xs.getD i 0=wB z B/\Bd m z:=by
  rcases wA i xs.length with q | q
  ·rw[wa,wc q]
   exact h2 _ (wy _ (vK q))
  ·rw[wa,wL q]
   exact⟨0,by simp,⟨by simp;exact Wi m⟩⟩
 obtain⟨z,ez,hz⟩:=hz;have key:=λ(t:Int)(ht:Bd m t)=>pY ba bb h0 (show Bd (m+2) (t+B-z)from((ht.add h1).sub hz).mono (by lia)) (h1.mono (by lia)) n
 have e2:∀t:Int,wB t B+(1-xs.getD i 0)=wB (t+B-z) B:=λt=>by
  rw[ez]
  symm
  refine gj (by lia) ?_;have q1:=de t (show B≠0 by lia);have q2:=de z (show B≠0 by lia);have q3:((t+B-z:Int):Rat)=(t:Rat)+(B:Rat)-(z:Rat):=by push_cast;rfl
  rw[q3,<- q1,<- q2]
  grind
 obtain⟨p1,p2,_⟩:=key 0 ⟨by simp;exact Wi m⟩;refine⟨_,p1,p2,λx hx=>?_⟩;rcases wF.mp hx with rfl | hx
 ·obtain⟨t,et,ht⟩:=h2 h (wz ..)
  have hd:(0:Int)<((a.den:Int)*(b.den:Int))^n:=ue (vQ (den_pos a) (den_pos b));refine⟨(t+B-z)*((a.den:Int)*(b.den:Int))^n,?_,tT ba bb (((ht.add h1).sub hz).mono (by lia)) n⟩;rw[et,e2 t];exact rA h0 hd
 ·have hx':x=0 \/ ∃y∈xs,x=push a b n (y+(1-xs.getD i 0)):=by
   unfold dM at hx;rcases xh hx with q | q
   ·obtain⟨y,hy,rfl⟩:=wU.mp q
    exact .inr ⟨y,hy,rfl⟩
   ·exact .inl q
  rcases hx' with rfl | ⟨y,hy,rfl⟩
  ·exact⟨0,by simp,⟨by simp;exact Wi _⟩⟩
  ·obtain⟨t,rfl,ht⟩:=h2 y (wy _ hy)
   obtain⟨_,_,T,e,hT⟩:=key t ht;rw[e2 t];exact⟨T,e,hT⟩
theorem Cm.BM{m:Nat}{xs:List Rat}{a b:Rat}{ns:List Int}(c:Cm m xs)(ba:ag 10 a)(bb:ag 10 b):∀k,k<=ns.length->Cm (m+2*k+21*upTo ns k) (eO a b ns xs k::aM a b ns xs k)
 | 0,_=>(c.mono (by lia)).kB λy hy=>by
  rcases wF.mp hy with rfl | hy
  ·exact .inr rfl
  ·exact .inl hy
 | k+1,hk=>by
  have:=(Cm.BM c ba bb (ns:=ns) k (by lia)).Y4 ba bb (ns.getD k 0).toNat k;rw[aM,eO];refine this.mono ?_;rw[pG (by lia)]
  lia
def fB(c:Rat)(xs ys:List Rat):List Rat:=List.zipWith (λx y=>x+c*(y-x)) xs ys
theorem oI{c:Rat}(h:xs.length=ys.length):(fB c xs ys).length=xs.length:=by unfold fB;rw[Xs];lia
theorem kR{c:Rat}(h:xs.length=ys.length)(hi:i<xs.length):(fB c xs ys).getD i 0=xs.getD i 0+c*(ys.getD i 0-xs.getD i 0):=by
 unfold fB;rw[wa,wc (by rw[Xs];lia),List.getElem_zipWith,wa,wc hi,wa,wc (by lia)]
 rfl
theorem kg(hl:xs.length=ys.length)(h:∀i,i<xs.length->xs.getD i 0=ys.getD i 0):xs=ys:=WN hl λi h1 h2=>by
 have:=h i h1;rw[wa,wa,wc h1,wc h2]at this;exact this
theorem zxF(a b:Rat)(n:Nat)(c:Rat)(h:xs.length=ys.length)(hi:i<xs.length):dM a b n (fB c xs ys) i=fB c (dM a b n xs i) (dM a b n ys i):=by
 have hl:=oI (c:=c) h;refine kg (by rw[iF,hl,oI (by rw[iF,iF];exact h),iF]) λj hj=>?_
 rw[iF,hl]at hj;have hg:=kR (c:=c) (xs:=dM a b n xs i) (ys:=dM a b n ys i) (by rw[iF,iF];exact h) (i:=j) (by rw[iF];exact hj);rw[hg,gG _ _ _ _ _ _ (by lia),gG _ _ _ _ _ _ hj,gG _ _ _ _ _ _ (show j<ys.length by lia)]
 by_cases z:j=i
 ·rw[if_pos z,if_pos z,if_pos z];grind
 ·rw[if_neg z,if_neg z,if_neg z,kR h hj,kR h hi,ib,ib,ib]
  grind
theorem FA(a b:Rat)(ns:List Int)(c:Rat){xs ys:List Rat}(h:xs.length=ys.length):∀k,k<=xs.length->aM a b ns (fB c xs ys) k=fB c (aM a b ns xs k) (aM a b ns ys k)
 | 0,_=>rfl
 | k+1,hk=>by
  have ih:=FA a b ns c h k (by lia);rw[aM,ih,aM,aM];exact zxF a b _ c (by rw[c_,c_];exact h) (by rw[c_];lia)
theorem My(a b:Rat)(ns:List Int)(c:Rat){xs ys:List Rat}(h:xs.length=ys.length):∀k,k<=xs.length->eO a b ns (fB c xs ys) k=eO a b ns xs k+c*(eO a b ns ys k-eO a b ns xs k)
 | 0,_=>by show(0:Rat)=0+c*(0-0);grind
 | k+1,hk=>by
  rw[eO,eO,eO,My a b ns c h k (by lia),FA a b ns c h k (by lia),kR (by rw[c_,c_];exact h) (by rw[c_];lia)]
  grind
theorem N6(c:Rat)(h:xs.length=ys.length):fB c (xs++[0]) (ys++[0])=fB c xs ys++[0]:=by
 unfold fB;rw[List.zipWith_append h]
 show _++[0+c*(0-0)]=_
 congr 2
 grind
def fu(a b:Rat)(ns:List Int)(xs:List Rat):Rat:=eO a b ns (xs++[0]) ns.length
theorem zyj(c:Rat)(hn:ns.length=xs.length+1)(h:xs.length=ys.length):fu a b ns (fB c xs ys)=fu a b ns xs+c*(fu a b ns ys-fu a b ns xs):=by
 unfold fu;rw[<- N6 c h];exact My a b ns c (by simp[h]) _ (by simp;lia)
def sumTo(f:Nat->Rat):Nat->Rat
 | 0=>0
 | n+1=>sumTo f n+f n
theorem zO{f g:Nat->Rat} : ∀n,(∀k,k<n->f k=g k)->sumTo f n=sumTo g n
 | 0,_=>rfl
 | n+1,h=>by rw[sumTo,sumTo,zO n λk hk=>h k (by lia),h n (by lia)]
theorem DU(c:Rat)(f:Nat->Rat):∀n,sumTo (λk=>c*f k) n=c*sumTo f n
 | 0=>by show(0:Rat)=c*0;grind
 | n+1=>by rw[sumTo,sumTo,DU c f n];grind
theorem Tj(f g:Nat->Rat):∀n,sumTo (λk=>f k+g k) n=sumTo f n+sumTo g n
 | 0=>by show(0:Rat)=0+0;grind
 | n+1=>by rw[sumTo,sumTo,sumTo,Tj f g n];grind
theorem Oy(F:Rat):∀n,sumTo (λk=>F^k) n=aE F 1 n
 | 0=>rfl
 | n+1=>by
  rw[sumTo,Oy F n]
  have:∀m,aE F 1 m*F+1=aE F 1 m+F^m:=λm=>by
   induction m with
   | zero=>rw[V8];show(0:Rat)*F+1=0+1;grind
   | succ m ih =>
    show(F*aE F 1 m+1)*F+1=(F*aE F 1 m+1)+F^(m+1)
    rw[WL]
    grind
  have:=this n
  show aE F 1 n+F^n=F*aE F 1 n+1
  grind
theorem Tp{a b:Rat}{ns:List Int}{L:Nat}(hn:ns.length=L+1)(X:Nat->List Rat)(hX:∀k,(X k).length=L):∀(n:Nat)(M:List Rat),1<=n->M.length=L->(∀i,i<L->M.getD i 0*((n:Int):Rat)=sumTo (λk=>(X k).getD i 0) n)->((n:Int):Rat)*fu a b ns M=sumTo (λk=>fu a b ns (X k)) n
 | 0,M,h,_,_=>by lia
 | n+1,M,_,hM,hs=>by
  have en:(((n+1:Nat):Int):Rat)=((n:Int):Rat)+1:=by push_cast;rfl
  by_cases z:n=0
  ·subst z
   have e1:(((0+1:Nat):Int):Rat)=1:=by decide
   have:M=X 0:=kg (by rw[hM,hX]) λi hi=>by
    have:=hs i (by lia);rw[e1]at this;have e2:sumTo (λk=>(X k).getD i 0) (0+1)=(X 0).getD i 0:=by rw[sumTo,sumTo];grind
    rw[e2]at this
    grind
   rw[this,e1]
   show 1*fu a b ns (X 0)=0+fu a b ns (X 0)
   grind
  ·have hn0:((n:Int):Rat)≠0:=λe=>z (by have:=Vn.mp e;lia)
   have hn1:((n:Int):Rat)+1≠0:=λe=>by
    rw[<- en]at e;have:=Vn.mp e
    lia
   let M':List Rat:=(wt L).map λi=>sumTo (λk=>(X k).getD i 0) n / ((n:Int):Rat)
   have hl':M'.length=L:=by simp[M']
   have g':∀i,i<L->M'.getD i 0=sumTo (λk=>(X k).getD i 0) n / ((n:Int):Rat):=λi hi=>by
    show((wt L).map λi=>sumTo (λk=>(X k).getD i 0) n / ((n:Int):Rat)).getD i 0=_
    rw[wa,wu,vM hi];rfl
   have ih:=Tp (a:=a) (b:=b) hn X hX n M' (by lia) hl' λi hi=>by rw[g' i hi];exact W8 hn0
   have eM:M=fB (1 / (((n:Int):Rat)+1)) M' (X n):=kg (by rw[hM,oI (by rw[hl',hX]),hl']) λi hi=>by
    rw[kR (by rw[hl',hX]) (by lia),g' i (by lia)];have h1:=hs i (by lia);rw[en,sumTo]at h1;generalize sumTo (λk=>(X k).getD i 0) n=S at *;generalize (X n).getD i 0=y at *;generalize M.getD i 0=m at *;generalize ((n:Int):Rat)=N at *;have k1:S / N*N=S:=W8 hn0;have k2:1 / (N+1)*(N+1)=1:=W8 hn1;generalize S / N=q at *;generalize 1 / (N+1)=r at *;have:(m-(q+r*(y-q)))*(N+1)=0:=by grind
    rcases xC.mp this with h | h
    ·grind
    ·exact absurd h hn1
   rw[eM,zyj _ (by lia) (by rw[hl',hX]),sumTo,<- ih,en];generalize fu a b ns M'=A;generalize fu a b ns (X n)=B;generalize ((n:Int):Rat)=N at *;have k2:1 / (N+1)*(N+1)=1:=W8 hn1;generalize 1 / (N+1)=r at *
   grind
end GM
namespace L2
open PySem PySem.Spec PyProof.Rows GM
section
variable{K:wb}{H H' H2:Hp}{a p:we}{xs ys:List V}{o:HO}
theorem ah.upd(h:H p=none):ah H (upd H p o):=λb u e=>by
 rw[eI (jR e h)];exact e
theorem ah.jP(s:ah H H')(h:aU K H a xs):aU K H' a xs:=by
 rcases h with(h | ⟨o,h⟩) | h
 ·exact .inl (.inl (s _ _ h))
 ·exact .inl (.inr ⟨o,s _ _ h⟩)
 ·exact .inr h
structure bG(H H':Hp):Prop where
 t:∀b xs,H b=some (.tup xs)->H' b=some (.tup xs)
 f:∀b o u,H b=some (.gC o u)->H' b=some (.gC o u)
theorem ah.keep(s:ah H H'):bG H H':=⟨λb xs h=>s _ _ h,λb o u h=>s _ _ h⟩
theorem bG.trans(a:bG H H')(b:bG H' H2):bG H H2:=⟨λc xs h=>b.t _ _ (a.t _ _ h),λc o u h=>b.f _ _ _ (a.f _ _ _ h)⟩
theorem bG.jP(k:bG H H')(h:aU K H a xs):aU K H' a xs:=by
 rcases h with(h | ⟨o,h⟩) | h
 ·exact .inl (.inl (k.t _ _ h))
 ·exact .inl (.inr ⟨o,k.f _ _ _ h⟩)
 ·exact .inr h
def iW(K:wb)(H:Hp)(a:we)(xs:List V):Prop :=
 (∃o,H a=some (.gC o (.lst xs))) \/
  ∃(o:Obj)(its:Array wg)(n:Nat),K.lookup a=some o/\o.cls=.type "list"/\o.dict=none/\o.data=.seq its n/\its.size<=w8/\aT xs its.toList
theorem iW.sq(h:iW K H a xs):aQ K H a xs:=by
 rcases h with⟨o,h⟩ | h
 ·exact .inl (.inr ⟨o,h⟩)
 ·exact .inr h
theorem bG.Ft(k:bG H H')(h:iW K H a xs):iW K H' a xs:=by
 rcases h with⟨o,h⟩ | h
 ·exact .inl ⟨o,k.f _ _ _ h⟩
 ·exact .inr h
def Exc(p:we)(H H':Hp):Prop:=∀b o,b≠p->H b=some o->H' b=some o
theorem Exc.keep(e:Exc p H H')(h:H p=some (.lst xs)):bG H H' :=
 ⟨λb ys hb=>e b _ (MG hb h (by intro z;cases z)) hb,λb o u hb=>e b _ (MG hb h (by intro z;cases z)) hb⟩
theorem ah.exc(s:ah H H'):Exc p H H':=λb o _ h=>s b o h
theorem Exc.refl(p:we)(H:Hp):Exc p H H:=λ_ _ _ h=>h
theorem Exc.trans(a:Exc p H H')(b:Exc p H' H2):Exc p H H2:=λc o n h=>b c o n (a c o n h)
theorem Exc.upd(p:we)(H:Hp)(o:HO):Exc p H (upd H p o):=λb u n h=>by
 rw[eI n];exact h
theorem Exc.at(e:Exc p H H'){q:we}{u:HO}(n:q≠p)(h:H q=some u):H' q=some u:=e q u n h
end
mutual
def Is(K:wb)(H:Hp):V->wC->Prop
 | v,.none=>v=.a_
 | v,.bool b=>v=.bl b
 | v,.int i=>v=.int i
 | v,.str x=>v=.str x
 | v,.tuple ds=>∃a xs,v=.ref a/\aU K H a xs/\ak K H xs ds
 | v,.list ds=>∃a xs,v=.ref a/\aQ K H a xs/\ak K H xs ds
 | v,.dict _=>∃a kvs,v=.ref a/\H a=some (.dK kvs)
def ak(K:wb)(H:Hp):List V->List wC->Prop
 | xs,[]=>xs=[]
 | xs,d::ds=>∃x r,xs=x::r/\Is K H x d/\ak K H r ds
end
section
variable{K:wb}{H H':Hp}{v:V}{xs:List V}{ds:List wC}{d:wC}
theorem bV{i:Int} : Is K H v (.int i) ↔ v=.int i:=by rw[Is]
theorem kb{b:Bool} : Is K H v (.bool b) ↔ v=.bl b:=by rw[Is]
theorem eX{x:Str} : Is K H v (.str x) ↔ v=.str x:=by rw[Is]
theorem lR:Is K H v .none ↔ v=.a_:=by rw[Is]
theorem bX:Is K H v (.tuple ds) ↔ ∃a xs,v=.ref a/\aU K H a xs/\ak K H xs ds:=by rw[Is]
theorem cF:Is K H v (.list ds) ↔ ∃a xs,v=.ref a/\aQ K H a xs/\ak K H xs ds:=by rw[Is]
theorem Aa{kv:List (wC × wC)} : Is K H v (.dict kv) ↔ ∃a kvs,v=.ref a/\H a=some (.dK kvs):=by rw[Is]
theorem g_:ak K H xs [] ↔ xs=[]:=by rw[ak]
theorem eG:ak K H xs (d::ds) ↔ ∃x r,xs=x::r/\Is K H x d/\ak K H r ds:=by rw[ak]
theorem ak.cons(h:Is K H v d)(t:ak K H xs ds):ak K H (v::xs) (d::ds):=eG.mpr ⟨v,xs,rfl,h,t⟩
theorem ak.nil:ak K H [] []:=g_.mpr rfl
theorem ak.length:∀{ds:List wC}{xs:List V},ak K H xs ds->xs.length=ds.length
 | [],_,h=>by rw[g_.mp h];rfl
 | d::ds,_,h=>by
  obtain⟨x,r,rfl,_,t⟩:=eG.mp h;rw[vo,vo,ak.length t]
theorem ak.get:∀{ds:List wC}{xs:List V}{i:Nat}{d:wC},ak K H xs ds->ds[i]? = some d->∃x,xs[i]? = some x/\Is K H x d
 | [],_,_,_,_,e=>by simp at e
 | d::ds,_,0,_,h,e=>by
  obtain⟨x,r,rfl,q,_⟩:=eG.mp h;simp at e;subst e;exact⟨x,rfl,q⟩
 | d::ds,_,i+1,d',h,e=>by
  obtain⟨x,r,rfl,_,t⟩:=eG.mp h;obtain⟨y,h1,h2⟩:=ak.get (i:=i) t (by simpa using e);exact⟨y,by simpa using h1,h2⟩
theorem ak.append:∀{ds es:List wC}{xs ys:List V},ak K H xs ds->ak K H ys es->ak K H (xs++ys) (ds++es)
 | [],_,_,_,h,t=>by rw[g_.mp h];exact t
 | d::ds,_,_,_,h,t=>by
  obtain⟨x,r,rfl,q,u⟩:=eG.mp h;exact .cons q (ak.append u t)
mutual
theorem Is.same(s:ah H H'):∀(d:wC)(v:V),Is K H v d->Is K H' v d
 | .none,v,h=>by rw[lR]at h ⊢;exact h
 | .bool _,v,h=>by rw[kb]at h ⊢;exact h
 | .int _,v,h=>by rw[bV]at h ⊢;exact h
 | .str _,v,h=>by rw[eX]at h ⊢;exact h
 | .tuple ds,v,h=>by
  obtain⟨a,xs,e,q,t⟩:=bX.mp h;exact bX.mpr ⟨a,xs,e,s.jP q,ak.same s ds xs t⟩
 | .list ds,v,h=>by
  obtain⟨a,xs,e,q,t⟩:=cF.mp h;exact cF.mpr ⟨a,xs,e,s.seq q,ak.same s ds xs t⟩
 | .dict _,v,h=>by
  obtain⟨a,kvs,e,q⟩:=Aa.mp h;exact Aa.mpr ⟨a,kvs,e,s _ _ q⟩
theorem ak.same(s:ah H H'):∀(ds:List wC)(xs:List V),ak K H xs ds->ak K H' xs ds
 | [],xs,h=>by rw[g_]at h ⊢;exact h
 | d::ds,xs,h=>by
  obtain⟨x,r,e,q,t⟩:=eG.mp h;exact eG.mpr ⟨x,r,e,Is.same s d x q,ak.same s ds r t⟩
end
end
mutual
def dh:wC->Bool
 | .none=>true
 | .bool _=>true
 | .int _=>true
 | .str _=>true
 | .tuple ds=>ck ds
 | .list _=>false
 | .dict _=>false
def ck:List wC->Bool
 | []=>true
 | d::ds=>dh d&&ck ds
end
section
variable{K:wb}{H H':Hp}
mutual
theorem Is.keep(k:bG H H'):∀(d:wC)(v:V),dh d=true->Is K H v d->Is K H' v d
 | .none,v,_,h=>by rw[lR]at h ⊢;exact h
 | .bool _,v,_,h=>by rw[kb]at h ⊢;exact h
 | .int _,v,_,h=>by rw[bV]at h ⊢;exact h
 | .str _,v,_,h=>by rw[eX]at h ⊢;exact h
 | .tuple ds,v,i,h=>by
  obtain⟨a,xs,e,q,t⟩:=bX.mp h;exact bX.mpr ⟨a,xs,e,k.jP q,ak.keep k ds xs (by rw[dh]at i;exact i) t⟩
 | .list ds,v,i,h=>by rw[dh]at i;cases i
 | .dict _,v,i,h=>by rw[dh]at i;cases i
theorem ak.keep(k:bG H H'):∀(ds:List wC)(xs:List V),ck ds=true->ak K H xs ds->ak K H' xs ds
 | [],xs,_,h=>by rw[g_]at h ⊢;exact h
 | d::ds,xs,i,h=>by
  obtain⟨x,r,e,q,t⟩:=eG.mp h;rw[ck,wZ]at i;exact eG.mpr ⟨x,r,e,Is.keep k d x i.1 q,ak.keep k ds r i.2 t⟩
end
end
def N(r:Rat):wC:=.tuple [.int r.num,.int (r.den:Int)]
theorem kQ(r:Rat):dh (N r)=true:=by simp[N,dh,ck]
section
variable{K:wb}{H H':Hp}{v:V}{r:Rat}
theorem nG:Is K H v (N r) ↔ ∃a,v=.ref a/\aU K H a [.int r.num,.int (r.den:Int)]:=by
 unfold N;rw[bX]
 constructor
 ·rintro ⟨a,xs,e,q,t⟩
  obtain⟨x,r1,rfl,q1,t⟩:=eG.mp t;obtain⟨y,r2,rfl,q2,t⟩:=eG.mp t;rw[g_.mp t,bV.mp q1,bV.mp q2]at q;exact⟨a,e,q⟩
 ·rintro ⟨a,e,q⟩
  exact⟨a,_,e,q,.cons (bV.mpr rfl) (.cons (bV.mpr rfl) .nil)⟩
end
section
variable{X:Cx}{pins:List (we × Obj)}{σ : St}{H:Hp}{s:wl}
mutual
theorem Inv.reads(I:Inv X pins σ H s):∀(d:wC)(v:V)(u:wg),d.canLay0=true->Is X.K H v d->bj v u->∃as,Reads s.heap u d as
 | .none,v,u,_,h,r=>by
  cases lR.mp h;cases (show u=Value.none from r);exact⟨_,.none⟩
 | .bool b,v,u,_,h,r=>by
  cases kb.mp h;cases (show u=Value.bool b from r);exact⟨_,.bool b⟩
 | .int i,v,u,_,h,r=>by
  cases bV.mp h;obtain⟨t,e⟩:=(show ∃t,u=Value.int i t from r);cases e;exact⟨_,.int i t⟩
 | .str x,v,u,_,h,r=>by
  cases eX.mp h;obtain⟨t,e⟩:=(show ∃t,u=Value.str x t from r);cases e;exact⟨_,.str x t⟩
 | .tuple ds,v,u,c,h,r=>by
  obtain⟨a,xs,e,q,t⟩:=bX.mp h;subst e;cases (show u=Value.ref a from r);obtain⟨its,rv,⟨o,e1,e2,n,e3⟩,_⟩:=I.tuple q;obtain⟨as,ra⟩:=Inv.readsAll I ds xs its (by rw[vU]at c;exact c) t rv;exact⟨_,.tuple e1 e2 e3 (by simpa using ra)⟩
 | .list ds,v,u,c,h,r=>by
  obtain⟨a,xs,e,q,t⟩:=cF.mp h;subst e;cases (show u=Value.ref a from r);obtain⟨its,rv,⟨o,n,e1,e2,_,e3⟩,_⟩:=I.list q;obtain⟨as,ra⟩:=Inv.readsAll I ds xs its (by rw[vU]at c;exact c) t rv;exact⟨_,.list e1 e2 e3 (by simpa using ra)⟩
 | .dict _,v,u,c,h,r=>by rw[vU]at c;cases c
theorem Inv.readsAll(I:Inv X pins σ H s):∀(ds:List wC)(xs:List V)(us:List wg),Wu ds=true->ak X.K H xs ds->aT xs us->∃as,ReadsAll s.heap us ds as
 | [],xs,us,_,h,r=>by
  rw[g_.mp h]at r;cases r;exact⟨_,.nil⟩
 | d::ds,xs,us,c,h,r=>by
  obtain⟨x,l,e,q,t⟩:=eG.mp h;subst e;rw[Wu,wZ]at c;cases r with
  | cons r1 r2 =>
   obtain⟨as,h1⟩:=Inv.reads I d x _ c.1 q r1;obtain⟨bs,h2⟩:=Inv.readsAll I ds l _ c.2 t r2;exact⟨_,.cons h1 h2⟩
end
end
section
variable{X:Cx}
open PySem.SeqAt (shaped)
variable{K:wb}
def cO(K:wb):R2:=λx y H Q=>∃d e,Is K H x d/\Is K H y e/\shaped d=true/\shaped e=true/\Q (.bl (wY d e)) H
def gc(K:wb):R2:=λx y H Q=>∃d e,Is K H x d/\Is K H y e/\shaped d=true/\shaped e=true/\Q (.bl (!PyData.eqv d e)) H
theorem dR(hu:X.A.units+64<WD):aN X (wT .Eq) (cO X.K):=by
 intro pins s σ H x y v u Q I rx ry h;obtain⟨d,e,hd,he,sd,se,q⟩:=h;obtain⟨as,h1⟩:=I.reads d x v (Vq sd) hd rx;obtain⟨bs,h2⟩:=I.reads e y u (Vq se) he ry;exact eq_dataH h1 h2 sd se hu ⟨.bl _,H,I,rfl,q⟩
theorem kz(hu:X.A.units+64<WD):aN X (wT .NotEq) (gc X.K):=by
 intro pins s σ H x y v u Q I rx ry h;obtain⟨d,e,hd,he,sd,se,q⟩:=h;obtain⟨as,h1⟩:=I.reads d x v (Vq sd) hd rx;obtain⟨bs,h2⟩:=I.reads e y u (Vq se) he ry;exact ne_dataH h1 h2 sd se hu ⟨.bl _,H,I,rfl,q⟩
theorem bj.JB{x:V}{v:wg}(r:bj x v)(c:Bool):(v == Value.bool c)=decide (x=.bl c):=by
 cases x with
 | a_=>cases (show v=Value.none from r);rfl
 | bl b=>cases (show v=Value.bool b from r);cases b<;>cases c<;>rfl
 | int _=>obtain⟨t,rfl⟩:=r;rfl
 | str _=>obtain⟨t,rfl⟩:=r;rfl
 | byt _=>obtain⟨t,rfl⟩:=r;rfl
 | flt _=>obtain⟨t,rfl⟩:=r;rfl
 | ref _=>cases r;rfl
 | ty _=>cases r;rfl
theorem bj.I_{x:V}{v:wg}(r:bj x v)(c:Bool):plainIs v (Value.bool c)=true:=by
 cases x with
 | a_=>cases (show v=Value.none from r);rfl
 | bl b=>cases (show v=Value.bool b from r);rfl
 | int _=>obtain⟨t,rfl⟩:=r;rfl
 | str _=>obtain⟨t,rfl⟩:=r;rfl
 | byt _=>obtain⟨t,rfl⟩:=r;rfl
 | flt _=>obtain⟨t,rfl⟩:=r;rfl
 | ref _=>cases r;rfl
 | ty _=>cases r;rfl
def KU:R2:=λx y H Q=>(∃c,y=.bl c/\Q (.bl (decide (x=.bl c))) H)\/(y=.a_/\Q (.bl (decide (x=.a_))) H)
def KQ:R2:=λx y H Q=>(∃c,y=.bl c/\Q (.bl (!decide (x=.bl c))) H)\/(y=.a_/\Q (.bl (!decide (x=.a_))) H)
theorem zh :aN X (wT .Is) KU:=by
 intro pins s σ H x y v u Q I rx ry h;rcases h with⟨c,e,q⟩ | h
 ·subst e
  cases (show u=Value.bool c from ry);exact wpAny_is_plain (rx.I_ c) (Al I q (rx.JB c).symm)
 ·exact zDq pins s σ H x y v u Q I rx ry h
theorem MW :aN X (wT .IsNot) KQ:=by
 intro pins s σ H x y v u Q I rx ry h;rcases h with⟨c,e,q⟩ | h
 ·subst e
  cases (show u=Value.bool c from ry);exact wpAny_isNot_plain (rx.I_ c) (Al I q (congrArg not (rx.JB c).symm))
 ·exact Zu pins s σ H x y v u Q I rx ry h
def kindOf:wC->String
 | .none=>"NoneType"
 | .bool _=>"bool"
 | .int _=>"int"
 | .str _=>"str"
 | .tuple _=>"tuple"
 | .list _=>"list"
 | .dict _=>"dict"
def eQ(K:wb):List V->Hp->VK->Prop:=λxs H Q=>∃x T d b,xs=[x,.ty T]/\Is K H x d/\V0 K (.type (kindOf d)) (.type T)=some b/\Q (.bl b) H
theorem jt :aK X (.builtin "isinstance") (eQ X.K):=by
 intro pins s σ H xs us Q I r h;obtain⟨x,T,d,b,rfl,hd,e,q⟩:=h;obtain⟨u,w',rfl,rx,rt⟩:=mF r;cases (show w'=Value.type T from rt);have fin:∀tk,EP X pins σ Q (.bool b) {s with toks:=tk}:=λtk=>⟨.bl b,H,I.tok _,rfl,q⟩
 cases d with
 | none =>
  cases lR.mp hd;cases (show u=Value.none from rx);exact VE X2 I.dW True.intro e (λz=>nomatch z) fin
 | bool y =>
  cases kb.mp hd;cases (show u=Value.bool y from rx);exact VE X3 I.dW True.intro e (λz=>nomatch z) fin
 | int i =>
  cases bV.mp hd;obtain⟨t,q⟩:=(show ∃t,u=Value.int i t from rx);cases q;exact VE uu I.dW True.intro e (λz=>nomatch z) fin
 | str y =>
  cases eX.mp hd;obtain⟨t,q⟩:=(show ∃t,u=Value.str y t from rx);cases q;exact VE uv I.dW True.intro e (λz=>nomatch z) fin
 | tuple ds =>
  obtain⟨a,xs,e1,hq,_⟩:=bX.mp hd;subst e1;cases (show u=Value.ref a from rx);obtain⟨its,_,⟨o,h1,h2,_⟩,_⟩:=I.tuple hq;exact VE XH I.dW ⟨o,h1,h2⟩ e (λz=>nomatch z) fin
 | list ds =>
  obtain⟨a,xs,e1,hq,_⟩:=cF.mp hd;subst e1;cases (show u=Value.ref a from rx);obtain⟨its,_,⟨o,n,h1,h2,_⟩,_⟩:=I.list hq;exact VE X4 I.dW ⟨o,h1,h2⟩ e (λz=>nomatch z) fin
 | dict kv =>
  obtain⟨a,kvs,e1,hq⟩:=Aa.mp hd;subst e1;cases (show u=Value.ref a from rx);obtain⟨_,_,vs,_,o,es,ep,h1,h2,_⟩:=(show dQ X.prog X.w H s.heap a (.dK kvs)from I.aI a _ hq);exact VE X5 I.dW ⟨o,h1,h2.1⟩ e (λz=>nomatch z) fin
def isA(T:String)(d:wC):Bool:=(kindOf d == T) || (kindOf d == "bool"&&T == "int")
theorem zA9(d:wC):V0 K (.type (kindOf d)) (.type "int")=some (isA "int" d):=by cases d<;>rfl
theorem zy3(d:wC):V0 K (.type (kindOf d)) (.type "bool")=some (isA "bool" d):=by cases d<;>rfl
theorem zwt(d:wC):V0 K (.type (kindOf d)) (.type "tuple")=some (isA "tuple" d):=by cases d<;>rfl
theorem Z4(d:wC):V0 K (.type (kindOf d)) (.type "list")=some (isA "list" d):=by cases d<;>rfl
theorem zAT(d:wC):V0 K (.type (kindOf d)) (.type "str")=some (isA "str" d):=by cases d<;>rfl
theorem Y3{m n:Nat}{i j:Int}(h:Bd m i)(k:Bd n j)(hm:m<=1000000)(hn:n<=1000000):IntMulOk i j:=by
 have f:∀{m:Nat}{i:Int},Bd m i->m<=1000000->Xu i<=2^20:=by
  intro m i h hm;have e:(2:Nat)^20=1048576:=by decide
  have l:=(h.mono (Nat.le_succ m)).log (QE m);unfold Xu
  split<;>lia
 exact .of_bits (f h hm) (f k hn)
theorem cV :aN X (WC .Mult) (rI IntMulOk λi j=>.int (i*j)):=yX λ_ _ _ _ _ _ _ hc q=>mul_int q hc
def nV(_ j:Int):Prop:=j≠0/\Bd 8999 j
theorem fj :aN X (WC .FloorDiv) (rI nV λi j=>.int (i.fdiv j)):=yX λ_ _ _ _ _ _ _ hc q =>
 floordiv_int hc.1 q (.inl (PyProof.noPylong_of_log2 (VO (hc.2.log (by decide)))))
theorem zAU :aN X (WC .Add) (λx y H Q=>(jc λi j=>.int (i+j)) x y H Q\/(DN x y H Q \/ ∃i j,x=.str i/\y=.str j/\i.length+j.length<=w8/\Q (.str (i++j)) H)):=zCV.or (zC4.or zuq)
end
theorem dU:vN "len"=some (.builtin "len"):=by decide +kernel
theorem lG:vN "abs"=some (.builtin "abs"):=by decide +kernel
theorem jb:vN "isinstance"=some (.builtin "isinstance"):=by decide +kernel
theorem zDs:vN "int"=some (.type "int"):=by decide +kernel
theorem RZ:vN "bool"=some (.type "bool"):=by decide +kernel
theorem zDn:vN "str"=some (.type "str"):=by decide +kernel
theorem d5:vN "tuple"=some (.type "tuple"):=by decide +kernel
theorem kY:vN "list"=some (.type "list"):=by decide +kernel
def mr(K:wb)(xs:List V)(H:Hp)(Q:VK):Prop:=xs.length<=w8 /\ ∀p,H p=none->Q (.ref p) (upd H p (.tup xs))
def DC(K:wb)(xs:List V)(H:Hp)(Q:VK):Prop:=xs.length<=w8 /\ ∀p,H p=none->Q (.ref p) (upd H p (.lst xs))
def pT(K:wb)(t:TA):TE:=λσ H Q=>t σ H λxs H1=>mr K xs H1 Q
def Pf(K:wb)(t:TA):TE:=λσ H Q=>t σ H λxs H1=>DC K xs H1 Q
def FG:R2:=λx y H Q=>(jc λi j=>.int (i+j)) x y H Q\/(DN x y H Q \/ ∃i j,x=.str i/\y=.str j/\i.length+j.length<=w8/\Q (.str (i++j)) H)
def MX:List V->Hp->VK->Prop:=λxs H Q=>∃i:Int,xs=[.int i]/\Q (.int (if i<0 then -i else i)) H
def dj(K:wb):List V->Hp->VK->Prop:=λxs H Q=>∃p ys,xs=[.ref p]/\(aQ K H p ys\/aU K H p ys)/\Q (.int ys.length) H
section
variable{X:Cx}{e:Expr}{es:List Expr}{te:TE}{t:TA}{pos:Pos}
theorem br{x1}(h:PA X es t):PE X (.Tuple es x1 pos) (pT X.K t):=zDM h
theorem eZ(h:PA X es t):PE X (.List es pos) (Pf X.K t):=zCT h
theorem cC:aN X (WC .Add) FG:=zAU
theorem mj:aK X (.builtin "abs") MX:=zyZ
theorem eA:aK X (.builtin "len") (dj X.K):=zru
theorem lY{x:Str}{i:Int}{pos:Pos}(hg:Gl X x)(hm:∃t,X.mg x=some (.int i t))(hd:(x == ("__debug__" : Str))=false:=by decide):PE X (.Name x pos) (tC (.int i)):=by
 obtain⟨t,hm⟩:=hm;exact b_ hg hm ⟨t,rfl⟩ hd
end
section
variable{K:wb}{σ : St}{H H':Hp}{Q:VK}{QA:List V->Hp->Prop}{QB:Bool->Hp->Prop}{QS:St->Hp->Prop}{QH:Hp->Prop}{D:cv}{ta tb te:TE}{tt tu:TT}{t tr:TA}{s1 s2:TS}{g:TG}{gs:kq}{r:R2}{v w:V}{xs ys:List V}{i:Nat}{m n:Int}
variable{j:Nat}{p:we}{ds:List wC}{A B:Prop}
theorem zDF(h : σ[i]? = some (some v))(q:Q v H):r_ i σ H Q:=⟨v,h,q⟩
theorem zE4(q:Q v H):tC v σ H Q:=q
theorem zEl(h:ta σ H λx H1=>tb σ H1 λy H2=>r x y H2 Q):lJ r ta tb σ H Q:=h
theorem zD2{u:V->Hp->VK->Prop}(h:ta σ H λx H1=>u x H1 Q):TY u ta σ H Q:=h
theorem ZF(h:t σ H λxs H1=>mr K xs H1 Q):pT K t σ H Q:=h
theorem zDB(h:t σ H λxs H1=>DC K xs H1 Q):Pf K t σ H Q:=h
theorem zDp(q:QA [] H):zo σ H QA:=q
theorem zAH(h:te σ H λx H1=>tr σ H1 λxs H2=>QA (x::xs) H2):Aw te tr σ H QA:=h
theorem zAj{sp:Sp}{E:XK}(h:t σ H λvs H1=>sp vs H1 Q E):rK sp [] E t σ H Q:=by
 simpa only[rK,Wh] using h
theorem zD8{u:List V->Hp->VK->Prop}(h:t σ H λvs H1=>u vs H1 Q):FN u t σ H Q:=h
theorem zBm(h:te σ H λx H'=>∃k,x=.bl k/\QB k H'):Ck te σ H QB:=h
theorem Zj(h:te σ H λx H'=>∃k,x=.bl k/\QB k H'):tB te σ H QB:=h
theorem zCC(h:tt σ H λc H1=>if c=true then tu σ H1 QB else QB false H1):U5 tt tu σ H QB:=h
theorem zEd(h:tt σ H λc H1=>if c=true then QB true H1 else tu σ H1 QB):Yz tt tu σ H QB:=h
theorem zCw(h:tt σ H λc H1=>QB (!c) H1):NC tt σ H QB:=h
theorem zBq(h:ta σ H λx H1=>∃c,x=.bl c/\if c=true then tb σ H1 Q else Q (.bl false) H1):Ru ta tb σ H Q:=h
theorem Zm(h:ta σ H λx H1=>∃c,x=.bl c/\Q (.bl (!c)) H1):UZ ta σ H Q:=h
theorem zCS(h:tt σ H λc H1=>if c=true then ta σ H1 Q else tb σ H1 Q):RE tt ta tb σ H Q:=h
theorem zC2(h:s1 {D with nx:=s2 D} σ H):C0 s1 s2 D σ H:=h
theorem zAJ(h:D.nx σ H):UD D σ H:=h
theorem zDu(h:te σ H D.rt):MO te D σ H:=h
theorem zCO(h:tt σ H λb H1=>if b=true then s1 D σ H1 else s2 D σ H1):P_ tt s1 s2 D σ H:=h
theorem zDa(h:te σ H λx H1=>g x σ H1 D.nx):kn te g D σ H:=h
theorem zBd(h:te σ H λ_ H1=>D.nx σ H1):R7 te D σ H:=h
theorem Zv(h:t σ H λvs H1=>∃v w,vs=[v,w]/\D.nx ((σ.set i (some v)).set j (some w)) H1):Yv i j t D σ H:=h
theorem zBh(q:QS ((σ.set i (some v)).set j (some w)) H):∃v' w',[v,w]=[v',w']/\QS ((σ.set i (some v')).set j (some w')) H:=⟨v,w,rfl,q⟩
theorem zx9(q:QS (σ.set i (some v)) H):iE i v σ H QS:=q
theorem zAh(q:QS σ H):ME [] σ H QS:=⟨rfl,q⟩
theorem zyD(q:g v σ H λσ' H'=>gs xs σ' H' QS):N0 g gs (v::xs) σ H QS:=⟨v,xs,rfl,q⟩
theorem lZ{a:we}{n:Nat}(h:aU K H a xs)(e:xs.length=n)(q:gs xs σ H QS):lP K n gs (.ref a) σ H QS:=⟨a,xs,rfl,h,e,q⟩
theorem zAm{tset:yA}(h:ta σ H λo H1=>tb σ H1 λi H2=>tset o i v H2 λH3=>QS σ H3):LH ta tb tset v σ H QS:=h
theorem zt{k:Int}(h:H p=some (.lst xs))(e:iA xs.length k=some j)(q:∀H',Exc p H H'->H' p=some (.lst (xs.set j v))->QH H'):NW (.ref p) (.int k) v H QH :=
 ⟨p,xs,k,j,rfl,rfl,h,e,q _ (Exc.upd p H _) cX⟩
theorem zCv{f:Int->Int->V}(q:Q (f m n) H):jc f (.int m) (.int n) H Q:=⟨m,n,rfl,rfl,q⟩
theorem rV{C:Int->Int->Prop}{f:Int->Int->V}(c:C m n)(q:Q (f m n) H):rI C f (.int m) (.int n) H Q:=⟨m,n,rfl,rfl,c,q⟩
theorem zEk{f:Int->V}(q:Q (f m) H):rU f (.int m) H Q:=⟨m,rfl,q⟩
theorem zAr(q:Q (.int (m+n)) H):FG (.int m) (.int n) H Q:=.inl ⟨m,n,rfl,rfl,q⟩
theorem jS{b:we}(h:H p=some (.lst xs))(k:H b=some (.lst ys))(z:xs.length+ys.length<=w8)
  (q:∀c H',H c=none->ah H H'->H' c=some (.lst (xs++ys))->Q (.ref c) H'):FG (.ref p) (.ref b) H Q :=
 .inr (.inl ⟨p,b,xs,ys,rfl,rfl,h,k,z,λc hc=>q c _ hc (ah.upd hc) cX⟩)
theorem zDO(q:Q (.int (if m<0 then -m else m)) H):MX [.int m] H Q:=⟨m,rfl,q⟩
theorem MN(h:aU K H p xs)(q:Q (.int xs.length) H):dj K [.ref p] H Q:=⟨p,xs,rfl,.inr h,q⟩
theorem jm(h:aQ K H p xs)(q:Q (.int xs.length) H):dj K [.ref p] H Q:=⟨p,xs,rfl,.inl h,q⟩
theorem zDj(q:Q (.bl (decide (v=.a_))) H):KU v .a_ H Q:=.inr ⟨rfl,q⟩
theorem zAa(q:Q (.bl (!decide (v=.a_))) H):KQ v .a_ H Q:=.inr ⟨rfl,q⟩
theorem zCx(q:Q (.bl (decide (m=n))) H):cO K (.int m) (.int n) H Q :=
 ⟨.int m,.int n,bV.mpr rfl,bV.mpr rfl,rfl,rfl,by
  have e:wY (.int m) (.int n)=decide (m=n):=by
   rw[wY,Qy]
  rw[e];exact q⟩
theorem zDe(q:Q (.bl (!decide (m=n))) H):gc K (.int m) (.int n) H Q :=
 ⟨.int m,.int n,bV.mpr rfl,bV.mpr rfl,rfl,rfl,by
  have e:wY (.int m) (.int n)=decide (m=n):=by
   rw[wY,Qy]
  rw[e];exact q⟩
theorem nF{d e:wC}(h:Is K H v d)(k:Is K H w e)(sd:Wb d=true)(se:Wb e=true)(q:Q (.bl (wY d e)) H):cO K v w H Q:=⟨d,e,h,k,sd,se,q⟩
theorem GJ{d e:wC}(h:Is K H v d)(k:Is K H w e)(sd:Wb d=true)(se:Wb e=true)(q:Q (.bl (!PyData.eqv d e)) H):gc K v w H Q:=⟨d,e,h,k,sd,se,q⟩
theorem rZ{T:String}{d:wC}(h:Is K H v d)(e:V0 K (.type (kindOf d)) (.type T)=some (isA T d))(q:Q (.bl (isA T d)) H):eQ K [v,.ty T] H Q:=⟨v,T,d,_,rfl,h,e,q⟩
def ja:wC->Bool
 | .tuple _=>true
 | _=>false
def CC:wC->Bool
 | .int _=>true
 | .bool _=>true
 | _=>false
def DF:wC->Bool
 | .bool _=>true
 | _=>false
def k_:wC->Bool
 | .list _=>true
 | _=>false
def Ct:wC->Bool
 | .str _=>true
 | _=>false
theorem Lw{d:wC} : ja d=true ↔ ∃ds,d=.tuple ds:=by cases d<;>simp[ja]
theorem LZ{d:wC}(h:Is K H v d)(q:Q (.bl (ja d)) H):eQ K [v,.ty "tuple"] H Q:=rZ h (zwt d) (by have e:isA "tuple" d=ja d:=(by cases d<;>rfl);rw[e];exact q)
theorem zxR{d:wC}(h:Is K H v d)(q:Q (.bl (CC d)) H):eQ K [v,.ty "int"] H Q:=rZ h (zA9 d) (by have e:isA "int" d=CC d:=(by cases d<;>rfl);rw[e];exact q)
theorem Oa{d:wC}(h:Is K H v d)(q:Q (.bl (DF d)) H):eQ K [v,.ty "bool"] H Q:=rZ h (zy3 d) (by have e:isA "bool" d=DF d:=(by cases d<;>rfl);rw[e];exact q)
theorem zyC{d:wC}(h:Is K H v d)(q:Q (.bl (k_ d)) H):eQ K [v,.ty "list"] H Q:=rZ h (Z4 d) (by have e:isA "list" d=k_ d:=(by cases d<;>rfl);rw[e];exact q)
theorem zxJ{d:wC}(h:Is K H v d)(q:Q (.bl (Ct d)) H):eQ K [v,.ty "str"] H Q:=rZ h (zAT d) (by have e:isA "str" d=Ct d:=(by cases d<;>rfl);rw[e];exact q)
theorem u_(h:aU K H p xs)(e:hZ xs m=some v)(q:Q v H):dy K (.ref p) (.int m) H Q:=.inr (.inl ⟨p,xs,m,v,rfl,rfl,h,e,q⟩)
theorem iQ(h:aQ K H p xs)(e:hZ xs m=some v)(q:Q v H):dy K (.ref p) (.int m) H Q:=.inl ⟨p,xs,m,v,rfl,rfl,h,e,q⟩
theorem zDw{α : Type}{xs:List α}(h0:0<=m)(h1:m<xs.length):∃v,hZ xs m=some v/\v∈xs:=by
 obtain⟨k,rfl⟩:∃k:Nat,m=(k:Int):=⟨m.toNat,by lia⟩;have l:k<xs.length:=by lia
 exact⟨xs[k],kP (by simp[l]),vK l⟩
theorem RJ(P:V->Prop)(h:aQ K H p xs)(h0:0<=m)(h1:m<xs.length)(hP:∀x∈xs,P x)(q:∀x,P x->Q x H):dy K (.ref p) (.int m) H Q:=by
 obtain⟨x,e,hx⟩:=zDw h0 h1;exact iQ h e (q x (hP x hx))
theorem zBz{r:Rat}(h:Is K H v (N r))(q:Q (.int r.num) H):dy K v (.int 0) H Q:=by
 obtain⟨a,rfl,h'⟩:=nG.mp h;exact u_ h' rfl q
theorem zAx{r:Rat}(h:Is K H v (N r))(q:Q (.int (r.den:Int)) H):dy K v (.int 1) H Q:=by
 obtain⟨a,rfl,h'⟩:=nG.mp h;exact u_ h' rfl q
theorem aA{d:wC}(h:Is K H v (.tuple ds))(e:ds[j]? = some d)(q:∀x,Is K H x d->Q x H):dy K v (.int (j:Int)) H Q:=by
 obtain⟨a,xs,rfl,h,t⟩:=bX.mp h;obtain⟨x,e1,hx⟩:=t.get e;exact u_ h (kP e1) (q x hx)
theorem ly(h:Is K H v (.tuple ds))(q:Q (.int ds.length) H):dj K [v] H Q:=by
 obtain⟨a,xs,rfl,h,t⟩:=bX.mp h;exact MN h (by rw[t.length];exact q)
theorem zxy{n:Nat}(h:Is K H v (.tuple ds))(e:ds.length=n)(q:∀xs,ak K H xs ds->gs xs σ H QS):lP K n gs v σ H QS:=by
 obtain⟨a,xs,rfl,h,t⟩:=bX.mp h;exact lZ h (by rw[t.length];exact e) (q xs t)
theorem oq{α : Type}{l:List α}(h:l.length<=1000):l.length<=w8:=Ve (jo h)
theorem nE(z:xs.length<=1000)(q:∀p H',H p=none->ah H H'->H' p=some (.tup xs)->Q (.ref p) H'):mr K xs H Q:=⟨oq z,λp hp=>q p _ hp (ah.upd hp) cX⟩
theorem ft(z:xs.length<=1000)(q:∀p H',H p=none->ah H H'->H' p=some (.lst xs)->Q (.ref p) H'):DC K xs H Q:=⟨oq z,λp hp=>q p _ hp (ah.upd hp) cX⟩
theorem cB(z:xs.length<=1000)(h:ak K H xs ds)(q:∀v H',ah H H'->Is K H' v (.tuple ds)->Q v H'):mr K xs H Q :=
 nE z λp H' _ s e=>q _ H' s (bX.mpr ⟨p,xs,rfl,.of e,ak.same s ds xs h⟩)
theorem fb{r:Rat}(e1:m=r.num)(e2:n=(r.den:Int))(q:∀v H',ah H H'->Is K H' v (N r)->Q v H'):mr K [.int m,.int n] H Q:=by
 subst e1 e2;exact nE (by show 2<=1000;decide) λp H' _ s e=>q _ H' s (nG.mpr ⟨p,rfl,.of e⟩)
theorem zAC{p:Prop}[Decidable p](h1:p->A)(h2:¬ p->B):if decide p=true then A else B:=by
 by_cases h:p
 ·rw[decide_eq_true h,if_pos rfl];exact h1 h
 ·rw[decide_eq_false h,if_neg vF];exact h2 h
theorem zyt{p:Prop}[Decidable p](h1:¬ p->A)(h2:p->B):if(!decide p)=true then A else B:=by
 by_cases h:p
 ·rw[decide_eq_true h];exact m_ (h2 h)
 ·rw[decide_eq_false h];exact og (h1 h)
theorem zAE{b:Bool}(h1:b=true->A)(h2:b=false->B):if b=true then A else B:=by
 cases b
 ·exact m_ (h2 rfl)
 ·exact og (h1 rfl)
theorem zzt{b:Bool}(h1:b=false->A)(h2:b=true->B):if(!b)=true then A else B:=by
 cases b
 ·exact og (h1 rfl)
 ·exact m_ (h2 rfl)
end
section
variable{c:TT}{tb:TS}{D:cv}{σ : St}{H:Hp}
def MP(σ : St)(i:Nat):Int:=match σ[i]? with
 | some (some (.int y))=>y
 | _=>0
def U0(Pv:St->Hp->Prop)(μ : St->Nat)(tb:TS)(D:cv)(σ':St)(H1:Hp):Prop :=
 ∃M:St->Hp->Prop,(∀σ2 H2,M σ2 H2->∃m',m' < μ σ'/\(m' = μ σ2/\Pv σ2 H2))/\tb {D with nx:=M,ct:=M,bk:=D.nx} σ' H1
theorem Su(Pv:St->Hp->Prop)(μ : St->Nat)(h0:Pv σ H)
  (hs:∀σ' H',Pv σ' H'->c σ' H' λb H1=>if b=true then U0 Pv μ tb D σ' H1 else D.nx σ' H1):EO c tb D σ H:=by
 refine⟨λm σ H=>m = μ σ /\ Pv σ H,⟨_,rfl,h0⟩,?_⟩;rintro m σ H ⟨rfl,p⟩;exact hs σ H p
theorem Oq{Pv:St->Hp->Prop}{μ : St->Nat}{σ':St}{H1:Hp}(h:tb {D with nx:=λσ2 H2=>μ σ2 < μ σ'/\Pv σ2 H2,ct:=λσ2 H2=>μ σ2 < μ σ'/\Pv σ2 H2,bk:=D.nx} σ' H1):U0 Pv μ tb D σ' H1 :=
 ⟨_,λσ2 H2 q=>⟨_,q.1,rfl,q.2⟩,h⟩
def Yi(g:TG)(tb:TS)(D:cv)(σ : St)(vs:List V)(H1:Hp):Prop:=∃j:Int,vs=[.int j] /\ -(2^62)<=j/\j<2^62 /\
 ∃W:Nat->Nat->St->Hp->Prop,(∃m,W 0 m σ H1) /\ ∀i m σ H,W i m σ H ->
  ((gr 0 j.toNat).stop i H/\D.nx σ H)\/((gr 0 j.toNat).go i H /\ ∃M:St->Hp->Prop,(∀σ' H',M σ' H'->∃m',m'<m/\W (i+1) m' σ' H') /\ ∀x H',(gr 0 j.toNat).fF i H x H'->g x σ H' λσ2 H2=>tb {D with nx:=M,ct:=M,bk:=D.nx} σ2 H2)
theorem zBI{ta:TA}{g:TG}(h:ta σ H λvs H1=>Yi g tb D σ vs H1):lW (Gh ta) g tb D σ H:=h
theorem lI{g:TG}{n:Int}(h0 : -1000000000<=n)(h1:n<1000000000)(Pv:Nat->St->Hp->Prop)(p:Pv 0 σ H)
  (hs:∀(i:Nat) σ H,i<n.toNat->Pv i σ H->g (.int (i:Int)) σ H λσ2 H2=>tb {D with nx:=Pv (i+1),ct:=Pv (i+1),bk:=D.nx} σ2 H2)
  (hd:∀σ H,Pv n.toNat σ H->D.nx σ H):Yi g tb D σ [.int n] H:=by
 refine⟨n,rfl,by lia,by lia,Mu (lo:=0) Pv p (λi σ H hi q=>?_) hd⟩;have e:(0:Int)+(i:Int)=(i:Int):=by lia
 rw[e];exact hs i σ H hi q
end
def ET(K:wb)(g:TG)(tb:TS)(D:cv)(σ : St)(x:V)(H1:Hp):Prop:=∃a,x=.ref a/\(∃xs,aQ K H1 a xs) /\
 ∃W:Nat->Nat->St->Hp->Prop,(∃m,W 0 m σ H1) /\ ∀i m σ H,W i m σ H ->
  ((jj K a).stop i H/\D.nx σ H)\/((jj K a).go i H /\ ∃M:St->Hp->Prop,(∀σ' H',M σ' H'->∃m',m'<m/\W (i+1) m' σ' H') /\ ∀x H',(jj K a).fF i H x H'->g x σ H' λσ2 H2=>tb {D with nx:=M,ct:=M,bk:=D.nx} σ2 H2)
def SH(K:wb)(g:TG)(tb:TS)(D:cv)(σ : St)(x:V)(H1:Hp):Prop:=∃a,x=.ref a/\(∃xs,aU K H1 a xs) /\
 ∃W:Nat->Nat->St->Hp->Prop,(∃m,W 0 m σ H1) /\ ∀i m σ H,W i m σ H ->
  ((jg K a).stop i H/\D.nx σ H)\/((jg K a).go i H /\ ∃M:St->Hp->Prop,(∀σ' H',M σ' H'->∃m',m'<m/\W (i+1) m' σ' H') /\ ∀x H',(jg K a).fF i H x H'->g x σ H' λσ2 H2=>tb {D with nx:=M,ct:=M,bk:=D.nx} σ2 H2)
section
variable{K:wb}{te:TE}{g:TG}{tb:TS}{D:cv}{σ : St}{H:Hp}{a:we}{xs:List V}
theorem zA5(h:te σ H λx H1=>ET K g tb D σ x H1):lW (Fo K te) g tb D σ H:=h
theorem Eh(hx:aQ K H a xs)(Pv:Nat->St->Hp->Prop)(h0:Pv 0 σ H)(hl:∀i σ H,i<=xs.length->Pv i σ H->aQ K H a xs)
  (hs:∀i x σ H,xs[i]? = some x->Pv i σ H->g x σ H λσ2 H2=>tb {D with nx:=Pv (i+1),ct:=Pv (i+1),bk:=D.nx} σ2 H2) (hd:∀σ H,Pv xs.length σ H->D.nx σ H):ET K g tb D σ (.ref a) H :=
 ⟨a,rfl,⟨xs,hx⟩,zyI Pv h0 hl hs hd⟩
theorem Zw(hx:aU K H a xs)(Pv:Nat->St->Hp->Prop)(h0:Pv 0 σ H)(hl:∀i σ H,i<=xs.length->Pv i σ H->aU K H a xs)
  (hs:∀i x σ H,xs[i]? = some x->Pv i σ H->g x σ H λσ2 H2=>tb {D with nx:=Pv (i+1),ct:=Pv (i+1),bk:=D.nx} σ2 H2) (hd:∀σ H,Pv xs.length σ H->D.nx σ H):SH K g tb D σ (.ref a) H :=
 ⟨a,rfl,⟨xs,hx⟩,zAW Pv h0 hl hs hd⟩
end
theorem zCL{K:wb}{H:Hp}{a:we}{xs:List V}(hO:yw H)(h:aQ K H a xs):iW K H a xs:=by
 rcases h with(h | ⟨o,h⟩) | h
 ·rcases hO a with z | ⟨ob,ys,z⟩
  ·rw[h]at z;cases z
  ·rw[h]at z;cases z
 ·exact .inl ⟨o,h⟩
 ·exact .inr h
theorem Mb{K:wb}{H:Hp}{Q:VK}{a:we}{ns:List Int}{m:Int}(h:iW K H a (ns.map V.int))(h0:0<=m)(h1:m<((ns.map V.int).length:Int))(q:∀z,Q (.int z) H):dy K (.ref a) (.int m) H Q:=by
 refine RJ (λv=>∃z,v=.int z) h.sq h0 h1 (λx hx=>?_) (λx hx=>?_)
 ·obtain⟨z,_,rfl⟩:=wU.mp hx
  exact⟨z,rfl⟩
 ·obtain⟨z,rfl⟩:=hx
  exact q z
section
variable{K:wb}{H H':Hp}{v:V}{d:wC}{a:we}{xs:List V}{o:HO}
theorem ah.back{H2:Hp}(b:ah H' H2)(s:ah H H'):ah H H2:=s.trans b
theorem bG.back{H2:Hp}(b:bG H' H2)(s:bG H H'):bG H H2:=s.trans b
theorem Is.by(s:ah H H')(h:Is K H v d):Is K H' v d:=Is.same s d v h
theorem Is.Ze(h:Is K H v d)(s:ah H H'):Is K H' v d:=Is.same s d v h
theorem Is.Y9{r:Rat}(h:Is K H v (N r))(s:bG H H'):Is K H' v (N r):=Is.keep s _ v (kQ r) h
theorem Is.gb{r:Rat}(s:bG H H')(h:Is K H v (N r)):Is K H' v (N r):=Is.keep s _ v (kQ r) h
theorem Is.ji(s:bG H H')(i:dh d=true)(h:Is K H v d):Is K H' v d:=Is.keep s _ v i h
end
def fq(X:Cx)(N':List Str)(scope:Scope)(cl:List (Str × we))(C:we)(s₀ : wl)(H₀ : Hp)(fp:List we)(pins:List (we × Obj)):Cx where
 prog:=X.prog
 w:=X.w
 K:=X.K
 mg:=X.mg
 base:=X.base
 A:=X.A
 N:=N'
 s₀:=s₀
 H₀:=H₀
 env:=compEnvC scope cl C X.env
 outer:=X.stack
 stack:=X.stack
 ex:=fp
 fn:=λ_=>false
 calm:=X.calm
 pn:=X.pn++pins
 xe:=λ_ _=>False
structure Sn(X:Cx)(scope:Scope)(cl:List (Str × we)):Prop where
 lD:closureFor scope X.env=pure cl
 sub:∀x c,cl.lookup x=some c->X.env.cells.lookup x=some c
 has:∀x,((relabel scope X.env).names.lookup x=some .cell\/(relabel scope X.env).names.lookup x=some .free)->∃c,cl.lookup x=some c
def dS(src:List (Option Nat))(σ : St):St:=src.map λo=>match o with
 | none=>none
 | some j=>(σ[j]?).join
def RP(X:Cx)(N':List Str)(src:List (Option Nat)):Prop :=
 N'.length=src.length /\ ∀(i j:Nat)(x:Str),N'[i]? = some x->src[i]? = some (some j)->X.N[j]? = some x/\X.env.scope.names.lookup x=some .cell
section
variable{X:Cx}{pins:List (we × Obj)}{σ : St}{H:Hp}{s:wl}{N':List Str}{scope:Scope}{cl:List (Str × we)}{src:List (Option Nat)}{fp:List we}
theorem Inv.block{h₁ : wG}{tk:Nat}(I:Inv X pins σ H s)(hk:scope.kind=.function)(cok:Sn X scope cl)(sok:RP X N' src)(hf:∀b∈fp,eT X pins H b)(hlt:∀b∈fp,b<s.heap.objs.size)
  (hns:h₁.Ns s.heap.objs.size λ_=>none) (old:∀b o,s.heap.get? b=some o->h₁.get? b=some o)
  (hvis:∀(i:Nat) x,N'[i]? = some x->src[i]? ≠ some none->(relabel scope X.env).names.lookup x=some .cell\/(relabel scope X.env).names.lookup x=some .free) :
  Inv (fq X N' scope cl s.heap.objs.size s H fp pins) [] (dS src σ) H {s with heap:=h₁,toks:=tk}:=by
 have hfr:H s.heap.objs.size=none:=I.aI.fresh (wo _)
 have kS:∀x c,cl.lookup x=some c->c<s.heap.objs.size:=λx c e=>by
  obtain⟨v,q⟩:=I.cell x c (cok.sub x c e);exact q.lt
 have fplt:∀b∈fp,b ∉ dZ X.stack:=λb hb z=>by
  obtain⟨_,f1,f2,_⟩:=hf b hb;exact(wF.mp (I.mP b z)).elim f1 f2
 refine⟨⟨I.ok.mod,?_,I.ok.glob,I.ok.blt,wo _,λx y c h1 h2=>?_,λx hx=>?_,λx c hx=>?_,I.ok.hd,I.ok.frames,.inl rfl,λb hb=>⟨?_,λx c e=>?_⟩,I.bs,Wa I.ok.iZ I.sz,λb o e=>?_,fplt,I.stack,I.sF⟩,
  rfl,I.bare,Un.kept old,⟨_,hns,λi x v h1 h2 h3=>?_⟩,λx c e=>?_,hfr,λx c e=>?_,λp hp=>?_,I.aI.kept old,?_⟩
 ·show(relabel scope X.env).kind=.function
  exact hk
 ·exact I.ok.inj x y c (cok.sub x c h1) (cok.sub y c h2)
 ·exact cok.has x hx
 ·exact absurd (show false=true from hx) vF
 ·exact wQ (hlt b hb)
 ·exact(hf b hb).2.2.2.2.1 x c (cok.sub x c e)
 ·intro hb
  obtain⟨_,_,_,f3,_⟩:=hf b hb;rcases f3 with z | z
  ·exact I.ok.kF b o e z
  ·exact absurd (wV (wD e) (Wa I.ok.iZ z)) (Vj _)
 ·-- a name of the frame around
  have hsrc:∃j,src[i]? = some (some j) /\ σ[j]? = some (some v):=by
   unfold dS at h2;rw[wu]at h2;cases q:src[i]? with
   | none=>rw[q]at h2;cases h2
   | some o =>
    rw[q]at h2;cases o with
    | none=>cases h2
    | some j =>
     refine⟨j,rfl,?_⟩;have h2':(σ[j]?).join=some v:=wM h2;cases q2 : σ[j]? with
     | none=>rw[q2]at h2';cases h2'
     | some z=>rw[q2]at h2';exact congrArg some h2'
  obtain⟨j,hj,hv⟩:=hsrc;obtain⟨hN,hc⟩:=sok.2 i j x h1 hj;obtain⟨m,_,hl⟩:=I.loc;obtain⟨u,ru,lk⟩:=hl j x v hN hv (.inr (.inl hc));refine⟨u,ru,.inr ⟨hvis i x h1 (by rw[hj];intro z;cases z),?_⟩⟩;rcases lk with⟨k,_⟩ | ⟨_,c,ec,hcell⟩
  ·have k':X.env.scope.names.lookup x=some .local:=k
   rw[hc]at k';cases k'
  ·obtain⟨c',ec'⟩:=cok.has x (hvis i x h1 (by rw[hj];intro z;cases z))
   have:=cok.sub x c' ec';rw[ec]at this;cases this;obtain⟨o,ho,hd⟩:=hcell;exact⟨c,ec',o,old c o ho,hd⟩
 ·obtain⟨v,o,ho,hd⟩:=I.cell x c (cok.sub x c e)
  exact⟨v,o,old c o ho,hd⟩
 ·exact I.gq x c (cok.sub x c e)
 ·have hp':p∈(X.pn++pins)++[]:=hp
  rw[Wh]at hp';obtain⟨e,n,ne,nf,d⟩:=I.pin p hp';refine⟨old _ _ e,n,wQ (wD e),λz=>?_,d⟩;exact(wF.mp (I.mP p.1 z)).elim ne nf
 ·show(dS src σ).length=N'.length
  unfold dS;rw[wm,sok.1]
end
def MS:TT:=λ_ H Q=>Q true H
def q_(X:Cx)(ifs:List Expr)(t:TT):Prop :=
 ∀(pins:List (we × Obj))(s:wl)(σ : St)(H:Hp)(Q:Bool->Hp->Prop),Inv X pins σ H s->t σ H Q ->
  wx (model X.prog X.w) X.A (forIn ifs true λc r=>if r=true then do let ok <- isTrue c X.env (eval c X.env);pure (ForInStep.yield ok)else pure (ForInStep.yield r)) (TP X pins σ Q) X.xe s
theorem dN{X:Cx} : q_ X [] MS:=λ_ _ _ H _ I h=>wpAny_tests_nil ⟨H,I,h⟩
theorem yh{X:Cx}{c:Expr}{t:TT}(hc:PT X c t):q_ X [c] t:=λpins s σ H Q I h=>wpAny_tests_one (hc pins s σ H Q I h)
section
variable{prog:wI}{w:wJ}{A:vb}{R:Result->wl->Prop}{s:wl}
theorem zqe{elt target iter:Expr}{ifs:List Expr}{scope:Scope}{pos:Pos}{it acc:wg}{env:Env}(I:Nat->wl->Prop)
   (turn:∀n s,I n s->wx (model prog w) A (VR it) (λr s₁=>match r with
     | none=>R (.ok .next) s₁
     | some v=>wx (model prog w) A (qT target it v) (λ_ s₁'=>wx (model prog w) A (assign target env v) (λ_ s₂ =>
         wx (model prog w) A (forIn ifs true λc r=>if r=true then do let ok <- isTrue c env (eval c env);pure (ForInStep.yield ok)else pure (ForInStep.yield r)) (λok s₃ =>
           if ok=true then wx (model prog w) A (eval elt env) (λx s₄ =>
             wx (model prog w) A (call (.builtin "list.append") [acc,x]) (λ_ s₅=>∃m,m<n/\I m s₅) (λ_ _=>False) s₄) (λ_ _=>False) s₃
           else ∃m,m<n/\I m s₃) (λ_ _=>False) s₂) (λ_ _=>False) s₁') (λ_ _=>False) s₁) (λ_ _=>False) s)
   (n:Nat) (h:I n s):codeAny (model prog w) A (.compLoop (.ListComp elt [⟨target,iter,ifs,0⟩] scope pos) 0 it acc env) R s:=by
 refine codeAny_loop rfl I (λn s hI=>?_) n h
 show wx _ A ((compTurn (.ListComp elt [⟨target,iter,ifs,0⟩] scope pos) 0 it acc env).onRaise (λx=>do noteFrame x env;theTreesLotGoes x)) _ _ s
 refine wpAny_noted ?_;rw[compTurn_list];refine wf (wpAny_standAt (wf (WB (turn n s hI) (λr s₁ h₁=>?_) λ_ _ h'=>h'.elim)));cases r with
 | none=>exact wp h₁
 | some v =>
   refine wf (WB h₁ (λ_ s₁' h₁'=>?_) λ_ _ h'=>h'.elim);refine wf (WB h₁' (λ_ s₂ h₂=>wf (WB h₂ (λok s₃ h₃=>?_) λ_ _ h'=>h'.elim)) λ_ _ h'=>h'.elim);cases ok with
   | false=>exact wp ⟨rfl,h₃⟩
   | true=>exact wf (wf (WB h₃ (λx s₄ h₄=>wf (WB h₄ (λ_ s₅ h₅=>wp (wp ⟨rfl,h₅⟩)) λ_ _ h'=>h'.elim)) λ_ _ h'=>h'.elim))
end
def jU(g:TG)(tt:TT)(te:TE)(J:It)(D:we)(σ0:St)(H0:Hp)(Q:Hp->Prop):Prop :=
 ∃W:Nat->Nat->St->Hp->Prop,(∃m,W 0 m σ0 H0) /\ ∀i m σ' H',W i m σ' H' ->
  (J.stop i H'/\Q H')\/(J.go i H' /\ ∃M:St->Hp->Prop,(∀σ2 H2,M σ2 H2->∃m',m'<m/\W (i+1) m' σ2 H2) /\
   ∀x H2,J.fF i H' x H2->g x σ' H2 λσ3 H3=>tt σ3 H3 λok H4=>if ok=true then te σ3 H4 λy H5=>∃ys,H5 D=some (.lst ys)/\ys.length<w8/\M σ3 (upd H5 D (.lst (ys++[y])))else M σ3 H4)
def jX(src:List (Option Nat))(wi:TI)(g:TG)(tt:TT)(te:TE):TE:=λσ H Q=>wi σ H λJ H1=>∀D,H1 D=none->jU g tt te J D (dS src σ) (upd H1 D (.lst [])) (λH'=>Q (.ref D) H')
structure Sg(Y:Cx)(tg:Expr)(J:It)(fp:List we)(it:we)(tn:Nat->wG->Prop):Prop where
 item:∀(i:Nat)(pins:List (we × Obj))(s:wl)(σ : St)(H:Hp)(E:wg->wl->Prop),Inv Y pins σ H s->(∀b∈fp,eT Y pins H b)->tn i s.heap->J.go i H ->
   wx (model Y.prog Y.w) Y.A (VR (.ref it)) (λr s1=>∃u,r=some u/\wx (model Y.prog Y.w) Y.A (qT tg (.ref it) u) (λ_ s2=>∃x H',Inv Y pins σ H' s2/\bj x u/\J.fF i H x H'/\tn (i+1) s2.heap /\ ∀b∈fp,H' b=none) E s1) E s
 done:∀(i:Nat)(pins:List (we × Obj))(s:wl)(σ : St)(H:Hp)(E:wg->wl->Prop),Inv Y pins σ H s->(∀b∈fp,eT Y pins H b)->tn i s.heap->J.stop i H ->
   wx (model Y.prog Y.w) Y.A (VR (.ref it)) (λr s1=>r=none/\Inv Y pins σ H s1) E s
theorem jA.OX{P:wI}{w:wJ}{K:wb}{tg:Expr}{J:It}{fp:List we}{it:we}{tn:Nat->wG->Prop}(T:jA P w K tg J fp it tn){Y:Cx}(h1:Y.prog=P)(h2:Y.w=w)(h3:Y.K=K)(hc:Y.calm=true):Sg Y tg J fp it tn:=by
 subst h1 h2 h3;exact⟨T.item Y rfl rfl rfl hc,T.done Y rfl rfl rfl hc⟩
section
variable{X:Cx}{pins:List (we × Obj)}{σ : St}{H:Hp}{s:wl}{N':List Str}{scope:Scope}{cl:List (Str × we)}{src:List (Option Nat)}{elt tgt iter:Expr}{ifs:List Expr}{pos:Pos}{wi:TI}{g:TG}{tt:TT}{te:TE}
structure cR(X:Cx)(N':List Str)(scope:Scope)(cl:List (Str × we))(src:List (Option Nat)):Prop where
 kind:scope.kind=.function
 cell:∀y∈scope.names,y.2≠.cell
 names:∀y∈scope.names,y.2=.local->scope.names.lookup y.1=some .local
 lD:Sn X scope cl
 Zf:RP X N' src
 BU:∀(i:Nat) x,N'[i]? = some x->src[i]? ≠ some none->(relabel scope X.env).names.lookup x=some .cell\/(relabel scope X.env).names.lookup x=some .free
theorem Tf{it:we}{fp:List we}{tn:Nat->wG->Prop}{J:It}{RQ:we->Hp->Prop}{E:wg->wl->Prop}{RR:wg->we->Result->wl->Prop}
   (TC:∀C s₀ H₀,Sg (fq X N' scope cl C s₀ H₀ fp pins) tgt J fp it tn) (ok:cR X N' scope cl src)
   (hg:∀C s₀ H₀ fp pins,PG (fq X N' scope cl C s₀ H₀ fp pins) tgt g) (ht:∀C s₀ H₀ fp pins,q_ (fq X N' scope cl C s₀ H₀ fp pins) ifs tt) (he:∀C s₀ H₀ fp pins,PE (fq X N' scope cl C s₀ H₀ fp pins) elt te)
   (I:Inv X pins σ H s) (T:jA X.prog X.w X.K tgt J fp it tn) (st:tn 0 s.heap) (hf:∀b∈fp,eT X pins H b)
   (rd:∀D,H D=none->jU g tt te J D (dS src σ) (upd H D (.lst [])) (λH'=>RQ D H'))
   (hRR:∀D C H' s' m,Inv X pins σ H' s'->s'.heap.Ns C m->eT X pins H' C->RQ D H'->RR (.ref D) C (.ok .next) s') :
   wx (model X.prog X.w) X.A (newList []) (λacc s₃=>wx (model X.prog X.w) X.A (newFunctionEnv scope X.env.globals cl [] X.env.qual none .none (some X.env)) (λcenv s₄ =>
     codeAny (model X.prog X.w) X.A (.compStart (.ListComp elt [⟨tgt,iter,ifs,0⟩] scope pos) 0 (.ref it) acc {cenv with scope:=relabel scope X.env}) (RR acc cenv.locals) s₄) E s₃) E s:=by
 refine WH ?_ (by show 0<=w8;exact Wm _);have hD:H s.heap.objs.size=none:=I.aI.fresh (wo _)
 have I3:Inv X pins σ (upd H s.heap.objs.size (.lst [])) {s with heap:=s.heap.push {cls:=.type "list",data:=.seq ([]:List wg).toArray}} :=
   I.BN (ys:=[]) (its:=[]) (t':=s.toks) .nil (Wm _)
 have old3:∀b o,s.heap.get? b=some o->(s.heap.push {cls:=.type "list",data:=.seq ([]:List wg).toArray}).get? b=some o:=λb o e=>wn _ e
 have lt0:∀b∈fp,b<s.heap.objs.size:=λb hb=>by
   obtain⟨o,e,_⟩:=T.obj 0 _ st b hb;exact wD e
 have hf3:∀b∈fp,eT X pins (upd H s.heap.objs.size (.lst [])) b:=λb hb=>⟨by rw[eI (wQ (lt0 b hb))];exact(hf b hb).1,(hf b hb).2⟩
 have lt3:∀b∈fp,b<(s.heap.push {cls:=.type "list",data:=.seq ([]:List wg).toArray}).objs.size:=λb hb=>by
   rw[V1];exact VO (lt0 b hb)
 have st3:tn 0 (s.heap.push {cls:=.type "list",data:=.seq ([]:List wg).toArray}):=T.keep _ _ _ st λb _ o e=>old3 b o e
 obtain⟨W,⟨m0,w0⟩,turn⟩:=rd _ hD;generalize hs3:({s with heap:=s.heap.push {cls:=.type "list",data:=.seq ([]:List wg).toArray}} : wl)=s3 at I3 ⊢;have hh3:s3.heap=s.heap.push {cls:=.type "list",data:=.seq ([]:List wg).toArray}:=by rw[<- hs3]
 rw[<- hh3]at lt3 st3;clear old3 hs3 hh3;generalize hD':s.heap.objs.size=D at *
 refine wpAny_newFunctionEnv ok.cell (by intro y hy;cases hy) (λh₁ hns₁ hsb₁=>?_) ok.kind;have old:∀b o,s3.heap.get? b=some o->h₁.get? b=some o:=λb o e=>hsb₁.extBut b o (wQ (wD e)) (wn _ e)
 have hC:eT X pins (upd H D (.lst [])) s3.heap.objs.size:=I3.jN (wo _) (I3.aI.fresh (wo _))
 have IB:∀tk,Inv (fq X N' scope cl s3.heap.objs.size s3 (upd H D (.lst [])) fp pins) [] (dS src σ) (upd H D (.lst [])) {s3 with heap:=h₁,toks:=tk}:=λtk =>
   I3.block ok.kind ok.lD ok.Zf hf3 lt3 hns₁ old ok.BU
 have stB:tn 0 h₁:=T.keep _ _ _ st3 λb _ o e=>old b o e
 have stat:∀{H':Hp} ,(∀b∈fp,H' b=none)->∀b∈fp,eT (fq X N' scope cl s3.heap.objs.size s3 (upd H D (.lst [])) fp pins) [] H' b:=λhn b hb=>by
   obtain⟨_,f1,f2,f3,f4,f5⟩:=hf3 b hb;refine⟨hn b hb,wQ (lt3 b hb),λz=>(wF.mp (I3.mP b z)).elim f1 f2,.inl hb,λx c e=>f4 x c (ok.lD.sub x c e),λp hp=>?_⟩;have hp':p∈(X.pn++pins)++[]:=hp;rw[Wh]at hp';exact f5 p hp'
 have back:∀{σ':St}{H':Hp}{s':wl},Inv (fq X N' scope cl s3.heap.objs.size s3 (upd H D (.lst [])) fp pins) [] σ' H' s'->Inv X pins σ H' s'/\(∃m,s'.heap.Ns s3.heap.objs.size m)/\eT X pins H' s3.heap.objs.size:=λ{σ' H' s'} J=>by
   obtain⟨m,hn,_⟩:=J.loc;refine⟨I3.Kr (ch:=fp) J.os J.base J.aI J.bare (λb hb=>?_),⟨m,hn⟩,⟨J.free,hC.2⟩⟩;obtain⟨_,f1,_,f3,f4,f5⟩:=hf3 b hb;exact⟨f3,f1,f4,f5⟩
 have loop:∀tk,codeAny (model X.prog X.w) X.A (.compLoop (.ListComp elt [⟨tgt,iter,ifs,0⟩] scope pos) 0 (.ref it) (.ref D) (compEnvC scope cl s3.heap.objs.size X.env)) (RR (.ref D) s3.heap.objs.size) {s3 with heap:=h₁,toks:=tk}:=by
   intro tk
   refine zqe (λn s'=>∃i σ' H',Inv (fq X N' scope cl s3.heap.objs.size s3 (upd H D (.lst [])) fp pins) [] σ' H' s'/\tn i s'.heap/\(∀b∈fp,H' b=none)/\W i n σ' H') ?_ m0
     ⟨0,_,_,IB tk,stB,λb hb=>(hf3 b hb).1,w0⟩
   rintro n s4 ⟨i,σ4,H4,I4,st4,fr4,w4⟩;rcases turn i n σ4 H4 w4 with⟨stop,q⟩ | ⟨go,M,hM,step⟩
   . refine aJ ((TC _ _ _).done i [] s4 σ4 H4 (λ_ _=>False) I4 (stat fr4) st4 stop) λr s5 ⟨hr,I5⟩=>?_
     subst hr;obtain⟨J,⟨m,hn⟩,hCf⟩:=back I5;exact hRR D _ H4 s5 m J hn hCf q
   . refine aJ ((TC _ _ _).item i [] s4 σ4 H4 (λ_ _=>False) I4 (stat fr4) st4 go) λr s5 ⟨u,hr,h5⟩=>?_
     subst hr;refine aJ h5 λ_ s6 ⟨x,H6,I6,r6,y6,st6,fr6⟩=>?_
     have I6':=I6.pinned (stat fr6) (T.obj _ _ st6)
     have again:∀{σ7:St}{H7:Hp}{s7:wl},Inv (fq X N' scope cl s3.heap.objs.size s3 (upd H D (.lst [])) fp pins) ([]++pj fp s6.heap) σ7 H7 s7->M σ7 H7 ->
         ∃m,m<n /\ ∃i σ' H',Inv (fq X N' scope cl s3.heap.objs.size s3 (upd H D (.lst [])) fp pins) [] σ' H' s7/\tn i s7.heap/\(∀b∈fp,H' b=none)/\W i m σ' H':=λ{σ7 H7 s7} I7 n7=>by
       obtain⟨m',hm,w7⟩:=hM σ7 H7 n7;refine⟨m',hm,i+1,σ7,H7,I7.sA,T.keep _ _ _ st6 λb hb o e=>(I7.pin (b,o) (Wc _ (Wc _ (tf hb e)))).1,λb hb=>?_,w7⟩;obtain⟨o,e,d⟩:=T.obj _ _ st6 b hb;exact(I7.pin (b,o) (Wc _ (Wc _ (tf hb e)))).2.1
     refine aJ (hg _ _ _ _ _ _ s6 σ4 H6 x u _ I6' r6 (step x H6 y6)) λ_ s7 ⟨σ7,H7,I7,q7⟩=>?_
     refine aJ (ht _ _ _ _ _ _ s7 σ7 H7 _ I7 q7) λk s8 ⟨H8,I8,q8⟩=>?_
     cases k with
     | false=>exact again I8 q8
     | true =>
       rw[if_pos rfl]at q8 ⊢;refine aJ (he _ _ _ _ _ _ s8 σ7 H8 _ I8 q8) λy s9 ⟨yv,H9,I9,r9,ys,hys,hz,q9⟩=>?_
       exact aJ (mf _ s9 σ7 H9 (.ref D) [yv] (.ref D) [y] (λ_ H'=>M σ7 H') I9 rfl (.cons r9 .nil) ⟨D,ys,yv,rfl,rfl,hys,hz,q9⟩) λ_ s10 ⟨_,H10,I10,_,q10⟩=>again I10 q10
 exact codeAny_compStart_list (loop _) (T.self _ _ _ _ _ stB (loop _))
theorem d7(hc:X.calm=true)(ok:cR X N' scope cl src)(hi:PI X tgt iter wi)
  (hg:∀C s₀ H₀ fp pins,PG (fq X N' scope cl C s₀ H₀ fp pins) tgt g) (ht:∀C s₀ H₀ fp pins,q_ (fq X N' scope cl C s₀ H₀ fp pins) ifs tt) (he:∀C s₀ H₀ fp pins,PE (fq X N' scope cl C s₀ H₀ fp pins) elt te)
  (hs:∀x,foldedSetIterable iter X.env x=pure x:=by intro _;rfl):PE X (.ListComp elt [⟨tgt,iter,ifs,0⟩] scope pos) (jX src wi g tt te):=by
 intro pins s σ H Q I h;rw[eval_ListComp];refine wpAny_comprehension_free (use:=none) rfl hs ok.lD.lD ok.kind ok.names (aJ (hi pins s σ H _ I h) λv s1 h1=>aJ h1 λitv s2 h2=>?_);obtain⟨it,fp,tn,J,H2,e,I2,T,st2,f2,rd⟩:=h2;subst e;refine Tf (RQ:=λD H'=>Q (.ref D) H') (RR:=λacc C=>compPost (model X.prog X.w) X.A X.xe none (EP X pins σ Q) acc C) (λ_ _ _=>T.OX rfl rfl rfl hc) ok hg ht he I2 T st2 f2 rd ?_;intro D C H' s' m J hn hC q;obtain⟨c0,c1,_,c3,c4,c5⟩:=hC;exact⟨m,hn,λh' sb=>⟨.ref D,H',J.turned (t':=s'.toks) (λb o hb e=>(sb.2 b hb).trans e) c0 c1 c3 c4 c5,rfl,q⟩⟩
theorem ml{i:Nat}{y:Str}{py spos:Pos}(hN:X.N.Nodup)(hy:X.N[i]? = some y)(hly:Loc X.env.scope y)(hc:X.calm=true)(ok:cR X N' scope cl src)(hi:PI X tgt iter wi)
  (hg:∀C s₀ H₀ fp pins,PG (fq X N' scope cl C s₀ H₀ fp pins) tgt g) (ht:∀C s₀ H₀ fp pins,q_ (fq X N' scope cl C s₀ H₀ fp pins) ifs tt) (he:∀C s₀ H₀ fp pins,PE (fq X N' scope cl C s₀ H₀ fp pins) elt te)
  (hsw:swapsWith (.ListComp elt [⟨tgt,iter,ifs,0⟩] scope pos) (some (.Name y py)) spos.line X.env=pure true:=by rfl)
  (hs:∀x,foldedSetIterable iter X.env x=pure x:=by intro _;rfl) (hf:X.fn y=true\/X.env.scope.names.lookup y=some .local:=by first | exact .inl rfl | exact .inr rfl | assumption) :
  PS X (.Assign [.Name y py] (.ListComp elt [⟨tgt,iter,ifs,0⟩] scope pos) spos) (kn (jX src wi g tt te) (iE i)):=by
 intro pins s σ H D0 I h;rw[exec_Assign_Name_used _ _ _ _ hsw];refine wf (wpAny_standAt (wf ?_))
 show wx _ X.A (do let _ <- comprehension (.ListComp elt [⟨tgt,iter,ifs,0⟩] scope pos) scope X.env _ (newList []) false (eval iter X.env) (some (assign (.Name y py) X.env))) _ _ s
 refine wf (WB (wpAny_comprehension_free (Q:=λ_ s'=>SP X pins D0 .next s') rfl hs ok.lD.lD ok.kind ok.names (aJ (hi pins s σ H _ I h) λv s1 h1=>aJ h1 λitv s2 h2=>?_))
  (λ_ s' hq=>wp (wp hq)) λ_ _ e=>e)
 obtain⟨it,fp,tn,J,H2,e,I2,T,st2,f2,rd⟩:=h2;subst e;refine Tf (RQ:=λD H'=>iE i (.ref D) σ H' D0.nx) (RR:=λacc C=>compPost (model X.prog X.w) X.A X.xe (some (assign (.Name y py) X.env)) (λ_ s'=>SP X pins D0 .next s') acc C) (λ_ _ _=>T.OX rfl rfl rfl hc) ok hg ht he I2 T st2 f2 rd ?_;intro D C H' s' m J hn hC q;obtain⟨c0,c1,_,c3,c4,c5⟩:=hC
 show wx _ _ (assign (.Name y py) X.env (.ref D)) _ _ s'
 refine wpAny_assign_Name (Tx J hN hy hly (v:=.ref D) rfl (λs'' J2 ⟨a,sb,ha⟩=>?_) hf)
 have hCa:C≠a:=by
  rcases ha with z | z
  ·rw[z];exact c1
  ·exact(c4 y a z).symm
 exact⟨m,hn.sameBut sb hCa,λh' sb'=>⟨_,H',J2.turned (t':=s''.toks) (λb o hb e=>(sb'.2 b hb).trans e) c0 c1 c3 c4 c5,q⟩⟩
end
variable{T b:we}
abbrev MK(h B:wG)(e:we)(cls:wg):Prop :=
 ∃oe vs,h.get? e=some oe/\oe.cls=cls/\oe.data=.fields vs/\vs[1]? = some .none/\vs[2]? = some .none/\oe.dict=none/\B.get? e=none
abbrev Lb(h B:wG)(e:we)(cls fl:wg):Prop :=
 ∃oe vs T oT ts,h.get? e=some oe/\oe.cls=cls/\oe.data=.fields vs/\vs[1]? = some (.ref T)/\vs[2]? = some .none/\oe.dict=none/\B.get? e=none/\B.get? T=none/\T≠e/\h.get? T=some oT/\oT.data=.fields ts/\ts[3]? = some fl
structure fC(B:wG)(l:List Env)(e:we)(cls fl:wg)(h:wG):Prop where
 st:B.StaysIn h
 fr:h.FunFrames B l
 tr:Lb h B e cls fl
theorem ztp{f:Array wg->Array wg}(o:Obj):(Qu f o).dict=o.dict:=by
 obtain⟨c,d,dt,sl⟩:=o;cases dt<;>rfl
theorem mH{h:wG}{f:Obj->Obj}(n:b≠T):(h.update T f).get? b=h.get? b:=Qs _ _ (WE n)
theorem m5{h:wG}{oT o:Obj}{ts:Array wg}(hT:h.get? T=some oT)(dT:oT.data=.fields ts)(hb:h.get? b=some o)(hn:∀vs,o.data≠.fields vs):b≠T:=by
 rintro rfl;rw[hT]at hb;cases hb;exact hn _ dT
theorem Fe{B:wG}{o:Obj}(n:B.get? T=none)(q:B.get? b=some o):b≠T:=by
 rintro rfl;rw[n]at q;cases q
section
variable{M:Model}{A:vb}{E:wg->wl->Prop}{s:wl}{B:wG}{l outer:List Env}{env:Env}{L e:we}{cls fl:wg}{Q:Unit->wl->Prop}
theorem fC.land(F:fC B l e cls fl s.heap)(k:∀h',fC B l e cls .none h'->s.heap.UpToSlots h'->Q () {s with heap:=h'}):wx M A (setFlight (.ref e) none) Q E s:=by
 obtain⟨st,fr,oe,vs,T,oT,ts,he,hc,hd,h1,h2,hdi,be,bT,ne,hT,dT,h3⟩:=F;have sz:3<ts.size:=(W2.mp h3).1;unfold setFlight;refine wf (vD he hd h1 ?_);rw[if_pos (by simp)];have at3:∀b,b≠T->(s.heap.update T (Qu (·.setIfInBounds 3 Value.none))).get? b=s.heap.get? b:=λb n=>mH n
 have tr:Lb (s.heap.update T (Qu (·.setIfInBounds 3 Value.none))) B e cls .none :=
  ⟨oe,vs,T,Qu (·.setIfInBounds 3 Value.none) oT,ts.setIfInBounds 3 Value.none,(at3 e ne.symm).trans he,hc,hd,h1,h2,hdi,be,bT,ne,
   VB _ hT (qD (qp dT _)),qp dT _,by simp[sz]⟩
 refine wpAny_setField hT dT sz (k _ ⟨λb o q=>(at3 b (Fe bT q)).trans (st b o q),fr.of_keeps λb o hb hn=>⟨o,(at3 b (m5 hT dT hb hn)).trans hb,rfl⟩,tr⟩ λb o hb hn=>⟨o.slots,(at3 b (m5 hT dT hb hn)).trans hb⟩)
theorem NL{oe:Obj}{vs:Array wg}{head:wg}{had:Bool}(hfr:A.frames=some (env::outer))(hf:env.frame=some L)(st:B.StaysIn s.heap)(fr:s.heap.FunFrames B (env::outer))(he:s.heap.get? e=some oe)
  (hd:oe.data=.fields vs) (sz:1<vs.size) (h2:vs[2]? = some .none) (hdi:oe.dict=none) (be:B.get? e=none) (k:∀h',fC B (env::outer) e oe.cls (VS L) h'->s.heap.UpToSlots h'->Q () {s with heap:=h'}) :
  wx M A (do let a <- frameOf env;let pl <- entryPlaceOf L had;let b <- Xv head a .none (VS L) .none pl;setField (.ref e) 1 b) Q E s:=by
 have nfr:e ∉ (env::outer).filterMap (·.frame):=λz=>by
  obtain⟨_,o,ho,hnf⟩:=fr.mem z;rw[he]at ho;cases ho;exact hnf vs hd
 refine wf (wpAny_frameOf_fun hfr fr hf λg sg=>wf (wpAny_entryPlaceOf λpl hpl=>?_));unfold Xv newFields;refine wf (WH ?_ (hpl.sizeOk5 _ _ _ _ _));have eg:g.get? e=some oe:=(sg.2.1 e nfr).trans he
 have stg:B.StaysIn g:=λb o q=>by
  rw[sg.2.1 b λz=>?_]
  ·exact st b o q
  ·rw[(fr.mem z).1]at q;cases q
 generalize hob:({cls:=.type "traceback",data:=.fields ([head,.ref L,.none,VS L,.none]++(if pl.isEmpty then vc 6 Value.none else pl)).toArray} : Obj)=tb;have dtb:tb.data=.fields ([head,.ref L,.none,VS L,.none]++(if pl.isEmpty then vc 6 Value.none else pl)).toArray:=by rw[<- hob]
 have ftb:tb.isFreed=false:=qD dtb;have e2:=wn (h:=g) tb eg;have neT:g.objs.size≠e:=vn (wD eg)
 have at3:∀b o,b≠e->g.get? b=some o->((g.push tb).update e (Qu (·.setIfInBounds 1 (.ref g.objs.size)))).get? b=some o:=λb o n q=>by
  rw[mH n];exact wn _ q
 refine wpAny_setField e2 hd sz (k _ ?_ ?_)
 ·have d3:=qp hd (·.setIfInBounds 1 (Value.ref g.objs.size))
  refine⟨λb o q=>at3 b o (Fe be q) (stg b o q),fr.of_keeps λb o hb hn=>?_,_,_,g.objs.size,tb,_,VB _ e2 (qD d3),X6 _ _,d3,by simp[sz],?_,?_,be,stg.fresh,neT,?_,dtb,?_⟩
  ·obtain⟨sl,q⟩:=sg.2.2 b o hb
   exact⟨_,at3 b _ (m5 he hd hb hn) q,rfl⟩
  ·rw[Array.getElem?_setIfInBounds_ne (by decide)];exact h2
  ·exact(ztp oe).trans hdi
  ·rw[mH neT];exact wN _ ftb
  ·first | (simp;done) | (rcases hpl with rfl | ⟨_,_,_,_,_,_,_,rfl⟩<;>simp)
 ·exact λb o hb hn=>by
   obtain⟨sl,q⟩:=sg.2.2 b o hb;exact⟨sl,at3 b _ (m5 he hd hb hn) q⟩
theorem zwk(hfr:A.frames=some (env::outer))(hf:env.frame=some L)(st:B.StaysIn s.heap)(fr:s.heap.FunFrames B (env::outer))(t:MK s.heap B e cls)
  (k:∀h',fC B (env::outer) e cls (VS L) h'->s.heap.UpToSlots h'->Q () {s with heap:=h'}):wx M A (noteFrame (.ref e) env) Q E s:=by
 obtain⟨oe,vs,he,hc,hd,h1,h2,hdi,be⟩:=t;subst hc;unfold noteFrame;simp only[hf];refine wf (vD he hd h1 ?_);rw[if_neg (by decide)];exact NL hfr hf st fr he hd (W2.mp h1).1 h2 hdi be k
theorem fC.note(F:fC B (env::outer) e cls .none s.heap)(hfr:A.frames=some (env::outer))(hf:env.frame=some L)
  (k:∀h',fC B (env::outer) e cls (VS L) h'->s.heap.UpToSlots h'->Q () {s with heap:=h'}):wx M A (noteFrame (.ref e) env) Q E s:=by
 obtain⟨st,fr,oe,vs,T,oT,ts,he,hc,hd,h1,h2,hdi,be,bT,ne,hT,dT,h3⟩:=F;subst hc;unfold noteFrame;simp only[hf];refine wf (vD he hd h1 ?_);rw[if_pos (by simp)];refine wf (vD hT dT h3 ?_);rw[if_neg (by simp[VS])];refine wf (wpAny_setField hT dT (W2.mp h3).1 ?_);refine NL hfr hf (λb o q=>?_) (fr.of_keeps λb o hb hn=>⟨o,?_,rfl⟩) ?_ hd (W2.mp h1).1 h2 hdi be λh' F' sm=>k h' F' λb o hb hn=>sm b o ?_ hn
 ·show(xR _ _ _).get? b=_
  rw[mH (Fe bT q)];exact st b o q
 ·show(xR _ _ _).get? b=_
  rw[mH (m5 hT dT hb hn)];exact hb
 ·show(xR _ _ _).get? e=_
  rw[mH ne.symm];exact he
 ·show(xR _ _ _).get? b=_
  rw[mH (m5 hT dT hb hn)];exact hb
theorem zuA(hfr:A.frames=some (env::outer))(hf:env.frame=some L)(st:B.StaysIn s.heap)(fr:s.heap.FunFrames B (env::outer))(t:MK s.heap B e cls)
  (k:∀h',fC B outer e cls .none h'->s.heap.UpToSlots h'->Q () {s with heap:=h'}):wx M A (leaving env (.ref e)) Q E s:=by
 unfold leaving;refine wf (zwk hfr hf st fr t λh1 F1 s1=>fC.land F1 λh2 F2 s2=>k h2 ⟨F2.st,F2.fr.2.2,F2.tr⟩ (s1.trans s2))
theorem fC.leave(F:fC B (env::outer) e cls .none s.heap)(hfr:A.frames=some (env::outer))(hf:env.frame=some L)
  (k:∀h',fC B outer e cls .none h'->s.heap.UpToSlots h'->Q () {s with heap:=h'}):wx M A (leaving env (.ref e)) Q E s:=by
 unfold leaving;refine wf (F.note hfr hf λh1 F1 s1=>fC.land F1 λh2 F2 s2=>k h2 ⟨F2.st,F2.fr.2.2,F2.tr⟩ (s1.trans s2))
end
theorem dQ.there{P:wI}{w:wJ}{H:Hp}{h:wG}{a:we}{o:HO}(x:dQ P w H h a o):∃u,h.get? a=some u:=by
 cases o with
 | lst xs=>obtain⟨_,_,_,_,e⟩:=x;exact⟨_,e⟩
 | tup xs=>obtain⟨_,_,_,_,e,_⟩:=x;exact⟨_,e⟩
 | dK kvs=>obtain⟨_,_,_,_,o,_,_,e,_⟩:=x;exact⟨_,e⟩
 | dT kvs=>obtain⟨_,_,_,_,o,_,_,e,_⟩:=x;exact⟨_,e⟩
 | set S n=>obtain⟨o,_,_,_,e,_⟩:=x;exact⟨_,e⟩
 | ins C dx fs=>obtain⟨_,_,_,e,_⟩:=x;exact⟨_,e⟩
 | own y=>exact x
 | xd fs=>obtain⟨_,⟨_,_,_,e,_⟩,_⟩:=x;exact⟨_,e⟩
 | yL lo hi=>obtain⟨_,_,_,e⟩:=x;exact⟨_,e⟩
 | gC ob u=>obtain⟨e,_⟩:=x;exact⟨_,e⟩
 | lq ps=>exact⟨_,x⟩
 | met f y=>exact⟨_,x⟩
 | ext φ=>obtain⟨_,e,_⟩:=x;exact e
structure m8(B:wG)(fs:List we)(H H':Hp)(h:wG):Prop where
 iP:∀a o,H' a=some o->∃u,B.get? a=some u
 old:∀b o,h.get? b=some o->H b=none->b ∉ fs->B.get? b=some o
 pN:∀b o,h.get? b=some o->b ∉ fs->∃u,B.get? b=some u
def fc(P:wI)(w:wJ):fV:=λouter H s E e s'=>∃(ex:we)(C:wg)(H':Hp)(B:wG),e=.ref ex/\s'.os=s.os/\AllBare s'.gens/\Un (dZ outer) [] H H' s.heap s'.heap/\dB P w H' s'.heap /\
 fC B outer ex C .none s'.heap/\m8 B (dZ outer) H H' s.heap/\E C none H'
section
variable{B h h1 h':wG}{fs:List we}{H H':Hp}{P:wI}{w:wJ}
theorem m8.un(ov:m8 B fs H H' h)(un:Un fs [] H H' h h1)(hfs:∀b∈fs,H b=none /\ ∃o,h.get? b=some o /\ ∀vs,o.data≠.fields vs)(st:B.StaysIn h')(sm:h1.UpToSlots h'):Un fs [] H H' h h':=by
 have slot:∀b o,h.get? b=some o->b∈fs->∃sl,h'.get? b=some {o with slots:=sl}:=λb o e hb=>by
  obtain⟨n,o',ho',nr⟩:=hfs b hb;rw[e]at ho';cases ho';obtain⟨sl,e1⟩:=un.any e n (by simp);obtain⟨sl2,e2⟩:=sm b _ e1 nr;exact⟨sl2,e2⟩
 refine⟨λb o e n nf _=>st b o (ov.old b o e n nf),λb o e _ hb _=>slot b o e hb,un.free,λb o e _=>?_,un.iK,un.hJ,un.iJ⟩
 by_cases hb:b∈fs
 ·obtain⟨sl,e1⟩:=slot b o e hb
  exact⟨_,e1⟩
 ·obtain⟨u,e1⟩:=ov.pN b o e hb
  exact⟨u,st b u e1⟩
theorem m8.aI(ov:m8 B fs H H' h)(aI:dB P w H' h1)(st1:B.StaysIn h1)(st:B.StaysIn h'):dB P w H' h':=λa o e=>by
 refine(aI a o e).kE (λb u hb r=>?_) (λ_ z=>z) λ_ _ z=>z
 have:∃v,B.get? b=some v:=by
  rcases hb with rfl | hb
  ·exact ov.iP _ _ e
  ·exact ov.iP _ _ hb
 obtain⟨v,ev⟩:=this;have e2:=st1 b v ev;rw[r]at e2;cases e2;exact st b u ev
end
section
variable{X:Cx}{pins:List (we × Obj)}{σ : St}{H H':Hp}{s s':wl}{B:wG}{ex:we}{C:wg}{E:XK}{E':wg->wl->Prop}
theorem MI(I:Inv X pins σ H s)(hx:X.ex=[])(os:s'.os=s.os)(bare:AllBare s'.gens)(un:Un (dZ X.stack) [] H H' s.heap s'.heap)(aI:dB X.prog X.w H' s'.heap)(stB:B.StaysIn s'.heap)(ov:m8 B (dZ X.stack) H H' s.heap)
  (q:E C none H') (fly:∀(Q:Unit->wl->Prop),(∀h',fC B X.outer ex C .none h'->s'.heap.UpToSlots h'->Q () {s' with heap:=h'})->wx (model X.prog X.w) X.A (leaving X.env (.ref ex)) Q E' s') :
  wx (model X.prog X.w) X.A (leaving X.env (.ref ex)) (λ_ s''=>fc X.prog X.w X.outer X.H₀ X.s₀ E (.ref ex) s'') E' s':=by
 have base:Un X.fs [] X.H₀ H X.s₀.heap s.heap:=by have:=I.base;rwa[hx]at this
 have nL:∀b o,X.s₀.heap.get? b=some o->b ∉ X.fs->b ∉ dZ X.stack:=λb o e n z=>by
  rcases wF.mp (I.mP b z)with r | r
  ·exact wQ (wV (wD e) I.ok.above) r
  ·exact n r
 have old:∀b o,X.s₀.heap.get? b=some o->X.H₀ b=none->b ∉ X.fs->B.get? b=some o:=λb o e n nf =>
  ov.old b o (base.keep b o e n nf (by simp)) (base.free b o e n (by simp)) (nL b o e nf)
 have pN:∀b o,X.s₀.heap.get? b=some o->b ∉ X.fs->∃u,B.get? b=some u:=λb o e nf=>by
  obtain⟨o',e1⟩:=base.there b o e (by simp);exact ov.pN b o' e1 (nL b o e nf)
 refine fly _ λh' F sm=>⟨ex,C,H',B,rfl,os.trans I.os,bare,⟨λb o e n nf _=>F.st b o (old b o e n nf),λb o e n hb _=>?_,λb o e n _=>?_,λb o e _=>?_,λb xs e=>un.iK b xs (base.iK b xs e),
  λb o u e=>un.hJ b o u (base.hJ b o u e),λb ps e=>?_⟩,λa o e=>?_,F,⟨ov.iP,old,pN⟩,q⟩
 ·obtain⟨sl,e1⟩:=base.slot b o e n hb (by simp)
  obtain⟨sl',e2⟩:=un.any e1 (base.free b o e n (by simp)) (by simp);obtain⟨_,o',ho',nr⟩:=I.ok.fi.mem hb;rw[e]at ho';cases ho';obtain⟨sl2,e3⟩:=sm b _ e2 nr;exact⟨sl2,e3⟩
 ·obtain⟨o',e1⟩:=base.there b o e (by simp)
  exact un.free b o' e1 (base.free b o e n (by simp)) (by simp)
 ·by_cases hb:b∈X.fs
  ·obtain⟨_,o',ho',nr⟩:=I.ok.fi.mem hb
   rw[e]at ho';cases ho';have n:X.H₀ b=none:=I.ok.jl b hb;obtain⟨sl,e1⟩:=base.slot b o e n hb (by simp);obtain⟨sl',e2⟩:=un.any e1 (base.free b o e n (by simp)) (by simp);obtain⟨sl2,e3⟩:=sm b _ e2 nr;exact⟨_,e3⟩
  ·obtain⟨u,e1⟩:=pN b o e hb
   exact⟨u,F.st b u e1⟩
 ·obtain⟨m1,e1⟩:=base.iJ b ps e
  obtain⟨m2,e2⟩:=un.iJ b _ e1;exact⟨m1++m2,by rw[e2,XC]⟩
 ·refine(aI a o e).kE (λb u hb r=>?_) (λ_ z=>z) λ_ _ z=>z
  have:∃v,B.get? b=some v:=by
   rcases hb with rfl | hb
   ·exact ov.iP _ _ e
   ·exact ov.iP _ _ hb
  obtain⟨v,ev⟩:=this;have e2:=stB b v ev;rw[r]at e2;cases e2;exact F.st b u ev
theorem zwQ{e:wg}(I:Inv X pins σ H s)(hx:X.ex=[])(hs:X.stack=X.env::X.outer)(hf:X.env.frame=some X.env.locals)(h:fc X.prog X.w X.stack H s E e s') :
  wx (model X.prog X.w) X.A (leaving X.env e) (λ_ s''=>fc X.prog X.w X.outer X.H₀ X.s₀ E e s'') E' s':=by
 obtain⟨ex,C,H',B,rfl,os,bare,un,aI,F,ov,q⟩:=h;rw[hs]at F;exact MI I hx os bare un aI F.st ov q λQ k=>F.leave (I.ok.frames.trans (congrArg some hs)) hf k
theorem ztI{h':wG}{vs:List wg}(I:Inv X pins σ H s)(hx:X.ex=[])(hs:X.stack=X.env::X.outer)(hf:X.env.frame=some X.env.locals)(m:u5 s.heap h' ex C vs)(q:E C none H) :
  wx (model X.prog X.w) X.A (leaving X.env (.ref ex)) (λ_ s''=>fc X.prog X.w X.outer X.H₀ X.s₀ E (.ref ex) s'') E' {s with heap:=h'}:=by
 obtain⟨B,hB⟩:∃B,B=uD s.heap (dZ X.stack):=⟨_,rfl⟩;have hin:∀env∈X.stack,∀b,env.frame=some b->b∈dZ X.stack:=λenv he b hb=>qV.mpr ⟨env,he,hb⟩
 have frB:s.heap.FunFrames B X.stack:=by rw[hB];exact PySem.W.funFrames_hide I.stack hin
 have getB:∀{b o},s.heap.get? b=some o->b ∉ dZ X.stack->B.get? b=some o:=λe n=>by rw[hB];exact Xr _ e n
 have ofB:∀{b o},B.get? b=some o->s.heap.get? b=some o:=λr=>by rw[hB]at r;exact XB _ r
 have nfr:∀a o,H a=some o->a ∉ dZ X.stack:=λa o e z=>by
  have:=I.sF a z;rw[e]at this;cases this
 obtain⟨t,he,_,_⟩:=m.there
 refine MI (B:=B) (s':={s with heap:=h'}) I hx rfl I.bare (Un.kept m.keeps) (I.aI.kept m.keeps) (λb o r=>m.keeps b o (ofB r))
  ⟨λa o e=>?_,λb o e _ nf=>getB e nf,λb o e nf=>⟨o,getB e nf⟩⟩ q λQ k=>?_
 ·obtain⟨u,e1⟩:=(I.aI a o e).there
  exact⟨u,getB e1 (nfr a o e)⟩
 ·rw[hs]at frB
  refine zuA (s:={s with heap:=h'}) (I.ok.frames.trans (congrArg some hs)) hf (λb o r=>m.keeps b o (ofB r)) (frB.of_keeps λb o hb _=>⟨o,m.keeps b o hb,rfl⟩) ⟨_,_,he,rfl,rfl,rfl,rfl,rfl,?_⟩ k;cases z:B.get? ex with
  | none=>rfl
  | some o =>
   have:=ofB z;rw[m.new]at this;cases this
end
variable{K:wb}{base:wG}{qual:Str}
theorem y7{P:wI}{w:wJ}{mg:Str->Option wg}{N:List Str}{scope:Scope}{f:we}{cd:wg}{A:vb}{outer:List Env}{s:wl}{H:Hp}{E:XK} :
  nj (fc P w) (iV (fc P w) P w K mg base N qual scope f cd A outer s H E) E:=λpins σ H1 s1 e s' I h=>zwQ I rfl rfl rfl h
def Mp(X:Cx)(C:wg)(E:XK):Prop:=∀(pins:List (we × Obj))(σ : St)(H:Hp)(s:wl)(h':wG)(ex:we)(vs:List wg),Inv X pins σ H s->u5 s.heap h' ex C vs->E C none H->X.xe (.ref ex) {s with heap:=h'}
theorem MC{P:wI}{w:wJ}{mg:Str->Option wg}{N:List Str}{scope:Scope}{f:we}{cd C:wg}{A:vb}{outer:List Env}{s:wl}{H:Hp}{E:XK} :
  Mp (iV (fc P w) P w K mg base N qual scope f cd A outer s H E) C E:=λpins σ H1 s1 h' ex vs I m q=>ztI I rfl rfl rfl m q
def rX:List wg:=[.type "ValueError",.type "Exception",.type "BaseException",.type "object"]
theorem zAk{h:wG}{C:we}{bmB:List wg}{newId:String}(X:K.In h)(q:qk K C bmB newId=true) :
  ∃bm N nm qn bs hd sn sub ab col dd k0 k1 k2 k3 k5 mN,h.get? C=some (excClassObj nm qn C N bs bm hd sn sub ab col dd k0 k1 k2 k3 k5 newId)/\h.Ns N mN/\mN "__init__"=none/\OwnTail h bmB bm:=by
 unfold qk at q
 split at q
 case h_2=>cases q
 rename_i dd cd sl ho
 split at q
 case h_2=>cases q
 rename_i C' bm k0 k1 k2 k3 n k5 hm hs;simp only[wZ,beq_iff_eq,WV]at q;obtain⟨⟨⟨⟨⟨rfl,rfl⟩,hdel⟩,ht⟩,aI⟩,hni⟩:=q;obtain⟨nm,bs,mro,ns,qn,hd,sn,sub,ab,col,del⟩:=cd;dsimp only at hm hdel aI hni;subst hm hdel
 have e:sl = #[k0,k1,k2,k3,some (.builtin n),k5]:=by
  cases sl;simp only at hs;rw[hs]
 subst e;exact⟨bm,ns,nm,qn,bs,hd,sn,sub,ab,col,dd,k0,k1,k2,k3,k5,_,X _ _ ho,.of_isNs (PySem.W.isNs_of_in X aI),PySem.W.nsMap_none_of_in X aI hni,PySem.W.tail_of_in X ht⟩
section
variable{X:Cx}{x:Str}{C:we}{E:XK}{e:Expr}{es:List Expr}{t:TA}{np cpos pos:Pos}
def N2(C:wg)(E:XK)(t:TA):TS:=λ_ σ H=>t σ H λvs H1=>vs.length<=w8/\E C none H1
theorem Pp(q:qk X.K C rX "ValueError.__new__"=true)(hc:X.calm=true)(hg:Gl X x)(hm:X.mg x=some (.ref C))(Z:Mp X (.ref C) E)(ha:PA X (e::es) t)(hdb:(x == ("__debug__" : Str))=false:=by decide)
  (he:w5 (e::es) X.env=(false,eval e X.env)::w5 es X.env:=by rfl) (hpl:(backTo cpos (w5 es X.env)).any (·.1)=false:=by rfl) :
  PS X (.Raise (some (.Call (.Name x np) (e::es) [] cpos)) none pos) (N2 (.ref C) E t):=by
 intro pins s σ H D I h;obtain⟨bm,N,nm,qn,bs,hd,sn,sub,ab,col,dd,k0,k1,k2,k3,k5,mN,hC,hN,hni,T⟩:=zAk I.ok.mod.rf q
 refine wpAny_Raise_call_subU (C:=C) (nm:=nm) (q:=qn) (N:=N) (bs:=bs) (bm:=bm) (hdct:=hd) (sn:=sn) (sub:=sub) (ab:=ab) (col:=col) (dd:=dd) (k0:=k0) (k1:=k1) (k2:=k2) (k3:=k3) (k5:=k5)
  Xj (by decide) Xj (mN:=mN) (T.hasType (by decide)) (I.ok.hd hc) (by rw[he];show(false || (backTo cpos (w5 es X.env)).any (·.1))=false;rw[hpl];rfl) hni (rF I hg hm ⟨rfl,?_⟩ hdb)
 have ha':=ha cpos pins s σ H _ I h;rw[he]at ha' ⊢;refine Xf (WB ha' (λus s2 ⟨vs,H2,I2,r,z,q2⟩=>⟨rfl,by rw[<- r.length];exact z,I2.bk _ _ hC,hN.keeps I2.bk,T.keeps I2.bk,λh' ex m=>Z pins σ H2 s2 h' ex us I2 m q2⟩) λ_ _ y=>y)
end
abbrev Cx.at(X:Cx)(pn:List (we × Obj))(E:wg->wl->Prop):Cx:={X with pn:=pn,xe:=E}
abbrev Cx.sN(X:Cx)(pn:List (we × Obj))(ex:we)(oe:Obj):Cx:={X with pn:=pn++[(ex,oe)],xe:=λ_ _=>False,A:=X.A.mark (some (.ref ex)),calm:=false}
section
variable{X:Cx}{pins pins':List (we × Obj)}{σ : St}{H:Hp}{s:wl}{ex:we}{oe:Obj}
theorem Inv.Zg(I:Inv X pins σ H s)(E:wg->wl->Prop):Inv (X.at (X.pn++pins) E) [] σ H s :=
 ⟨⟨I.ok.mod,I.ok.kind,I.ok.glob,I.ok.blt,I.ok.above,I.ok.inj,I.ok.has,I.ok.kI,I.ok.hd,I.ok.frames,I.ok.me,I.ok.pE,I.ok.bs,I.ok.iZ,I.ok.kF,I.ok.lC,I.ok.fi,I.ok.jl⟩,I.os,I.bare,I.base,I.loc,I.cell,I.free,I.gq,
  λp hp=>I.pin p (by rw[Wh]at hp;exact hp),I.aI,I.len⟩
theorem Inv.oV{E:wg->wl->Prop}(I:Inv (X.at (X.pn++pins) E) pins' σ H s):Inv X pins σ H s :=
 ⟨⟨I.ok.mod,I.ok.kind,I.ok.glob,I.ok.blt,I.ok.above,I.ok.inj,I.ok.has,I.ok.kI,I.ok.hd,I.ok.frames,I.ok.me,I.ok.pE,I.ok.bs,I.ok.iZ,I.ok.kF,I.ok.lC,I.ok.fi,I.ok.jl⟩,I.os,I.bare,I.base,I.loc,I.cell,I.free,I.gq,
  λp hp=>I.pin p (VU _ hp),I.aI,I.len⟩
theorem Inv.Y5(I:Inv X pins σ H s)(he:s.heap.get? ex=some oe)(hn:H ex=none)(nl:ex≠X.env.locals)(nf:ex ∉ X.fs)(nc:∀v,oe.data≠.cell v):Inv (X.sN (X.pn++pins) ex oe) [] σ H s :=
 ⟨⟨I.ok.mod,I.ok.kind,I.ok.glob,I.ok.blt,I.ok.above,I.ok.inj,I.ok.has,I.ok.kI,λz=>Bool.noConfusion z,I.ok.frames,I.ok.me,I.ok.pE,I.ok.bs,I.ok.iZ,I.ok.kF,I.ok.lC,I.ok.fi,I.ok.jl⟩,I.os,I.bare,I.base,I.loc,I.cell,I.free,I.gq,
  λp hp=>by
   rw[Wh]at hp;rcases vX.mp hp with z | z
   ·exact I.pin p z
   ·cases w6.mp z
    exact⟨he,hn,nl,nf,nc⟩,I.aI,I.len⟩
theorem Inv.sM(ok:X.Ok)(I:Inv (X.sN (X.pn++pins) ex oe) pins' σ H s):Inv X pins σ H s :=
 ⟨ok,I.os,I.bare,I.base,I.loc,I.cell,I.free,I.gq,λp hp=>I.pin p (VU _ (VU _ hp)),I.aI,I.len⟩
end
def SS(CX:fV)(X:Cx)(W:St->XK):Prop:=∀(pins:List (we × Obj))(σ : St)(H:Hp)(s:wl)(e:wg)(s':wl),Inv X pins σ H s->CX X.stack H s (W σ) e s'->X.xe e s'
def yJ(sp:Sp)(W:St->XK)(t:TA):TE:=λσ H Q=>t σ H λvs H1=>sp vs H1 Q (W σ)
section
variable{X:Cx}{CX:fV}{k:Nat}{f:we}{fd:wE}{ps:List Str}{sp:Sp}{W:St->XK}{x:Str}{p pos:Pos}{e:Expr}{es:List Expr}{t:TA}
theorem PK(F:aH X.prog X.w X.K X.mg X.base CX k f fd ps sp)(hr:d6 k X.A)(hg:Gl X x)(hm:X.mg x=some (.ref f))(hk:Qh X.K (.ref f)=true)(hb:lV X.K fd ps [])(hx:SS CX X W)
  (ha:PA X (e::es) t) (hdb:(x == ("__debug__" : Str))=false:=by decide) (he:w5 (e::es) X.env=(false,eval e X.env)::w5 es X.env:=by rfl) (hpl:(backTo pos (w5 es X.env)).any (·.1)=false:=by rfl) :
  PE X (.Call (.Name x p) (e::es) [] pos) (yJ sp W t):=by
 intro pins s σ H Q I h;refine Qg (rF I hg hm ?_ hdb);refine XD (h₀:=X.base) I.ok.mod.rf hk (aJ (ha pos pins s σ H _ I h) λus s1 ⟨vs,H1,I1,r,q⟩=>⟨I1.dW,?_⟩) he hpl;have hl:us.length=ps.length:=by rw[<- r.length];exact F.len _ _ _ _ q
 have hbd:BindsTo s1 fd ⟨us,[]⟩ (ps.zip us):=by simpa using hb s1 us I1.dW (by simpa using hl)
 refine wpAny_call (codeAny_mono (F.run X.A X.stack s1 H1 ⟨us,[]⟩ us vs Q (W σ) hr I1.Kv hbd r q) λr s' hq=>?_);cases r with
 | error e=>exact hx pins σ H1 s1 e s' I1 hq
 | ok fl =>
  cases fl with
  | ret u=>exact I1.after hq
  | next=>exact W1 hq
  | brk=>exact W1 hq
  | cont=>exact W1 hq
end
structure NM(C:wg)(oe:Obj):Prop where
 cls:oe.cls=C
 fld:∃vs,oe.data=.fields vs/\vs[2]? = some .none
 dict:oe.dict=none
section
variable{X:Cx}{x n:Str}{G:wg}{i:Nat}{b₀ : w9}{body suite:List w9}{np hpos pos:Pos}{tb:(St->XK)->TS}{th:we->wg->TS}
end
structure Hd(X:Cx)(ex:we)(C:wg)(oe:Obj):Prop where
 hd:X.A.handled=some (.ref ex)
 pn:(ex,oe)∈X.pn
 ob:NM C oe
section
variable{P:wI}{w:wJ}{K:wb}{mg:Str->Option wg}{base:wG}
end
section
variable{X:Cx}{k:Nat}{f:we}{fd:wE}{ps:List Str}{sp:we->wg->Sp}{x:Str}{p pos:Pos}{e:Expr}{es:List Expr}{t:TA}{ex:we}{C:wg}{oe:Obj}
end
variable{scope:Scope}
def iD(cells:List (Str × we)):List (Str × W6)->List (Str × we)->List (Str × we)
 | [],acc=>acc
 | (n,k)::r,acc=>iD cells r (if(k == NameKind.free)=true then(n,(cells.lookup n).getD 0)::acc else acc)
theorem zlJ{env:Env}(h:∀y∈scope.names,y.2=.free->∃c,env.cells.lookup y.1=some c):closureFor scope env=pure (iD env.cells scope.names []):=by
 unfold closureFor;generalize scope.names=names at h
 suffices g:∀(names:List (Str × W6))(acc:List (Str × we)),(∀y∈names,y.2=.free->∃c,env.cells.lookup y.1=some c) ->
     (forIn names acc λ(x:Str × W6)(r:List (Str × we))=>if(x.2 == NameKind.free)=true then do let c <- cellOf env x.1;pure (ForInStep.yield ((x.1,c)::r))else pure (ForInStep.yield r):Sem (List (Str × we)))=pure (iD env.cells names acc) by
   have:=g names [] h
   show(_ >>= pure)=_
   rw[bind_pure];exact this
 intro names
 induction names with
 | nil=>intro acc _;rfl
 | cons y r ih =>
   intro acc hy;obtain⟨n,k⟩:=y;rw[qR]
   by_cases e:(k == NameKind.free)=true
   . obtain⟨c,hc⟩:=hy (n,k) wz (beq_iff_eq.mp e)
     have hcell:cellOf env n=pure c:=by
       unfold cellOf;rw[hc]
     simp only[e,if_true,hcell,pure_bind];rw[ih _ λz hz=>hy z (wy _ hz)]
     show _=pure (iD env.cells r _)
     simp only[e,if_true,hc,Qw]
   . simp only[e,pure_bind]
     rw[if_neg (by simp),pure_bind];dsimp only;rw[ih _ λz hz=>hy z (wy _ hz)]
     show _=pure (iD env.cells r _)
     rw[if_neg e]
theorem LA{cells:List (Str × we)} : ∀(names:List (Str × W6))(acc:List (Str × we))(x:Str)(c:we),(∀y∈names,y.2=.free->∃c,cells.lookup y.1=some c)->(∀x c,acc.lookup x=some c->cells.lookup x=some c) ->
  (iD cells names acc).lookup x=some c->cells.lookup x=some c
 | [],acc,x,c,_,ha,h=>ha x c h
 | (n,k)::r,acc,x,c,hy,ha,h=>by
  unfold iD at h;refine LA r _ x c (λz hz=>hy z (wy _ hz)) (λx' c' h'=>?_) h
  split at h'
  ·rename_i e
   obtain⟨c0,hc0⟩:=hy (n,k) wz (beq_iff_eq.mp e);rw[qI]at h'
   split at h'
   ·rename_i e2
    rw[beq_iff_eq.mp e2,hc0];rw[hc0]at h';exact h'
   ·exact ha x' c' h'
  ·exact ha x' c' h'
theorem OK{cells:List (Str × we)} : ∀(names:List (Str × W6))(acc:List (Str × we))(x:Str),(∃c,acc.lookup x=some c)->∃c,(iD cells names acc).lookup x=some c
 | [],acc,x,h=>h
 | (n,k)::r,acc,x,h=>by
  unfold iD;refine OK r _ x ?_
  split
  ·rw[qI]
   split
   ·exact⟨_,rfl⟩
   ·exact h
  ·exact h
theorem NZ{cells:List (Str × we)} : ∀(names:List (Str × W6))(acc:List (Str × we))(x:Str),(x,NameKind.free)∈names->∃c,(iD cells names acc).lookup x=some c
 | [],acc,x,h=>nomatch h
 | (n,k)::r,acc,x,h=>by
  unfold iD;rcases wF.mp h with e | e
  ·cases e
   rw[if_pos (by decide)];refine OK r _ _ ?_;rw[qI];simp
  ·exact NZ r _ x e
theorem O_(g:Str->W6->W6):∀(names:List (Str × W6))(x:Str),(names.map λy=>(y.1,g y.1 y.2)).lookup x=(names.lookup x).map (g x)
 | [],x=>rfl
 | (n,k)::r,x=>by
  rw[vd,qI,qI];dsimp only
  by_cases e:(x == n)=true
  ·have e':=beq_iff_eq.mp e
   subst e';simp
  ·rw[uw]at e
   simp only[e];exact O_ g r x
def zX(env:Env)(x:Str)(k:W6):W6:=if(k == .free&&env.scope.kind == .function&&env.kindOf x == some .cell)=true then .cell else k
theorem OI{env:Env}(x:Str):(relabel scope env).names.lookup x=(scope.names.lookup x).map (zX env x):=by
 rw[<- O_]
 show(scope.names.map _).lookup x=_
 congr 2
 funext ⟨n,k⟩
 dsimp only[zX]
 split<;>rfl
def dg(inner outer:List (Str × W6))(N N':List Str)(src:List (Option Nat)):Bool :=
 (inner.all λy=>(y.2 != .cell)&&(y.2 != .local || inner.lookup y.1 == some .local)&&(y.2 != .free || outer.lookup y.1 == some .cell)) &&
 (N'.length == src.length)&&((N'.zip src).all λp=>match p.2 with
  | none=>true
  | some j=>N[j]? == some p.1&&outer.lookup p.1 == some .cell&&inner.lookup p.1 == some .free)
theorem cR.by{X:Cx}{N':List Str}{src:List (Option Nat)}(hk:scope.kind=.function)(hc:dg scope.names X.env.scope.names X.N N' src=true)(hf:∀x,X.env.scope.names.lookup x=some .cell->∃c,X.env.cells.lookup x=some c:=by exact λx h=>CB h) :
  cR X N' scope (iD X.env.cells scope.names []) src:=by
 unfold dg at hc;simp only[wZ,WO,beq_iff_eq,uM,bne_iff_ne,ne_eq]at hc;obtain⟨⟨h1,h2⟩,h3⟩:=hc;have fr:∀y∈scope.names,y.2=.free->∃c,X.env.cells.lookup y.1=some c:=λy hy e=>hf _ (((h1 y hy).2).elim (λz=>absurd e z) id)
 have at3:∀(i:Nat)(x:Str)(j:Nat),N'[i]? = some x->src[i]? = some (some j)->X.N[j]? = some x/\X.env.scope.names.lookup x=some .cell/\scope.names.lookup x=some .free:=λi x j e1 e2=>by
  have m:(x,some j)∈N'.zip src:=by
   rw[x5];exact⟨i,by rw[List.getElem?_zip_eq_some];exact⟨e1,e2⟩⟩
  have:=h3 _ m;simp only[wZ,beq_iff_eq]at this;exact⟨this.1.1,this.1.2,this.2⟩
 refine⟨hk,λy hy=>((h1 y hy).1).1,λy hy e=>(((h1 y hy).1).2).elim (λz=>absurd e z) id,⟨zlJ fr,λx c e=>LA _ _ x c fr (λ_ _ z=>by simp at z) e,λx e=>?_⟩,⟨h2,λi j x e1 e2=>⟨(at3 i x j e1 e2).1,(at3 i x j e1 e2).2.1⟩⟩,λi x e1 e2=>?_⟩
 ·rw[OI]at e
  cases q:scope.names.lookup x with
  | none=>rw[q]at e;simp at e
  | some k =>
   have hm:=Vo q
   have hk:k=.free:=by
    rw[q]at e;simp only[uN,Qp,zX]at e;have nc:k≠.cell:=((h1 _ hm).1).1;rcases e with e | e
    ·split at e
     ·rename_i z;simp only[wZ,beq_iff_eq]at z;exact z.1.1
     ·exact absurd e nc
    ·split at e
     ·cases e
     ·exact e
   subst hk;exact NZ _ _ x hm
 ·obtain⟨o,ho⟩:∃o,src[i]? = some o:=by
   have:i<src.length:=by rw[<- h2];exact(Wt.mp e1).1
   exact⟨src[i],by simp[this]⟩
  cases o with
  | none=>exact absurd ho e2
  | some j =>
   have:=(at3 i x j e1 ho).2.2;rw[OI,this];simp only[uN,Qp,zX]
   split
   ·exact .inl rfl
   ·exact .inr rfl
section
variable{prog:wI}{w:wJ}{A:vb}{E:wg->wl->Prop}{s:wl}
end
section
variable{X:Cx}{ex:we}{C:wg}{oe:Obj}{pins:List (we × Obj)}{σ : St}{H:Hp}{s:wl}{pos:Pos}
variable{tg l:Expr}{tl:TE}
variable{N':List Str}{scope:Scope}{cl:List (Str × we)}{src:List (Option Nat)}{elt tgt iter:Expr}{ifs:List Expr}{wi:TI}{g:TG}{tt:TT}{te:TE}
end
def zq(K:wb)(g:TG)(tt:TT)(te:TE)(src:List (Option Nat))(σ : St)(x:V)(H1:Hp)(Q:VK):Prop :=
 ∃a,x=.ref a/\(∃xs,aQ K H1 a xs) /\ ∀D,H1 D=none->jU g tt te (jj K a) D (dS src σ) (upd H1 D (.lst [])) (λH'=>Q (.ref D) H')
def ze(K:wb)(g:TG)(tt:TT)(te:TE)(src:List (Option Nat))(σ : St)(x:V)(H1:Hp)(Q:VK):Prop :=
 ∃a,x=.ref a/\(∃xs,aU K H1 a xs) /\ ∀D,H1 D=none->jU g tt te (jg K a) D (dS src σ) (upd H1 D (.lst [])) (λH'=>Q (.ref D) H')
def EZ(g:TG)(tt:TT)(te:TE)(src:List (Option Nat))(σ : St)(vs:List V)(H1:Hp)(Q:VK):Prop :=
 ∃j:Int,vs=[.int j] /\ -(2^62)<=j/\j<2^62 /\ ∀D,H1 D=none->jU g tt te (gr 0 j.toNat) D (dS src σ) (upd H1 D (.lst [])) (λH'=>Q (.ref D) H')
section
variable{K:wb}{g:TG}{tt:TT}{te ta:TE}{tA:TA}{src:List (Option Nat)}{σ : St}{H:Hp}{Q:VK}{a:we}{xs:List V}{n:Int}
theorem zzJ(h:ta σ H λx H1=>zq K g tt te src σ x H1 Q):jX src (Fo K ta) g tt te σ H Q:=h
theorem zzK(h:ta σ H λx H1=>ze K g tt te src σ x H1 Q):jX src (YE K ta) g tt te σ H Q:=h
theorem zzs(h:tA σ H λvs H1=>EZ g tt te src σ vs H1 Q):jX src (Gh tA) g tt te σ H Q:=h
def rP(Pv:we->Nat->List V->St->Hp->Prop)(D:we)(i:Nat)(σ3:St)(y:V)(H5:Hp):Prop :=
 ∃ys,H5 D=some (.lst ys)/\ys.length<w8 /\ ∃ys',Pv D (i+1) ys' σ3 (upd H5 D (.lst (ys++[y])))
def ig(Pv:we->Nat->List V->St->Hp->Prop)(g:TG)(tt:TT)(te:TE)(D:we)(i:Nat)(x:V)(σ':St)(H':Hp):Prop :=
 g x σ' H' λσ3 H3=>tt σ3 H3 λok H4=>if ok=true then te σ3 H4 λy H5=>rP Pv D i σ3 y H5 else ∃ys',Pv D (i+1) ys' σ3 H4
theorem lU{Pv:we->Nat->List V->St->Hp->Prop}{D:we}{i:Nat}{σ3:St}{y:V}{H5:Hp}{ys:List V}(h:H5 D=some (.lst ys))(z:ys.length<=1000)(q:∀H6,Exc D H5 H6->H6 D=some (.lst (ys++[y]))->Pv D (i+1) (ys++[y]) σ3 H6):rP Pv D i σ3 y H5 :=
 ⟨ys,h,jo z,_,q _ (Exc.upd D H5 _) cX⟩
theorem FH{J:It}{N:Nat}{D:we}{σ0:St}{H0:Hp}{R:Hp->Prop}(Pv:we->Nat->List V->St->Hp->Prop)(item:Nat->V->Prop)(h0:Pv D 0 [] σ0 H0)
  (stop:∀i ys σ' H',Pv D i ys σ' H'->N<=i->J.stop i H') (go:∀i ys σ' H',Pv D i ys σ' H'->i<N->J.go i H') (fF:∀i ys σ' H' x H2,Pv D i ys σ' H'->J.fF i H' x H2->H2=H'/\item i x)
  (hs:∀i x ys σ' H',i<N->item i x->Pv D i ys σ' H'->ig Pv g tt te D i x σ' H') (hd:∀ys σ' H',Pv D N ys σ' H'->R H'):jU g tt te J D σ0 H0 R:=by
 refine⟨λi m σ' H'=>i+m=N /\ ∃ys,Pv D i ys σ' H',⟨N,by lia,[],h0⟩,?_⟩;rintro i m σ' H' ⟨him,ys,hp⟩
 by_cases hm:m=0
 ·subst hm
  have e:i=N:=by lia
  subst e;exact .inl ⟨stop _ _ _ _ hp (wo _),hd _ _ _ hp⟩
 ·refine .inr ⟨go _ _ _ _ hp (by lia),λσ2 H2=>∃ys,Pv D (i+1) ys σ2 H2,λσ2 H2 h=>⟨m-1,by lia,by lia,h⟩,λx H2 hy2=>?_⟩
  obtain⟨e,hit⟩:=fF _ _ _ _ _ _ hp hy2;subst e;exact hs i x ys σ' H2 (by lia) hit hp
theorem yH(hx:aQ K H a xs)(Pv:we->Nat->List V->St->Hp->Prop)(h0:∀D H',H D=none->ah H H'->H' D=some (.lst [])->Pv D 0 [] (dS src σ) H')(hl:∀D i ys σ' H',Pv D i ys σ' H'->aQ K H' a xs)
  (hs:∀D i x ys σ' H',xs[i]? = some x->Pv D i ys σ' H'->ig Pv g tt te D i x σ' H') (hd:∀D ys σ' H',Pv D xs.length ys σ' H'->Q (.ref D) H'):zq K g tt te src σ (.ref a) H Q:=by
 refine⟨a,rfl,⟨xs,hx⟩,λD hD=>FH (N:=xs.length) Pv (λi x=>xs[i]? = some x) (h0 D _ hD (ah.upd hD) cX) (λi ys σ' H' hp hi=>⟨xs,hl _ _ _ _ _ hp,hi⟩) (λi ys σ' H' hp hi=>?_) (λi ys σ' H' x H2 hp hy=>?_)
  (λi x ys σ' H' _ hit hp=>hs D i x ys σ' H' hit hp) (hd D)⟩
 ·exact⟨xs,xs[i],hl _ _ _ _ _ hp,by simp[hi]⟩
 ·obtain⟨e,hy⟩:=hy
  exact⟨e,hy xs (hl _ _ _ _ _ hp)⟩
theorem zut(hx:aU K H a xs)(Pv:we->Nat->List V->St->Hp->Prop)(h0:∀D H',H D=none->ah H H'->H' D=some (.lst [])->Pv D 0 [] (dS src σ) H')(hl:∀D i ys σ' H',Pv D i ys σ' H'->aU K H' a xs)
  (hs:∀D i x ys σ' H',xs[i]? = some x->Pv D i ys σ' H'->ig Pv g tt te D i x σ' H') (hd:∀D ys σ' H',Pv D xs.length ys σ' H'->Q (.ref D) H'):ze K g tt te src σ (.ref a) H Q:=by
 refine⟨a,rfl,⟨xs,hx⟩,λD hD=>FH (N:=xs.length) Pv (λi x=>xs[i]? = some x) (h0 D _ hD (ah.upd hD) cX) (λi ys σ' H' hp hi=>⟨xs,hl _ _ _ _ _ hp,hi⟩) (λi ys σ' H' hp hi=>?_) (λi ys σ' H' x H2 hp hy=>?_)
  (λi x ys σ' H' _ hit hp=>hs D i x ys σ' H' hit hp) (hd D)⟩
 ·exact⟨xs,xs[i],hl _ _ _ _ _ hp,by simp[hi]⟩
 ·obtain⟨e,hy⟩:=hy
  exact⟨e,hy xs (hl _ _ _ _ _ hp)⟩
theorem Ra(h0' : -1000000000<=n)(h1:n<1000000000)(Pv:we->Nat->List V->St->Hp->Prop)(h0:∀D H',H D=none->ah H H'->H' D=some (.lst [])->Pv D 0 [] (dS src σ) H')
  (hs:∀D (i:Nat) ys σ' H',i<n.toNat->Pv D i ys σ' H'->ig Pv g tt te D i (.int (i:Int)) σ' H') (hd:∀D ys σ' H',Pv D n.toNat ys σ' H'->Q (.ref D) H'):EZ g tt te src σ [.int n] H Q:=by
 refine⟨n,rfl,by lia,by lia,λD hD=>FH (N:=n.toNat) Pv (λi x=>x=.int (i:Int)) (h0 D _ hD (ah.upd hD) cX) (λi ys σ' H' hp hi=>hi) (λi ys σ' H' hp hi=>hi) (λi ys σ' H' x H2 hp hy=>?_)
  (λi x ys σ' H' hi hit hp=>?_) (hd D)⟩
 ·obtain⟨e,hy⟩:=hy
  exact⟨e,by rw[hy,Int.zero_add]⟩
 ·subst hit
  exact hs D i ys σ' H' hi hp
end
structure y9(u' u:TS):Prop where
 e:u'=u
theorem zBB{t u:TS}{D:cv}{σ : St}{H:Hp}(h:∀u',y9 u' u->t {D with nx:=u' D} σ H):C0 t u D σ H:=h u ⟨rfl⟩
theorem y9.go{u' u:TS}{D:cv}{σ : St}{H:Hp}(e:y9 u' u)(h:u D σ H):u' D σ H:=by rw[e.e];exact h
theorem Fq{P:wI}{w:wJ}{X:Cx} : nj (fc P w) X E0:=λ_ _ _ _ _ _ _ h=>by
 obtain⟨_,_,_,_,_,_,_,_,_,_,_,q⟩:=h;exact q.elim
theorem kT.oW{P:wI}{w:wJ}{K:wb}{mg:Str->Option wg}{base:wG}{x qual:Str}{st:w9}{f:we}{fd:wE}{N ps:List Str}{k:Nat}{sp:Sp}(F:kT K x qual st f fd)(S:aP N ps (aC st))(len:∀vs H Q E,sp vs H Q E->vs.length=ps.length)
  (hbody:∀(cdv:wg)(A:vb)(outer:List Env)(s:wl)(H:Hp)(vs:List V)(Q:VK)(E:XK),d6 k (A.deeper (envOfC qual (aC st) s.heap.objs.size f cdv))->sp vs H Q E ->
   ∃t,fM (iV (fc P w) P w K mg base N qual (aC st) f cdv A outer s H E) (kZ st) t/\t {nx:=λ_ H'=>Q .a_ H',rt:=Q} (start N vs) H):aH P w K mg base (fc P w) (k+1) f fd ps sp:=by
 obtain⟨oc,od,kV,doc,pm,an,cdv,ct,osl,rfl,lk,hcd⟩:=F.ex;exact Oh lk hcd S len λA outer s H vs Q E hr hsp=>hbody cdv A outer s H vs Q E hr hsp
theorem Exc.back{p:we}{H H' H2:Hp}(b:Exc p H' H2)(s:Exc p H H'):Exc p H H2:=s.trans b
theorem LU{X:Cx}{i j v:Int}{k1 k2:Nat}{p1 p2 pos:Pos}(hc:Mh i j)(hv:i^j.toNat=v):PE X (.BinOp (.Constant (.int i) k1 p1) .Pow (.Constant (.int j) k2 p2) pos) (tC (.int v)):=by
 subst hv;exact λpins s σ H Q I h=>(aD zC0 ay ay:PE X _ _) pins s σ H Q I ⟨i,j,rfl,rfl,hc,h⟩
theorem zwp{α : Type}[DecidableEq α]{x : α}{A B:Prop}(h:B):if(!decide (x=x))=true then A else B:=by simpa using h
theorem zxj{α : Type}[DecidableEq α]{x : α}{A B:Prop}(h:A):if decide (x=x)=true then A else B:=by simpa using h
section
variable{K:wb}{σ : St}{H H':Hp}{Q:VK}{QB:Bool->Hp->Prop}{D:cv}{t:TA}{v w:V}{xs ys:List V}{m n:Int}{r:Rat}{p:we}
variable{x y:Rat}
theorem zD7{A B:Prop}(h:B):if(!true)=true then A else B:=by simpa using h
theorem zEx{A B:Prop}(h:A):if(!false)=true then A else B:=by simpa using h
theorem zwy{b:Bool}(q:Q (.bl true) H):eQ K [.bl b,.ty "bool"] H Q:=Oa (kb.mpr rfl) q
theorem zAf{a b:V}(h:H p=some (.lst [a,b]))(h0:0<=m)(h1:m<2)(q:∀z,z=a\/z=b->Q z H):dy K (.ref p) (.int m) H Q :=
 RJ (λz=>z=a\/z=b) (aQ.of h) h0 (by simpa using h1) (by simp) q
theorem zAN{a b:Int}(h:H p=some (.lst [.int a,.int b]))(h0:0<=m)(h1:m<2)(q:∀z,z=a\/z=b->Q (.int z) H):dy K (.ref p) (.int m) H Q :=
 zAf h h0 h1 λz hz=>by rcases hz with rfl | rfl;exact q _ (.inl rfl);exact q _ (.inr rfl)
theorem zrs(h1:x.num=y.num)(h2:(x.den:Int)=y.den):x=y:=by
 have h2':x.den=y.den:=by lia
 exact u6 h1 h2'
theorem rS(x y:Rat):wY (N x) (N y)=decide (x=y):=by
 have e:wY (N x) (N y)=(decide (x.num=y.num)&&decide ((x.den:Int)=y.den)):=by
  simp only[N,wY,Vl,Xq,Qy]
 rw[e,vL,wZ,decide_eq_true_eq,decide_eq_true_eq,decide_eq_true_eq]
 constructor
 ·rintro ⟨h1,h2⟩;exact zrs h1 h2
 ·rintro rfl;exact⟨rfl,rfl⟩
theorem Am(x:Rat):Wb (N x)=true:=by simp[N,Wb,vU,Wu,Vg,WX]
theorem RC(h:Is K H v (N x))(k:Is K H w (N y))(q:Q (.bl (decide (x=y))) H):cO K v w H Q:=nF h k (Am x) (Am y) (by rw[rS];exact q)
theorem zC5(h:Is K H v (N x))(k:Is K H w (N y))(q:Q (.bl (!decide (x=y))) H):gc K v w H Q:=GJ h k (Am x) (Am y) (by rw[rS];exact q)
end
theorem zCQ{X:Cx} : aN X (wT .In) (lz X.K false):=zxp
theorem zxs{X:Cx} : aN X (wT .NotIn) (lz X.K true):=Z1
def R(a b:Rat):wC:=.tuple [N a,N b]
theorem DS(a b:Rat):dh (R a b)=true:=by simp[R,dh,ck,kQ]
structure aS(a b:Rat):Prop where
 a0:0<a
 a4:a<=4
 ad:a.den<=8
 b0:0<=b
 b1:b<=1
 bd:b.den<=12
 ab:1<=a+b
theorem aS.ba{a b:Rat}(h:aS a b):ag 10 a:=ag.small (c:=4) (d:=8) (vT h.a0) h.a4 h.ad (by decide) (by decide)
theorem aS.bb{a b:Rat}(h:aS a b):ag 10 b:=ag.small (c:=1) (d:=12) h.b0 h.b1 h.bd (by decide) (by decide)
section
variable{K:wb}{H:Hp}{Q:VK}{v:V}{a b:Rat}{σ : St}{gs:kq}{QS:St->Hp->Prop}
theorem zA6(h:Is K H v (R a b))(q:∀x,Is K H x (N a)->Q x H):dy K v (.int 0) H Q:=aA (j:=0) h rfl q
theorem zAM(h:Is K H v (R a b))(q:∀x,Is K H x (N b)->Q x H):dy K v (.int 1) H Q:=aA (j:=1) h rfl q
theorem Is.oU{H':Hp}(h:Is K H v (R a b))(s:bG H H'):Is K H' v (R a b):=Is.keep s _ v (DS a b) h
theorem Fc{x y:V}(h1:Is K H x (N a))(h2:Is K H y (N b))(q:∀v H',ah H H'->Is K H' v (R a b)->Q v H'):mr K [x,y] H Q :=
 cB (by show 2<=1000;decide) (.cons h1 (.cons h2 .nil)) q
end
section
variable{K:wb}{H H' H2:Hp}{Q:VK}{v w:V}{a b c d:Rat}{D:we}
theorem zxf(h:Is K H v (R a b))(q:Q (.bl true) H):eQ K [v,.ty "tuple"] H Q:=LZ h q
theorem zAb(h:Is K H v (R a b))(q:Q (.int 2) H):dj K [v] H Q:=ly h q
theorem ah.grow(s:ah H H')(n:H D=none)(e:Exc D H' H2):ah H H2:=λb o h=>e b o (jR h n) (s b o h)
end
theorem zyg{σ : St}{H:Hp}{Q:Bool->Hp->Prop}(q:Q true H):MS σ H Q:=q
theorem MQ{Pv:we->Nat->List V->St->Hp->Prop}{g:TG}{tt:TT}{te:TE}{D:we}{i:Nat}{x:V}{σ':St}{H':Hp}(h:g x σ' H' λσ3 H3=>tt σ3 H3 λok H4=>if ok=true then te σ3 H4 λy H5=>rP Pv D i σ3 y H5 else ∃ys',Pv D (i+1) ys' σ3 H4) :
  ig Pv g tt te D i x σ' H':=h
section
variable{K:wb}{σ : St}{H:Hp}{Q:VK}{E:XK}{D:cv}{t:TA}{C G:wg}{i:Nat}{tb:(St->XK)->TS}{th:we->wg->TS}{sp:Sp}{W:St->XK}{ex C':we}{b:Bool}
theorem zys(h:t σ H λvs H1=>vs.length<=w8/\E C none H1):N2 C E t D σ H:=h
theorem Z5(h:t σ H λvs H1=>sp vs H1 Q (W σ)):yJ sp W t σ H Q:=h
end
variable{p:Pos}{es:List Expr}{env:Env}
theorem sk(s:String):XI (vW s)=true:=by
 rw[Str.ofString_eq_toList,XI];simp only[List.all_toArray,XJ,WO,Function.comp,decide_eq_true_eq];intro c _;have:=c.valid;simp only[Char.toNat];rcases this with h | h
 ·have:c.val.toNat<0xd800:=h
  lia
 ·exact h.2
theorem eC{K:wb}{H:Hp}{c:we}{p q:Int}(r:Rat)(h:aU K H c [.int p,.int q])(e1:r.num=p)(e2:(r.den:Int)=q):Is K H (.ref c) (N r):=by
 subst e1 e2;exact bX.mpr ⟨c,_,rfl,h,eG.mpr ⟨_,_,rfl,bV.mpr rfl,eG.mpr ⟨_,_,rfl,bV.mpr rfl,g_.mpr rfl⟩⟩⟩
theorem Ds(s:String):Wb (.str (vW s))=true:=by
 simp[Wb,vU,Vg,sk]
theorem mw{c:Const}{k:Nat} : w5 ((.Constant c k p)::es) env=(false,eval (.Constant c k p) env)::w5 es env:=rfl
theorem Sd{xs:List Expr}{k:Nat} : w5 ((.Tuple xs k p)::es) env=(false,eval (.Tuple xs k p) env)::w5 es env:=rfl
theorem zue{o:Operator}{x y:Expr} : w5 ((.BinOp x o y p)::es) env=(false,eval (.BinOp x o y p) env)::w5 es env:=rfl
theorem fQ{x:Str} : w5 ((.Name x p)::es) env=(false,eval (.Name x p) env)::w5 es env:=rfl
theorem ff{x y:Expr} : w5 ((.Subscript x y p)::es) env=(false,eval (.Subscript x y p) env)::w5 es env:=rfl
section
variable{K:wb}{H H' H2:Hp}{Q:VK}{R:Prop}{v w y:V}{p l:we}{xs ys zs:List V}{ns:List Int}{m:Int}{σ : St}
end
section
variable{K:wb}{H H' H2:Hp}{Q:VK}{R:Prop}{v w y:V}{p l:we}{xs ys zs:List V}{ns:List Int}{m:Int}{σ : St}{to:TE}{t:TA}{T:String}{r:V->List V->Hp->VK->Prop}
theorem zEO(h:to σ H λx H1=>zb K T x H1/\t σ H1 λxs H2=>r x xs H2 Q):Oo K T r to t σ H Q:=h
theorem lO(h:aQ K H p xs)(q:R):zb K "list" (.ref p) H/\R:=⟨.inl ⟨rfl,xs,h⟩,q⟩
theorem lX(h:H l=some (.lst xs))(z:xs.length<=1000)(q:∀H',Exc l H H'->H' l=some (.lst (xs++[y]))->Q .a_ H'):N4 (.ref l) [y] H Q:=⟨l,xs,y,rfl,rfl,h,jo z,q _ (Exc.upd l H _) cX⟩
end
variable{X:Cx}
def eS(K:wb):List V->Hp->VK->Prop:=λxs H Q=>∃p ys,xs=[.ref p]/\((aQ K H p ys /\ ∀l,H l=none->Q (.ref l) (upd H l (.tup ys)))\/(aU K H p ys/\Q (.ref p) H))
def jZ(K:wb):List V->Hp->VK->Prop:=λxs H Q=>∃p ys,xs=[.ref p]/\(aQ K H p ys\/aU K H p ys) /\ ∀l,H l=none->Q (.ref l) (upd H l (.lst ys))
theorem fZ : aK X (.type "tuple") (eS X.K):=zoz
theorem sf : aK X (.type "list") (jZ X.K):=zql
def sj(K:wb):V->Option Int->Option Int->Hp->VK->Prop:=λx lo hi H Q=>Nr K x lo hi H Q\/RV K x lo hi H Q
theorem j8 : jT X (sj X.K):=zz3.or Zp
section
variable{K:wb}{H H' H2:Hp}{Q:VK}{QO:Option Int->Hp->Prop}{R:Prop}{v w y:V}{p l:we}{xs ys zs:List V}{ds es:List wC}{m:Int}{σ : St}{te:TE}{tl th:TO}{r:V->Option Int->Option Int->Hp->VK->Prop}{lo hi:Option Int}
theorem AU(h:aQ K H p ys)(q:∀l H',H l=none->ah H H'->H' l=some (.tup ys)->Q (.ref l) H'):eS K [.ref p] H Q:=⟨p,ys,rfl,.inl ⟨h,λl hl=>q l _ hl (ah.upd hl) cX⟩⟩
theorem iM(h:Is K H v (.list ds))(q:∀w H',ah H H'->Is K H' w (.tuple ds)->Q w H'):eS K [v] H Q:=by
 obtain⟨a,xs,rfl,hs,t⟩:=cF.mp h;exact AU hs λl H' _ s e=>q _ H' s (bX.mpr ⟨l,xs,rfl,.of e,ak.same s ds xs t⟩)
theorem Lg(h:Is K H v (.tuple ds))(q:Q v H):eS K [v] H Q:=by
 obtain⟨a,xs,rfl,hs,t⟩:=bX.mp h;exact⟨a,xs,rfl,.inr ⟨hs,q⟩⟩
theorem A6(h:Is K H v (.tuple ds))(q:∀l H' ys,H l=none->ah H H'->H' l=some (.lst ys)->ak K H' ys ds->Q (.ref l) H'):jZ K [v] H Q:=by
 obtain⟨a,xs,rfl,hs,t⟩:=bX.mp h;exact⟨a,xs,rfl,.inr hs,λl hl=>q l _ xs hl (ah.upd hl) cX (ak.same (ah.upd hl) ds xs t)⟩
theorem N_(h:Is K H v (.list ds))(q:∀l H' ys,H l=none->ah H H'->H' l=some (.lst ys)->ak K H' ys ds->Q (.ref l) H'):jZ K [v] H Q:=by
 obtain⟨a,xs,rfl,hs,t⟩:=cF.mp h;exact⟨a,xs,rfl,.inl hs,λl hl=>q l _ xs hl (ah.upd hl) cX (ak.same (ah.upd hl) ds xs t)⟩
theorem zxP(h:te σ H λx H1=>tl σ H1 λl H2=>th σ H2 λu H3=>r x l u H3 Q):NN r te tl th σ H Q:=h
theorem zwU(q:QO none H):L4 σ H QO:=q
theorem zBL(h:te σ H λx H1=>∃i,x=.int i/\QO (some i) H1):K9 te σ H QO:=h
theorem zxO{RI:Int->Prop}(q:RI m):∃i,V.int m=V.int i/\RI i:=⟨m,rfl,q⟩
def cutD{α : Type}(xs:List α)(lo hi:Option Int):List α:=(xs.drop (HT.aX xs.length 0 lo)).take (HT.aX xs.length xs.length hi-HT.aX xs.length 0 lo)
theorem ak.take:∀{ds:List wC}{xs:List V}(n:Nat),ak K H xs ds->ak K H (xs.take n) (ds.take n)
 | _,_,0,h=>by simp[ak.nil]
 | [],_,n+1,h=>by rw[g_.mp h];simp[ak.nil]
 | d::ds,_,n+1,h=>by
  obtain⟨x,r,rfl,q,t⟩:=eG.mp h;rw[Xw,Xw];exact .cons q (ak.take n t)
theorem ak.drop:∀{ds:List wC}{xs:List V}(n:Nat),ak K H xs ds->ak K H (xs.drop n) (ds.drop n)
 | _,_,0,h=>by simpa using h
 | [],_,n+1,h=>by rw[g_.mp h];simp[ak.nil]
 | d::ds,_,n+1,h=>by
  obtain⟨x,r,rfl,q,t⟩:=eG.mp h;rw[QL,QL];exact ak.drop n t
theorem ak.cut(h:ak K H xs ds):ak K H (ko xs lo hi) (cutD ds lo hi):=by
 unfold ko cutD;rw[h.length];exact(h.drop _).take _
theorem zCM(h:aQ K H p xs)(q:∀l H',H l=none->ah H H'->H' l=some (.lst (ko xs lo hi))->Q (.ref l) H'):sj K (.ref p) lo hi H Q:=.inl ⟨p,xs,rfl,h,λl hl=>q l _ hl (ah.upd hl) cX⟩
theorem lF(h:Is K H v (.list ds))(q:∀l H' ys,H l=none->ah H H'->H' l=some (.lst ys)->ak K H' ys (cutD ds lo hi)->Q (.ref l) H'):sj K v lo hi H Q:=by
 obtain⟨a,xs,rfl,hs,t⟩:=cF.mp h;exact zCM hs λl H' hl s e=>q l H' _ hl s e (ak.same s _ _ t.cut)
theorem Ng(h:Is K H v (.tuple ds))(hw:¬ (HT.aX ds.length 0 lo=0/\HT.aX ds.length ds.length hi=ds.length))(q:∀w H',ah H H'->Is K H' w (.tuple (cutD ds lo hi))->Q w H'):sj K v lo hi H Q:=by
 obtain⟨a,xs,rfl,hs,t⟩:=bX.mp h;refine .inr ⟨a,xs,rfl,hs,by rw[t.length];exact hw,λl hl=>q _ _ (ah.upd hl) (bX.mpr ⟨l,_,rfl,.of cX,ak.same (ah.upd hl) _ _ t.cut⟩)⟩
theorem Gr{α : Type}(xs:List α):cutD xs none (some (-1))=xs.dropLast:=by
 unfold cutD
 show(xs.drop 0).take (((-1:Int)+(xs.length:Int)).toNat-0)=_
 rw[x6,xZ]
 congr 1
 lia
theorem Gf{α : Type}(xs:List α):cutD xs (some 1) none=xs.tail:=by
 unfold cutD
 show(xs.drop (min 1 xs.length)).take (xs.length-min 1 xs.length)=_
 cases xs with
 | nil=>rfl
 | cons x xs =>
  have e:min 1 (x::xs).length=1:=by rw[vo];lia
  rw[e,QL,x6,vo,qZ,Wr,u4]
end
def TN(xs:List Rat):wC:=.tuple (xs.map N)
def LN(xs:List Rat):wC:=.list (xs.map N)
theorem gD:∀xs:List Rat,ck (xs.map N)=true
 | []=>by simp[ck]
 | x::xs=>by rw[vd,ck,kQ,gD xs];rfl
theorem zE(xs:List Rat):dh (TN xs)=true:=by rw[TN,dh];exact gD xs
theorem zyl(x:Rat):(N x).canLay0=true:=by simp[N,vU,Wu]
theorem zBG(x:Rat):(N x).depth=1:=by simp[N,Vg,WX]
theorem Fy:∀xs:List Rat,Wu (xs.map N)=true
 | []=>by simp[Wu]
 | x::xs=>by rw[vd,Wu,zyl,Fy xs];rfl
theorem SN:∀xs:List Rat,WX (xs.map N)<=1
 | []=>by simp[WX]
 | x::xs=>by
  have:=SN xs;rw[vd,WX,zBG];lia
theorem yV(xs:List Rat):Wb (TN xs)=true:=by
 unfold Wb TN;rw[vU,Fy,Vg,ql];have:=SN xs;exact decide_eq_true (by lia)
theorem NR:∀xs ys:List Rat,Vl (xs.map N) (ys.map N)=decide (xs=ys)
 | [],[]=>by simp[Vl]
 | [],y::ys=>by simp[Vl]
 | x::xs,[]=>by simp[Vl]
 | x::xs,y::ys=>by
  rw[vd,vd,Vl,rS,NR xs ys,vL,wZ,decide_eq_true_eq,decide_eq_true_eq,decide_eq_true_eq,uO]
theorem FD(xs ys:List Rat):wY (TN xs) (TN ys)=decide (xs=ys):=by
 unfold TN;rw[wY,NR]
section
variable{K:wb}{H H' H2:Hp}{Q:VK}{v w y:V}{p l:we}{vs:List V}{xs ys:List Rat}{m:Int}{σ : St}
theorem B0(h:Is K H v (TN xs))(k:Is K H w (TN ys))(q:Q (.bl (decide (xs=ys))) H):cO K v w H Q:=nF h k (yV xs) (yV ys) (by rw[FD];exact q)
theorem zBC(h:Is K H v (TN xs))(k:Is K H w (TN ys))(q:Q (.bl (!decide (xs=ys))) H):gc K v w H Q:=GJ h k (yV xs) (yV ys) (by rw[FD];exact q)
theorem CH{i:Nat}(t:ak K H vs (xs.map N))(h:i<xs.length):∃x,vs[i]? = some x/\Is K H x (N (xs.getD i 0)):=by
 refine t.get ?_;rw[wu,wa,wc h]
 rfl
theorem dD{i:Nat}{x:V}(t:ak K H vs (xs.map N))(h:vs[i]? = some x):i<xs.length/\Is K H x (N (xs.getD i 0)):=by
 have hl:=t.length;rw[wm]at hl
 have hi:i<xs.length:=by
  rcases wA i vs.length with z | z
  ·lia
  ·rw[wL z]at h;cases h
 obtain⟨x',e,hx⟩:=CH t hi;rw[h]at e;cases e;exact⟨hi,hx⟩
theorem zBi(h:Is K H v (TN xs))(h0:0<=m)(h1:m<xs.length)(q:∀x,Is K H x (N (xs.getD m.toNat 0))->Q x H):dy K v (.int m) H Q:=by
 obtain⟨a,vs,rfl,hs,t⟩:=bX.mp h;obtain⟨n,rfl⟩:∃n:Nat,m=(n:Int):=⟨m.toNat,by lia⟩;obtain⟨x,e,hx⟩:=CH (i:=n) t (by lia);exact u_ hs (kP e) (q x hx)
theorem kH(h:Is K H v (LN xs))(h0:0<=m)(h1:m<xs.length)(q:∀x,Is K H x (N (xs.getD m.toNat 0))->Q x H):dy K v (.int m) H Q:=by
 obtain⟨a,vs,rfl,hs,t⟩:=cF.mp h;obtain⟨n,rfl⟩:∃n:Nat,m=(n:Int):=⟨m.toNat,by lia⟩;obtain⟨x,e,hx⟩:=CH (i:=n) t (by lia);exact iQ hs (kP e) (q x hx)
theorem K_(h:Is K H v (TN xs))(q:Q (.int xs.length) H):dj K [v] H Q:=ly h (by rw[wm];exact q)
theorem ZP(h:Is K H v (LN xs))(q:Q (.int xs.length) H):dj K [v] H Q:=by
 obtain⟨a,vs,rfl,hs,t⟩:=cF.mp h;have:=t.length;rw[wm]at this;exact jm hs (by rw[this];exact q)
theorem dF(h:H l=some (.lst vs))(t:ak K H vs (xs.map N)):Is K H (.ref l) (LN xs):=cF.mpr ⟨l,vs,rfl,.of h,t⟩
theorem fY:∀{xs:List Rat}{vs:List V},vs.length=xs.length->(∀i x,vs[i]? = some x->Is K H x (N (xs.getD i 0)))->ak K H vs (xs.map N)
 | [],vs,hl,_=>by
  have:vs=[]:=Vm hl;subst this;exact .nil
 | x::xs,[],hl,_=>by cases hl
 | x::xs,u::vs,hl,h=>by
  rw[vd];exact .cons (h 0 u rfl) (fY (by simpa using hl) λi y e=>h (i+1) y e)
end
section
variable{K:wb}{g:TG}{tt:TT}{te:TE}{src:List (Option Nat)}{σ : St}{H:Hp}{Q:VK}{a:we}{vs:List V}{n:Int}{tl:St}{o0:Option V}
def gL(H:Hp)(tl:St)(Rel:Nat->V->Hp->Prop)(D:we)(i:Nat)(ys:List V)(σ':St)(H':Hp):Prop :=
 (∃o,σ'=o::tl)/\H D=none/\ah H H'/\H' D=some (.lst ys)/\ys.length=i /\ ∀j y,ys[j]? = some y->Rel j y H'
theorem gL.same{Rel:Nat->V->Hp->Prop}{D:we}{i:Nat}{ys:List V}{σ':St}{H':Hp}(h:gL H tl Rel D i ys σ' H'):ah H H':=h.2.2.1
theorem d8{Rel:Nat->V->Hp->Prop}{D:we}{i:Nat}{ys:List V}{σ' σ3:St}{H1 H5:Hp}{y:V}(inv:gL H tl Rel D i ys σ' H1)(hi:i<=1000)(hk:∀i v H1 H2,bG H1 H2->Rel i v H1->Rel i v H2)(hσ : ∃o,σ3=o::tl)(s:ah H1 H5)(r:Rel i y H5):rP (gL H tl Rel) D i σ3 y H5:=by
 obtain⟨_,hn,s1,hD,hl,hr⟩:=inv;have hD5:=s _ _ hD;refine lU hD5 (by lia) λH6 E6 e6=>⟨hσ,hn,(s1.trans s).grow hn E6,e6,by simp[hl],λj z hz=>?_⟩
 have k6:bG H5 H6:=E6.keep hD5;rcases wA j ys.length with hj | hj
 ·rw[vI hj]at hz
  exact hk _ _ _ _ (s.keep.trans k6) (hr j z hz)
 ·have hj':j=ys.length:=by
   rcases wA ys.length j with q | q
   ·rw[wL (by simp;lia)]at hz;cases hz
   ·lia
  subst hj';rw[vi (wo _),Vf]at hz;cases hz;rw[hl];exact hk _ _ _ _ k6 r
theorem jC(hx:aQ K H a vs)(hsrc:dS src σ = o0::tl)(Rel:Nat->V->Hp->Prop)(hs:∀D i x ys o H1,vs[i]? = some x->gL H tl Rel D i ys (o::tl) H1->ig (gL H tl Rel) g tt te D i x (o::tl) H1)
  (hd:∀D ys H',H D=none->ah H H'->H' D=some (.lst ys)->ys.length=vs.length->(∀j y,ys[j]? = some y->Rel j y H')->Q (.ref D) H'):zq K g tt te src σ (.ref a) H Q:=by
 refine yH hx (gL H tl Rel) (λD H' n s e=>⟨⟨o0,hsrc⟩,n,s,e,rfl,λj y z=>by simp at z⟩) (λD i ys σ' H' h=>h.same.seq hx) ?_ λD ys σ' H' ⟨_,n,s,e,hl,r⟩=>hd D ys H' n s e hl r
 rintro D i x ys σ' H' hx' h;obtain⟨⟨o,rfl⟩,_⟩:=id h;exact hs D i x ys o H' hx' h
theorem jz(hx:aU K H a vs)(hsrc:dS src σ = o0::tl)(Rel:Nat->V->Hp->Prop)(hs:∀D i x ys o H1,vs[i]? = some x->gL H tl Rel D i ys (o::tl) H1->ig (gL H tl Rel) g tt te D i x (o::tl) H1)
  (hd:∀D ys H',H D=none->ah H H'->H' D=some (.lst ys)->ys.length=vs.length->(∀j y,ys[j]? = some y->Rel j y H')->Q (.ref D) H'):ze K g tt te src σ (.ref a) H Q:=by
 refine zut hx (gL H tl Rel) (λD H' n s e=>⟨⟨o0,hsrc⟩,n,s,e,rfl,λj y z=>by simp at z⟩) (λD i ys σ' H' h=>h.same.jP hx) ?_ λD ys σ' H' ⟨_,n,s,e,hl,r⟩=>hd D ys H' n s e hl r
 rintro D i x ys σ' H' hx' h;obtain⟨⟨o,rfl⟩,_⟩:=id h;exact hs D i x ys o H' hx' h
theorem Z3(h0:0<=n)(h1:n<1000000000)(hsrc:dS src σ = o0::tl)(Rel:Nat->V->Hp->Prop)(hs:∀D (i:Nat) ys o H1,i<n.toNat->gL H tl Rel D i ys (o::tl) H1->ig (gL H tl Rel) g tt te D i (.int (i:Int)) (o::tl) H1)
  (hd:∀D ys H',H D=none->ah H H'->H' D=some (.lst ys)->ys.length=n.toNat->(∀j y,ys[j]? = some y->Rel j y H')->Q (.ref D) H'):EZ g tt te src σ [.int n] H Q:=by
 refine Ra (by lia) h1 (gL H tl Rel) (λD H' n s e=>⟨⟨o0,hsrc⟩,n,s,e,rfl,λj y z=>by simp at z⟩) ?_ λD ys σ' H' ⟨_,n,s,e,hl,r⟩=>hd D ys H' n s e hl r
 rintro D i ys σ' H' hi h;obtain⟨⟨o,rfl⟩,_⟩:=id h;exact hs D i ys o H' hi h
theorem fL{xs:List Rat} : ∀(i:Nat)(v:V)(H1 H2:Hp),bG H1 H2->Is K H1 v (N (xs.getD i 0))->Is K H2 v (N (xs.getD i 0)):=λi v H1 H2 k h=>h.gb k
end
theorem jJ{H H':Hp}{l:we}(s:ah H H')(h:H' l=none):H l=none:=by
 cases e:H l with
 | none=>rfl
 | some o=>rw[s _ _ e]at h;cases h
def TZ(ns:List Int):wC:=.tuple (ns.map PyData.int)
def LL(rss:List (List Rat)):wC:=.list (rss.map LN)
theorem Nb:∀ns:List Int,ck (ns.map PyData.int)=true
 | []=>by simp[ck]
 | n::ns=>by rw[vd,ck,Nb ns];rfl
theorem zCP(ns:List Int):dh (TZ ns)=true:=by rw[TZ,dh];exact Nb ns
section
variable{K:wb}{H H' H2:Hp}{Q:VK}{v w y:V}{p l:we}{vs:List V}{ns:List Int}{rss:List (List Rat)}{m:Int}{σ : St}
theorem Bi:∀{ns:List Int}{vs:List V},ak K H vs (ns.map PyData.int) ↔ vs=ns.map V.int
 | [],vs=>by rw[xl,g_];rfl
 | n::ns,vs=>by
  rw[vd,eG,vd]
  constructor
  ·rintro ⟨x,r,rfl,h,t⟩
   rw[bV.mp h,Bi.mp t]
  ·rintro rfl
   exact⟨_,_,rfl,bV.mpr rfl,Bi.mpr rfl⟩
theorem p9:Is K H v (TZ ns) ↔ ∃a,v=.ref a/\aU K H a (ns.map V.int):=by
 unfold TZ;rw[bX]
 constructor
 ·rintro ⟨a,xs,e,h,t⟩
  rw[Bi.mp t]at h;exact⟨a,e,h⟩
 ·rintro ⟨a,e,h⟩
  exact⟨a,_,e,h,Bi.mpr rfl⟩
theorem Cu(h:Is K H v (TZ ns))(q:Q (.int ns.length) H):dj K [v] H Q:=ly h (by rw[wm];exact q)
theorem RT{i:Nat}(t:ak K H vs (rss.map LN))(h:i<rss.length):∃x,vs[i]? = some x/\Is K H x (LN (rss.getD i [])):=by
 refine t.get ?_;rw[wu,wa,wc h]
 rfl
theorem NK(h:Is K H v (LL rss))(h0:0<=m)(h1:m<rss.length)(q:∀x,Is K H x (LN (rss.getD m.toNat []))->Q x H):dy K v (.int m) H Q:=by
 obtain⟨a,vs,rfl,hs,t⟩:=cF.mp h;obtain⟨n,rfl⟩:∃n:Nat,m=(n:Int):=⟨m.toNat,by lia⟩;obtain⟨x,e,hx⟩:=RT (i:=n) t (by lia);exact iQ hs (kP e) (q x hx)
theorem CS{α : Type}{xs:List α}{x : α}(h:xs[xs.length-1]? = some x):hZ xs (-1)=some x:=by
 have hl:0<xs.length:=by
  cases xs with
  | nil=>cases h
  | cons _ _=>simp
 unfold hZ iA;rw[if_neg (by lia),if_pos (by lia)]
 show xs[((-1:Int)+(xs.length:Int)).toNat]? = some x
 rw[show((-1:Int)+(xs.length:Int)).toNat=xs.length-1 by lia];exact h
theorem zwJ(h:Is K H v (LL rss))(h0:0<rss.length)(q:∀x,Is K H x (LN (rss.getD (rss.length-1) []))->Q x H):dy K v (.int (-1)) H Q:=by
 obtain⟨a,vs,rfl,hs,t⟩:=cF.mp h;have hl:=t.length;rw[wm]at hl;obtain⟨x,e,hx⟩:=RT (i:=rss.length-1) t (by lia);rw[<- hl]at e;exact iQ hs (CS e) (q x hx)
theorem M_:∀{rss:List (List Rat)}{vs:List V},vs.length=rss.length->(∀i x,vs[i]? = some x->Is K H x (LN (rss.getD i [])))->ak K H vs (rss.map LN)
 | [],vs,hl,_=>by
  have:vs=[]:=Vm hl;subst this;exact .nil
 | x::xs,[],hl,_=>by cases hl
 | x::xs,u::vs,hl,h=>by
  rw[vd];exact .cons (h 0 u rfl) (M_ (by simpa using hl) λi y e=>h (i+1) y e)
end
def o_(K:wb):R2:=λx y H Q=>SG K x y H Q \/ ∃a b ys,x=.ref a/\y=.ref b/\aU K H a []/\aU K H b ys/\Q (.ref b) H
theorem Ge{X:Cx} : aN X (WC .Add) (o_ X.K):=by
 intro pins s σ H x y v u Q I rx ry h;rcases h with h | ⟨a,b,ys,rfl,rfl,ha,hb,q⟩
 ·exact zBJ pins s σ H x y v u Q I rx ry h
 ·cases rx
  cases ry;obtain⟨its,r1,p1,_⟩:=I.tuple ha;cases r1;obtain⟨its2,r2,p2,_⟩:=I.tuple hb;obtain⟨⟨cls,dd,data,sl⟩,ho,hc,n,hd⟩:=id p1;obtain⟨⟨cls2,dd2,data2,sl2⟩,ho2,hc2,n2,hd2⟩:=id p2;simp only at hc hd hc2 hd2;subst hc hd hc2 hd2;exact concat_meets ⟨_,ho,rfl⟩ ⟨_,ho2,rfl⟩ noFill_tuple_add seq_tuple_add Qr Qk (qW _ _) (tuple_addW0 a b _ its2.toArray n n2 dd dd2 sl sl2 rfl) ⟨ho,ho2,⟨.ref b,H,I,rfl,q⟩⟩
theorem Gv{K:wb}{H:Hp}{Q:VK}{v w:V}{ds es:List wC}(h1:Is K H v (.tuple ds))(h2:Is K H w (.tuple es))(z:ds.length+es.length<=1000)(q:∀u H',ah H H'->Is K H' u (.tuple (ds++es))->Q u H'):o_ K v w H Q:=by
 obtain⟨a,xs,rfl,ha,ta⟩:=bX.mp h1;obtain⟨b,ys,rfl,hb,tb⟩:=bX.mp h2;have la:=ta.length;have lb:=tb.length;cases xs with
 | nil =>
  obtain rfl:ds=[]:=Vm (by simpa using la.symm);exact .inr ⟨a,b,ys,rfl,rfl,ha,hb,q _ H (ah.refl _) h2⟩
 | cons x xs =>
  refine .inl ⟨a,b,x::xs,ys,rfl,rfl,ha,hb,by simp,Ve (jo (by lia)),λhy=>?_,λhy p hp=>?_⟩
  ·obtain rfl:es=[]:=Vm (by rw[hy]at lb;simpa using lb.symm)
   exact q _ H (ah.refl _) (by rw[Wh];exact h1)
  ·exact q _ _ (ah.upd hp) (bX.mpr ⟨p,_,rfl,.of cX,(ak.same (ah.upd hp) _ _ ta).append (ak.same (ah.upd hp) _ _ tb)⟩)
theorem Inv.sE{X:Cx}{pins:List (we × Obj)}{σ : St}{H:Hp}{s:wl}{h':wG}{t':Nat}{ch:List we}(I:Inv X pins σ H s)(k:∀b o,b ∉ ch->s.heap.get? b=some o->h'.get? b=some o)(hf:∀b∈ch,eT X pins H b):Inv X pins σ H {s with heap:=h',toks:=t'}:=by
 have nit:∀b u,H b=some u->b ∉ ch:=λb u e z=>by rw[(hf b z).1]at e;cases e
 refine I.step (g':=s.gens) (d':=s.drawn) (ch:=ch) (λb hb=>⟨(hf b hb).2.2.2.1,(hf b hb).2.1,(hf b hb).2.2.2.2.1,(hf b hb).2.2.2.2.2⟩) (λb o _ _ hc e _=>k b o hc e)
  (λb o _ _ hc e _=>⟨o.slots,k b o hc e⟩) (λ_ _ _ _ n=>n) (λb o hc e=>⟨o,k b o hc e⟩) (λ_ _ e=>e) (λ_ _ _ e=>e) (λb ps e=>⟨#[],by rw[e];simp⟩) (λm hm=>?_) (λb u e=>?_) I.bare
 ·obtain⟨o,es,ep,ho,r⟩:=hm
  exact⟨o,es,ep,k _ o (λz=>(hf _ z).2.1 rfl) ho,r⟩
 ·refine(I.aI b u e).kE (λc v hc q=>k c v ?_ q) (λ_ q=>q) λ_ _ q=>q
  rcases hc with z | z
  ·rw[z];exact nit b u e
  ·exact nit c _ z
section
variable{prog:wI}{w:wJ}{A:vb}{E:wg->wl->Prop}{s:wl}
theorem zs9{it tu:we}{i:Nat}{its:Array wg}{x:wg}{Q:wg->wl->Prop}(ei:s.heap.IsTupleIter it tu i)(et:s.heap.IsTuple tu its)(ex:its[i]? = some x)
  (fin:∀h',h'.IsTupleIter it tu (i+1)->vv it s.heap h'->Q x {s with heap:=h'}):wx (model prog w) A (vJ (.ref it)) Q E s:=by
 obtain⟨ob,eo,ec,ed⟩:=id ei;obtain⟨ot,eot,_,nt,edt⟩:=et;unfold vJ;refine wf (wpAny_callSpecial?_slot (name:=vW "__next__") ei.typeIs VJ (Wd VJ ei.typeIs Q1 ?_ (QQ _)))
 show wx _ _ (field (.ref it) 0 >>= _) _ _ s;refine wf (vD eo ed (x:=.ref tu) rfl ?_)
 show wx _ _ (if(Value.ref tu == Value.none)=true then _ else _) _ _ s;rw[if_neg (show ¬ ((Value.ref tu == Value.none)=true)from vF)]
 show wx _ _ (field (.ref it) 1 >>= _) _ _ s;refine wf (vD eo ed (x:=.int i 0) rfl ?_)
 show wx _ _ (seqItems? (.ref tu) >>= _) _ _ s;refine wf (Wg eot edt ?_)
 simp only[wP,ex];refine wf (wpAny_setField eo ed (by simp) (wp ⟨x,rfl,wp (fin _ ?_ (qL ..))⟩));exact⟨_,VB _ eo (qD (qp ed _)),(X6 ..).trans ec,by rw[qp ed];simp[VS]⟩
theorem Mk{it tu:we}{i:Nat}{its:Array wg}{Q:wg->wl->Prop}(hh:A.handled=none)(ei:s.heap.IsTupleIter it tu i)(et:s.heap.IsTuple tu its)(ex:its[i]? = none)
  (fin:∀h' e,Heap.ExtBut it s.heap h'->(∃o,h'.get? e=some o/\o.cls=.type "StopIteration")->E (.ref e) {s with heap:=h'}):wx (model prog w) A (vJ (.ref it)) Q E s:=by
 obtain⟨ob,eo,ec,ed⟩:=id ei;obtain⟨ot,eot,_,nt,edt⟩:=et;unfold vJ;refine wf (wpAny_callSpecial?_slot (name:=vW "__next__") ei.typeIs VJ (Wd VJ ei.typeIs Q1 ?_ (QQ _)))
 show wx _ _ (field (.ref it) 0 >>= _) _ _ s;refine wf (vD eo ed (x:=.ref tu) rfl ?_)
 show wx _ _ (if(Value.ref tu == Value.none)=true then _ else _) _ _ s;rw[if_neg (show ¬ ((Value.ref tu == Value.none)=true)from vF)]
 show wx _ _ (field (.ref it) 1 >>= _) _ _ s;refine wf (vD eo ed (x:=.int i 0) rfl ?_)
 show wx _ _ (seqItems? (.ref tu) >>= _) _ _ s;refine wf (Wg eot edt ?_)
 simp only[wP,ex];refine wf (wpAny_rule (wf (wpAny_setField eo ed (by simp) ?_)))
 show wx _ _ (newExc (.type "StopIteration") [] >>= _) _ _ _;refine wf ?_;simp only[newExc,newTuple]
 refine wf (WH ?_ (by size_fits));refine wf (m:=firstArgMember _ _) (wpAny_of_eq (a:=Value.none) (by first | rfl | (simp only[firstArgMember];rfl)) ?_);refine WH ?_ (by size_fits);simp only[raiseNew];refine wf (wpAny_handled ?_)
 first | rw[hh] | rw[show A.in1.handled=none from hh]
 exact wf (wp (wpAny_throw (fin _ _ (((qL ..).extBut.push _).push _) ⟨_,wN _ rfl,rfl⟩)))
theorem jH(hh:A.handled=none)(it tu:we)(hne:tu≠it)(its:Array wg):Draws prog w A it [it,tu] its.size (λi v=>its[i]? = some v) (λi h=>h.IsTupleIter it tu i/\h.IsTuple tu its) where
 live:=λ_ _ st=>let ⟨o,ho,_⟩:=st.1;⟨o,ho⟩
 frame:=λ_ _ _ st hk=>⟨st.1.at λo e=>hk it (by simp) o e,st.2.at λo e=>hk tu (by simp) o e⟩
 item:=λi s Q E hi st hQ=>zs9 st.1 st.2 (x:=its[i]) (by simp[hi]) λh' hit' hs'=>hQ _ h' s.toks (by simp[hi]) ⟨hit',st.2.extBut hs'.extBut hne⟩ hs'
 done:=λs Q E st hE=>Mk hh st.1 st.2 (by simp) hE
open AutoSeq1 (wpAny_loadPart') in
theorem zse(tu:we)(its:Array wg)(n:Nat)(dct:Option we)(sl:Array (Option wg)):Meets (Builtin.«enumerate.__new__» ⟨[.type "enumerate",.ref tu],[]⟩) (λ_ R s=>s.heap.get? tu=some {cls:=.type "tuple",dict:=dct,data:=.seq its n,slots:=sl} /\
  R (.ok (.ret (.ref (s.heap.push {cls:=.type "tuple_iterator",data:=.fields #[.ref tu,.int 0 0]}).objs.size))) {s with heap:=(s.heap.push {cls:=.type "tuple_iterator",data:=.fields #[.ref tu,.int 0 0]}).push {cls:=.type "enumerate",data:=.fields #[.none,.bool false,.ref s.heap.objs.size,VS 0,.none,.none]}}) :=
 .of_wp λprog w A R s h=>by
  obtain⟨hp,g,d,tk,os⟩:=s;obtain⟨et,h⟩:=h;have hsub:=sub_enumerate;have hT:XM (uf ⟨hp,g,d,tk,os⟩) tu its:=⟨_,et,rfl,n,rfl⟩
  wp_walk using wpAny_loadPart' et
  refine wpAny_stack_any λst=>wp ?_
  split
  ·rename_i c _ _ _ _ _
   cases (c == Value.type "enumerate")<;>(wp_walk using wpAny_loadPart' et,Vc hT;exact⟨_,rfl,h⟩)
  ·wp_walk using wpAny_loadPart' et,Vc hT
   exact⟨_,rfl,h⟩
theorem ztW{tu:we}{its:Array wg}{Q:wg->wl->Prop}(hT:s.heap.IsTuple tu its)(fin:∀h',IsEnum h' (s.heap.objs.size+1) s.heap.objs.size 0 .none->h'.IsTupleIter s.heap.objs.size tu 0->(∀b o,s.heap.get? b=some o->h'.get? b=some o)->Q (.ref (s.heap.objs.size+1)) {s with heap:=h'}) :
  wx (model prog w) A (call (.type "enumerate") [.ref tu]) Q E s:=by
 obtain⟨⟨c,dct,dt,sl⟩,et,hc,n,hd⟩:=hT;obtain rfl:c=.type "tuple":=hc;obtain rfl:dt=.seq its n:=hd;refine callType_new F.called_enumerate (by decide) (F.typeCall_enumerate_1 _) (F.newCall_enumerate_1 _) (λobj=>F.args_object_init_2 obj _) F.entry_enumerate_new (zse tu its n dct sl) ⟨et,?_⟩;have hz:(s.heap.push {cls:=.type "tuple_iterator",data:=.fields #[.ref tu,.int 0 0]}).objs.size=s.heap.objs.size+1:=V1 ..
 show _/\_
 rw[hz]
 have he:IsEnum ((s.heap.push {cls:=.type "tuple_iterator",data:=.fields #[.ref tu,.int 0 0]}).push {cls:=.type "enumerate",data:=.fields #[.none,.bool false,.ref s.heap.objs.size,VS 0,.none,.none]}) (s.heap.objs.size+1) s.heap.objs.size 0 .none:=by
  rw[<- hz];exact wN _ rfl
 exact⟨⟨_,he,rfl⟩,fin _ he ⟨_,wn _ (wN _ rfl),rfl,rfl⟩ λb o x=>wn _ (wn _ x)⟩
end
def mV(K:wb)(a:we):It :=
 ⟨λi H=>∃xs x,aU K H a xs/\xs[i]? = some x,λi H y H'=>∃t x,y=.ref t/\H t=none/\(∀xs,aU K H a xs->xs[i]? = some x)/\H'=upd H t (.tup [.int (i:Int),x]),λi H=>∃xs,aU K H a xs/\xs.length<=i⟩
theorem ztP{P:wI}{w:wJ}{K:wb}{elts:List Expr}{k1}{tpos:Pos}(a e it:we)(hne:e≠it):jA P w K (.Tuple elts k1 tpos) (mV K a) [e,it] e (λi h=>(∃old,IsEnum h e it (i:Int) old)/\h.IsTupleIter it a i) where
 mem:=by simp
 obj:=λi h st b hb=>by
  obtain⟨⟨old,he⟩,o,eo,c,d⟩:=st;rcases wF.mp hb with rfl | hb
  ·exact⟨_,he,λv z=>by cases (show Data.fields _=Data.cell v from z)⟩
  ·rw[w6.mp hb]
   exact⟨o,eo,λv z=>by rw[d]at z;cases z⟩
 keep:=λi h h' st k=>⟨let ⟨old,he⟩:=st.1;⟨old,k e (by simp) _ he⟩,st.2.at λo eo=>k it (by simp) o eo⟩
 item:=by
  intro X hP hw hK hc i pins s σ H E I hf st hg;subst hP hw hK;obtain⟨⟨old,he⟩,st⟩:=st;obtain⟨xs,x,hq,hx⟩:=hg;obtain⟨its,rv,p,hz⟩:=I.tuple hq;obtain⟨u,hu,ru⟩:=rv.get hx;have p':s.heap.IsTuple a its.toArray:=p
  have hai:a≠it:=λz=>by
   subst z;obtain⟨o,e1,c1,_⟩:=st;obtain⟨o',e2,c2,_⟩:=p';rw[e1]at e2;cases e2;rw[c1]at c2;exact absurd c2 (by decide)
  have hae:e≠a:=λz=>by
   subst z;obtain⟨o',e2,c2,_⟩:=p';rw[he]at e2;cases e2;exact absurd (show Value.type "enumerate"=Value.type "tuple" from c2) (by decide)
  have hlt:i<its.toArray.size:=by
   rcases wA i its.length with z | z
   ·simpa using z
   ·rw[wL z]at hu;cases hu
  refine wpAny_pyNext_enum_itemD (jH (A:=X.A.in1) (I.ok.hd hc) it a hai its.toArray) he ⟨st,p'⟩ hlt hne (by simp[hne,hae]) λv h1 tk hv ho hs1 hT hsz hk=>?_
  have hvu:v=u:=by
   have hv':its[i]? = some v:=by simpa using hv
   rw[hu]at hv';exact(wM hv').symm
  subst hvu
  have I1:Inv X pins σ (upd H s.heap.objs.size (.tup [.int (i:Int),x])) {s with heap:=s.heap.push {cls:=.type "tuple",data:=.seq ([.int (i:Int) tk,v]:List wg).toArray},toks:=tk+1} :=
   I.laid (λb o q=>wn _ q) (wo _) (show dQ X.prog X.w _ _ _ (.tup [.int (i:Int),x])from⟨oq (by simp),_,.cons ⟨_,rfl⟩ (.cons ru .nil),Qx _ _⟩)
  have lt1:∀b∈[e,it],b<s.heap.objs.size:=λb hb=>by
   rcases wF.mp hb with rfl | hb
   ·exact wD he
   ·rw[w6.mp hb]
    obtain⟨o,eo,_⟩:=st;exact wD eo
  have hf1:∀b∈[e,it],eT X pins (upd H s.heap.objs.size (.tup [.int (i:Int),x])) b:=λb hb=>⟨by rw[eI (wQ (lt1 b hb))];exact(hf b hb).1,(hf b hb).2⟩
  refine⟨_,rfl,wpAny_letOwnedTupleGo_enum ho λh2 he2 hs2=>?_⟩;refine⟨.ref s.heap.objs.size,_,Inv.sE (s:={s with heap:=s.heap.push {cls:=.type "tuple",data:=.seq ([.int (i:Int) tk,v]:List wg).toArray},toks:=tk+1}) (ch:=[e,it]) I1 (λb o hb q=>?_) hf1,rfl,⟨_,x,rfl,I.aI.fresh (wo _),λys hy=>by rw[I.Bz hy hq];exact hx,rfl⟩,⟨⟨_,by simpa using he2⟩,hs1.1.at λo eo=>(hs2.2 it (WE hne)).trans eo⟩,λb hb=>(hf1 b hb).1⟩;have hbe:b≠e:=λz=>hb (by simp[z])
  have hbi:b≠it:=λz=>hb (by simp[z])
  refine(hs2.2 b hbe).trans ?_
  by_cases hb2:b=s.heap.objs.size
  ·subst hb2
   rw[wN _ rfl]at q;cases q;exact hT
  ·exact hk b o hbe hbi (by rw[Q9 _ _ _ hb2]at q;exact q)
 done:=by
  intro X hP hw hK hc i pins s σ H E I hf st hg;subst hP hw hK;obtain⟨⟨old,he⟩,st⟩:=st;obtain⟨xs,hq,hx⟩:=hg;obtain⟨its,rv,p,hz⟩:=I.tuple hq;have p':s.heap.IsTuple a its.toArray:=p
  have hai:a≠it:=λz=>by
   subst z;obtain⟨o,e1,c1,_⟩:=st;obtain⟨o',e2,c2,_⟩:=p';rw[e1]at e2;cases e2;rw[c1]at c2;exact absurd c2 (by decide)
  have hl:=rv.length;have hT:s.TypeIs (.ref e) "enumerate":=⟨_,he,rfl⟩;unfold VR;refine wf (VL (wpAny_callSpecial?_slot (name:=vW "__next__") hT qE (Wd qE hT xS ?_ (xw _))))
  show wx _ _ (field (.ref e) 2 >>= _) _ _ _;refine wf (vD he rfl (x:=.ref it) rfl ?_)
  refine wf (Mk (A:=X.A.in1) (I.ok.hd hc) st p' (by simp;lia) λh' y he' hx'=>?_);obtain⟨o,ho,hcl⟩:=hx';refine wf (Vr (T:="StopIteration") (b:=true) ⟨o,ho,hcl⟩ isSubtype_stop (wp ⟨rfl,?_⟩));obtain⟨f0,f1,f2,f3,f4,f5⟩:=hf it (by simp);exact I.turned (t':=s.toks) (λb o hb e=>he' b o hb e) f0 f1 f3 f4 f5
 self:=λ_ _ _ _ _ st h=>let ⟨_,he⟩:=st.1;wpAny_pyIter_enum he h
def Ga(K:wb)(ta:TA):TI:=λσ H R=>ta σ H λvs H1=>∃a,vs=[.ref a]/\(∃xs,aU K H1 a xs)/\R (mV K a) H1
theorem Pr:vN "enumerate"=some (.type "enumerate"):=by decide +kernel
theorem T1{X:Cx}{elts:List Expr}{k1}{tpos p pos:Pos}{l:Expr}{ta:TA}(hg:Gl X "enumerate")(hm:X.mg "enumerate"=none)(ha:PA X [l] ta)(hs:w5 [l] X.env=[(false,eval l X.env)]:=by rfl) :
  PI X (.Tuple elts k1 tpos) (.Call (.Name "enumerate" p) [l] [] pos) (Ga X.K ta):=by
 intro pins s σ H R I h;refine Call_ (gW I hg hm Pr (vB (aJ (ha pos pins s σ H _ I h) λus s1 ⟨vs,H1,I1,r1,q1⟩=>?_) hs rfl));obtain⟨a,rfl,⟨xs,hq⟩,q⟩:=q1;obtain⟨u,rfl,ru⟩:=gY r1;cases ru;obtain⟨its,rv,p,hz⟩:=I1.tuple hq;refine ztW (show s1.heap.IsTuple a its.toArray from p) λh' he hit kp=>?_
 refine wpAny_pyIter_enum he ?_;refine⟨s1.heap.objs.size+1,[s1.heap.objs.size+1,s1.heap.objs.size],_,_,H1,rfl,I1.kept (t':=s1.toks) kp,ztP a (s1.heap.objs.size+1) s1.heap.objs.size (uz _),⟨⟨_,he⟩,hit⟩,λb hb=>?_,q⟩
 have hb':s1.heap.objs.size<=b:=by
  rcases wF.mp hb with rfl | hb
  ·lia
  ·rw[w6.mp hb];exact wo _
 exact I1.jN hb' (I1.aI.fresh hb')
def Np(K:wb)(g:TG)(tb:TS)(D:cv)(σ : St)(vs:List V)(H1:Hp):Prop:=∃a,vs=[.ref a]/\(∃xs,aU K H1 a xs) /\
 ∃W:Nat->Nat->St->Hp->Prop,(∃m,W 0 m σ H1) /\ ∀i m σ H,W i m σ H ->
  ((mV K a).stop i H/\D.nx σ H)\/((mV K a).go i H /\ ∃M:St->Hp->Prop,(∀σ' H',M σ' H'->∃m',m'<m/\W (i+1) m' σ' H') /\ ∀x H',(mV K a).fF i H x H'->g x σ H' λσ2 H2=>tb {D with nx:=M,ct:=M,bk:=D.nx} σ2 H2)
section
variable{K:wb}{ta:TA}{g:TG}{tb:TS}{D:cv}{σ : St}{H:Hp}{a:we}{xs:List V}
theorem zz9(h:ta σ H λvs H1=>Np K g tb D σ vs H1):lW (Ga K ta) g tb D σ H:=h
theorem zw6(hx:aU K H a xs)(Pv:Nat->St->Hp->Prop)(h0:Pv 0 σ H)(hl:∀i σ H,i<=xs.length->Pv i σ H->aU K H a xs)
  (hs:∀i x σ H t H',xs[i]? = some x->Pv i σ H->H t=none->ah H H'->H' t=some (.tup [.int (i:Int),x])->g (.ref t) σ H' λσ2 H2=>tb {D with nx:=Pv (i+1),ct:=Pv (i+1),bk:=D.nx} σ2 H2) (hd:∀σ H,Pv xs.length σ H->D.nx σ H):Np K g tb D σ [.ref a] H:=by
 refine⟨a,rfl,⟨xs,hx⟩,λi m σ H=>i+m=xs.length/\Pv i σ H,⟨xs.length,by lia,h0⟩,?_⟩;rintro i m σ H ⟨him,hp⟩;have hq:=hl i σ H (by lia) hp
 by_cases hm:m=0
 ·have e:i=xs.length:=by lia
  subst e;exact .inl ⟨⟨xs,hq,wo _⟩,hd _ _ hp⟩
 ·have hi:i<xs.length:=by lia
  refine .inr ⟨⟨xs,xs[i],hq,by simp[hi]⟩,λσ' H'=>Pv (i+1) σ' H',λσ' H' h=>⟨m-1,by lia,by lia,h⟩,?_⟩;rintro y H' ⟨t,x,rfl,hn,hx',rfl⟩;exact hs i x σ H t _ (hx' xs hq) hp hn (ah.upd hn) cX
end
structure ZA(z TI TO i1 i2:we)(f1 f2:List we):Prop where
 a1:TI≠z
 a2:TO≠z
 a3:i1≠z
 a4:i2≠z
 a5:TI≠TO
 a6:TI≠i1
 a7:TI≠i2
 a8:TO≠i1
 a9:TO≠i2
 b0:i1≠i2
 b1:z ∉ f1
 b2:z ∉ f2
 b3:TO ∉ f1
 b4:TO ∉ f2
 b5:i1 ∉ f2
 b6:i2 ∉ f1
section
variable{prog:wI}{w:wJ}{A:vb}{E:wg->wl->Prop}{s:wl}{z TI TO i1 i2:we}{f1 f2:List we}{n1 n2 k:Nat}{P1 P2:Nat->wg->Prop}{S1 S2:Nat->wG->Prop}{a b:wg}
theorem Kx{Q:wg->wl->Prop}(D1:Draws prog w A i1 f1 n1 P1 S1)(D2:Draws prog w A i2 f2 n2 P2 S2)(ap:ZA z TI TO i1 i2 f1 f2)(hz:IsZip s.heap z TI TO .none)(hi:Wz s.heap TI (.ref i1) (.ref i2))(ho:Wz s.heap TO a b)
  (h1:S1 k s.heap) (h2:S2 k s.heap) (l1:k<n1) (l2:k<n2)
  (fin:∀x y h' tk,P1 k x->P2 k y->IsZip h' z TI TO (VS s.heap.objs.size)->Wz h' TO x y->S1 (k+1) h'->S2 (k+1) h'->Wz h' s.heap.objs.size x y ->
   (∀c o,c≠z->c≠TO->c≠i1->c≠i2->s.heap.get? c=some o->h'.get? c=some o)->Q (.ref s.heap.objs.size) {s with heap:=h',toks:=tk}) :
  wx (model prog w) A (Builtin.«zip.__next__» ⟨[.ref z],[]⟩) (λr s'=>∃v,r=.done (.ret v)/\Q v s') E s:=by
 show wx _ _ (field (.ref z) 2 >>= _) _ _ _;refine wf (vD hz rfl (x:=.bool false) rfl ?_)
 show wx _ _ (field (.ref z) 3 >>= _) _ _ _;refine wf (vD hz rfl (x:=.ref TI) rfl ?_)
 refine wf (Wg hi rfl ?_);show wx _ _ (vG (.ref z) >>= _) _ _ _
 refine wf ?_;unfold vG;refine wf (vD hz rfl (x:=.none) rfl (wp ?_));simp only[if_true];refine wf (wpAny_rule ?_);refine wf (vD hz rfl (x:=.ref TO) rfl ?_);refine wf (Vd hz (by simp) λg1 zz1 sb1=>?_);have zz1:IsZip g1 z TI TO .ellipsis:=zz1;refine wf ?_;simp only[uA,uP,qR,QR];refine wf (wf (wpAny_onRaise ?_));show wx _ _ (vJ (.ref i1) >>= _) _ _ _
 have h1a:S1 k g1:=D1.frame _ _ _ h1 λc hc o e=>sb1.extBut c o (λq=>ap.b1 (q ▸ hc)) e
 have h2a:S2 k g1:=D2.frame _ _ _ h2 λc hc o e=>sb1.extBut c o (λq=>ap.b2 (q ▸ hc)) e
 refine wf (D1.item k _ _ _ l1 h1a λx g2 t2 px h1b sb2=>wp ?_);have ho2:Wz g2 TO a b:=sb2.extBut _ _ ap.a8 (sb1.extBut _ _ ap.a2 ho);have h2b:S2 k g2:=D2.frame _ _ _ h2a λc hc o e=>sb2.extBut c o (λq=>ap.b5 (q ▸ hc)) e
 refine wf (Wg ho2 rfl ?_);refine wf (wpAny_updateSeq_pair ho2 λg3 ho3 sb3=>?_);have ho3:Wz g3 TO x b:=ho3;have sb3:vv TO g2 g3:=sb3;have h1c:S1 (k+1) g3:=D1.frame _ _ _ h1b λc hc o e=>sb3.extBut c o (λq=>ap.b3 (q ▸ hc)) e
 have h2c:S2 k g3:=D2.frame _ _ _ h2b λc hc o e=>sb3.extBut c o (λq=>ap.b4 (q ▸ hc)) e
 refine wf (wpAny_letGo (wp ?_));refine wf (wf (wpAny_onRaise ?_))
 show wx _ _ (vJ (.ref i2) >>= _) _ _ _;refine wf (D2.item k _ _ _ l2 h2c λy g4 t4 py h2d sb4=>wp ?_)
 have sb4:vv i2 g3 g4:=sb4;have ho4:Wz g4 TO x b:=sb4.extBut _ _ ap.a9 ho3;have h1d:S1 (k+1) g4:=D1.frame _ _ _ h1c λc hc o e=>sb4.extBut c o (λq=>ap.b6 (q ▸ hc)) e
 refine wf (Wg ho4 rfl ?_);refine wf (wpAny_updateSeq_pair ho4 λg5 ho5 sb5=>?_);have ho5:Wz g5 TO x y:=ho5;have sb5:vv TO g4 g5:=sb5;have h1e:S1 (k+1) g5:=D1.frame _ _ _ h1d λc hc o e=>sb5.extBut c o (λq=>ap.b3 (q ▸ hc)) e
 have h2e:S2 (k+1) g5:=D2.frame _ _ _ h2d λc hc o e=>sb5.extBut c o (λq=>ap.b4 (q ▸ hc)) e
 refine wf (wpAny_letGo (wp (wp ?_)));refine wf (Wg ho5 rfl ?_);refine wf (wpAny_newTuple ?_);have sb2:vv i1 g1 g2:=sb2;have sb1:vv z s.heap g1:=sb1;have hsz:g5.objs.size=s.heap.objs.size:=by rw[sb5.1,sb4.1,sb3.1,sb2.1,sb1.1]
 have zz5:IsZip g5 z TI TO .ellipsis:=sb5.extBut _ _ ap.a2.symm (sb4.extBut _ _ ap.a4.symm (sb3.extBut _ _ ap.a2.symm (sb2.extBut _ _ ap.a3.symm zz1)));have kept:∀c o,c≠z->c≠TO->c≠i1->c≠i2->s.heap.get? c=some o->g5.get? c=some o:=λc o c1 c2 c3 c4 e=>sb5.extBut _ _ c2 (sb4.extBut _ _ c4 (sb3.extBut _ _ c2 (sb2.extBut _ _ c3 (sb1.extBut _ _ c1 e))))
 have zlt:z<g5.objs.size:=wD zz5
 show wx _ _ (Qc (.ref z) (.ref g5.objs.size) >>= _) _ _ _;refine wf ?_;unfold Qc
 have zz6:IsZip (g5.push {cls:=.type "tuple",data:=.seq #[x,y]}) z TI TO .ellipsis:=wn _ zz5;refine wf (Vd zz6 (by simp) λg7 zz7 sb7=>?_);have zz7:IsZip g7 z TI TO (VS g5.objs.size):=zz7;refine Vd zz7 (by simp) λg8 zz8 sb8=>?_
 have zz8:IsZip g8 z TI TO (VS g5.objs.size):=zz8;have sb7:vv z (g5.push {cls:=.type "tuple",data:=.seq #[x,y]}) g7:=sb7;have sb8:vv z g7 g8:=sb8;have up:∀c o,c≠z->g5.get? c=some o->g8.get? c=some o:=λc o c1 e=>sb8.extBut _ _ c1 (sb7.extBut _ _ c1 (wn _ e))
 have new8:Wz g8 g5.objs.size x y:=sb8.extBut _ _ (vn zlt) (sb7.extBut _ _ (vn zlt) (wN _ rfl));rw[hsz]at zz8 new8;refine wp ⟨_,rfl,?_⟩
 show Q (.ref g5.objs.size) _
 rw[hsz];exact fin x y g8 _ px py zz8 (up _ _ ap.a2 ho5) (D1.frame _ _ _ h1e λc hc o e=>up c o (λq=>ap.b1 (q ▸ hc)) e) (D2.frame _ _ _ h2e λc hc o e=>up c o (λq=>ap.b2 (q ▸ hc)) e) new8 λc o c1 c2 c3 c4 e=>up c o c1 (kept c o c1 c2 c3 c4 e)
theorem KH{Q:Fin->wl->Prop}(D1:Draws prog w A i1 f1 n1 P1 S1)(D2:Draws prog w A i2 f2 n2 P2 S2)(ap:ZA z TI TO i1 i2 f1 f2)(hz:IsZip s.heap z TI TO .none)(hi:Wz s.heap TI (.ref i1) (.ref i2))(ho:Wz s.heap TO a b)
  (h1:S1 k s.heap) (h2:S2 k s.heap) (hk:k=n1\/(k<n1/\k=n2))
  (fin:∀h' e tk,(∀c o,c≠z->c≠TO->c≠i1->c≠i2->s.heap.get? c=some o->h'.get? c=some o)->(∃o,h'.get? e=some o/\o.cls=.type "StopIteration")->E (.ref e) {s with heap:=h',toks:=tk}) :
  wx (model prog w) A (Builtin.«zip.__next__» ⟨[.ref z],[]⟩) Q E s:=by
 show wx _ _ (field (.ref z) 2 >>= _) _ _ _;refine wf (vD hz rfl (x:=.bool false) rfl ?_)
 show wx _ _ (field (.ref z) 3 >>= _) _ _ _;refine wf (vD hz rfl (x:=.ref TI) rfl ?_)
 refine wf (Wg hi rfl ?_);show wx _ _ (vG (.ref z) >>= _) _ _ _
 refine wf ?_;unfold vG;refine wf (vD hz rfl (x:=.none) rfl (wp ?_));simp only[if_true];refine wf (wpAny_rule ?_);refine wf (vD hz rfl (x:=.ref TO) rfl ?_);refine wf (Vd hz (by simp) λg1 zz1 sb1=>?_);have zz1:IsZip g1 z TI TO .ellipsis:=zz1;have sb1:vv z s.heap g1:=sb1;refine wf ?_;simp only[uA,uP,qR,QR];refine wf (wf (wpAny_onRaise ?_));show wx _ _ (vJ (.ref i1) >>= _) _ _ _
 have h1a:S1 k g1:=D1.frame _ _ _ h1 λc hc o e=>sb1.extBut c o (λq=>ap.b1 (q ▸ hc)) e
 have h2a:S2 k g1:=D2.frame _ _ _ h2 λc hc o e=>sb1.extBut c o (λq=>ap.b2 (q ▸ hc)) e
 rcases hk with rfl | ⟨l1,rfl⟩
 ·refine wf (D1.done _ _ _ h1a λg2 e sb2 he=>?_)
  obtain⟨oe,hoe,hce⟩:=he;have zz2:IsZip g2 z TI TO .ellipsis:=sb2 _ _ ap.a3.symm zz1;have hez:e≠z:=λq=>by subst q;rw[zz2]at hoe;cases hoe;simp at hce
  exact Vd zz2 (by simp) λg3 _ sb3=>fin g3 e _ (λc o c1 _ c3 _ q=>sb3.extBut _ _ c1 (sb2 _ _ c3 (sb1.extBut _ _ c1 q))) ⟨oe,sb3.extBut _ _ hez hoe,hce⟩
 ·refine wf (D1.item k _ _ _ l1 h1a λx g2 t2 px h1b sb2=>wp ?_)
  have sb2:vv i1 g1 g2:=sb2;have ho2:Wz g2 TO a b:=sb2.extBut _ _ ap.a8 (sb1.extBut _ _ ap.a2 ho);have h2b:S2 k g2:=D2.frame _ _ _ h2a λc hc o e=>sb2.extBut c o (λq=>ap.b5 (q ▸ hc)) e
  refine wf (Wg ho2 rfl ?_);refine wf (wpAny_updateSeq_pair ho2 λg3 ho3 sb3=>?_);have sb3:vv TO g2 g3:=sb3;have h2c:S2 k g3:=D2.frame _ _ _ h2b λc hc o e=>sb3.extBut c o (λq=>ap.b4 (q ▸ hc)) e
  refine wf (wpAny_letGo (wp ?_));refine wf (wf (wpAny_onRaise ?_))
  show wx _ _ (vJ (.ref i2) >>= _) _ _ _;refine wf (D2.done _ _ _ h2c λg4 e sb4 he=>?_)
  obtain⟨oe,hoe,hce⟩:=he;have zz4:IsZip g4 z TI TO .ellipsis:=sb4 _ _ ap.a4.symm (sb3.extBut _ _ ap.a2.symm (sb2.extBut _ _ ap.a3.symm zz1));have hez:e≠z:=λq=>by subst q;rw[zz4]at hoe;cases hoe;simp at hce
  exact Vd zz4 (by simp) λg5 _ sb5=>fin g5 e _ (λc o c1 c2 c3 c4 q=>sb5.extBut _ _ c1 (sb4 _ _ c4 (sb3.extBut _ _ c2 (sb2.extBut _ _ c3 (sb1.extBut _ _ c1 q))))) ⟨oe,sb5.extBut _ _ hez hoe,hce⟩
end
variable{t:Bool}{a:we}
def df(t:Bool)(K:wb)(H:Hp)(a:we)(xs:List V):Prop:=match t with
 | true=>aU K H a xs
 | false=>aQ K H a xs
def jr(t:Bool)(h:wG)(it a:we)(i:Nat):Prop:=match t with
 | true=>h.IsTupleIter it a i
 | false=>h.IsListIter it a i
def Nf(t:Bool)(h:wG)(a:we)(its:Array wg):Prop:=match t with
 | true=>h.IsTuple a its
 | false=>h.IsList a its
theorem oR{prog:wI}{w:wJ}{A:vb}(t:Bool)(hh:A.handled=none)(it a:we)(hne:a≠it)(its:Array wg):Draws prog w A it [it,a] its.size (λi v=>its[i]? = some v) (λi h=>jr t h it a i/\Nf t h a its):=by
 cases t
 ·exact Draws.list hh it a hne its
 ·exact jH hh it a hne its
theorem Inv.je{X:Cx}{pins:List (we × Obj)}{σ : L2.St}{H:Hp}{s:wl}{xs:List V}(I:Inv X pins σ H s)(h:df t X.K H a xs):∃its:List wg,aT xs its/\Nf t s.heap a its.toArray:=by
 cases t
 ·obtain⟨its,r,p,_⟩:=I.list h
  exact⟨its,r,p.isList⟩
 ·obtain⟨its,r,p,_⟩:=I.tuple h
  exact⟨its,r,p⟩
theorem Inv.JV{X:Cx}{pins:List (we × Obj)}{σ : L2.St}{H:Hp}{s:wl}{xs ys:List V}(I:Inv X pins σ H s)(h:df t X.K H a xs)(k:df t X.K H a ys):xs=ys:=by
 cases t
 ·exact I.BF h k
 ·exact I.Bz h k
theorem jr.obj{h:wG}{it:we}{i:Nat}(st:jr t h it a i):∃o,h.get? it=some o /\ ∀v,o.data≠.cell v:=by
 cases t
 ·obtain⟨o,e,_,d⟩:=st
  exact⟨o,e,λv z=>by rw[d]at z;cases z⟩
 ·obtain⟨o,e,_,d⟩:=st
  exact⟨o,e,λv z=>by rw[d]at z;cases z⟩
theorem jr.at{h h':wG}{it:we}{i:Nat}(st:jr t h it a i)(k:∀o,h.get? it=some o->h'.get? it=some o):jr t h' it a i:=by
 cases t
 ·exact Heap.IsListIter.at st k
 ·exact Heap.IsTupleIter.at st k
def lH(t u:Bool)(K:wb)(a b:we):It :=
 ⟨λi H=>∃xs x ys y,df t K H a xs/\xs[i]? = some x/\df u K H b ys/\ys[i]? = some y,
  λi H v H'=>∃(c:we)(x y:V),v=.ref c/\H c=none/\(∀xs,df t K H a xs->xs[i]? = some x)/\(∀ys,df u K H b ys->ys[i]? = some y)/\H'=upd H c (.tup [x,y]),
  λi H=>∃xs ys,df t K H a xs/\df u K H b ys/\(xs.length=i\/(i<xs.length/\ys.length=i))⟩
theorem zzC{P:wI}{w:wJ}{K:wb}{elts:List Expr}{k1}{tpos:Pos}{u:Bool}(a b z TI TO i1 i2:we)(ap:ZA z TI TO i1 i2 [i1,a] [i2,b])(na:a≠i1)(nb:b≠i2) :
  jA P w K (.Tuple elts k1 tpos) (lH t u K a b) [z,TI,TO,i1,i2] z (λi h=>IsZip h z TI TO .none/\Wz h TI (.ref i1) (.ref i2)/\(∃p q,Wz h TO p q)/\jr t h i1 a i/\jr u h i2 b i) where
 mem:=by simp
 obj:=λi h st c hc=>by
  obtain⟨hz,hi,⟨p,q,ho⟩,s1,s2⟩:=st;simp only[wF,WA,or_false]at hc;rcases hc with rfl | rfl | rfl | rfl | rfl
  ·exact⟨_,hz,λv z=>by cases (show Data.fields _=Data.cell v from z)⟩
  ·exact⟨_,hi,λv z=>by cases (show Data.seq _ _=Data.cell v from z)⟩
  ·exact⟨_,ho,λv z=>by cases (show Data.seq _ _=Data.cell v from z)⟩
  ·exact s1.obj
  ·exact s2.obj
 keep:=λi h h' st k=>by
  obtain⟨hz,hi,⟨p,q,ho⟩,s1,s2⟩:=st;exact⟨k z (by simp) _ hz,k TI (by simp) _ hi,⟨p,q,k TO (by simp) _ ho⟩,s1.at λo e=>k i1 (by simp) o e,s2.at λo e=>k i2 (by simp) o e⟩
 item:=by
  intro X hP hw hK hc i pins s σ H E I hf st hg;subst hP hw hK;obtain⟨hz,hi,⟨p,q,ho⟩,s1,s2⟩:=st;obtain⟨xs,x,ys,y,hq1,hx,hq2,hy⟩:=hg;obtain⟨its,r1,p1⟩:=I.je hq1;obtain⟨jts,r2,p2⟩:=I.je hq2;obtain⟨ux,hux,rux⟩:=r1.get hx;obtain⟨uy,huy,ruy⟩:=r2.get hy
  have lt1:i<its.toArray.size:=by
   rcases wA i its.length with q | q
   ·simpa using q
   ·rw[wL q]at hux;cases hux
  have lt2:i<jts.toArray.size:=by
   rcases wA i jts.length with q | q
   ·simpa using q
   ·rw[wL q]at huy;cases huy
  have hT:s.TypeIs (.ref z) "zip":=⟨_,hz,rfl⟩;unfold VR
  refine wf (VL (wpAny_callSpecial?_slot (name:=vW "__next__") hT Wp (Wd Wp hT qa
   (Kx (oR (A:=X.A.in1) t (I.ok.hd hc) i1 a na its.toArray) (oR (A:=X.A.in1) u (I.ok.hd hc) i2 b nb jts.toArray) ap hz hi ho ⟨s1,p1⟩ ⟨s2,p2⟩ lt1 lt2 λv1 v2 h1 tk e1 e2 hz1 ho1 st1 st2 hT1 hk=>wp ?_) (VP _))))
  have ev1:v1=ux:=by
   have e1':its[i]? = some v1:=by simpa using e1
   rw[hux]at e1';exact(wM e1').symm
  have ev2:v2=uy:=by
   have e2':jts[i]? = some v2:=by simpa using e2
   rw[huy]at e2';exact(wM e2').symm
  subst ev1 ev2
  have I1:Inv X pins σ (upd H s.heap.objs.size (.tup [x,y])) {s with heap:=s.heap.push {cls:=.type "tuple",data:=.seq ([v1,v2]:List wg).toArray},toks:=tk} :=
   I.laid (λc o q=>wn _ q) (wo _) (show dQ X.prog X.w _ _ _ (.tup [x,y])from⟨oq (by simp),_,.cons rux (.cons ruy .nil),Qx _ _⟩)
  have ltf:∀c∈[z,TI,TO,i1,i2],c<s.heap.objs.size:=λc hc=>by
   simp only[wF,WA,or_false]at hc;rcases hc with rfl | rfl | rfl | rfl | rfl
   ·exact wD hz
   ·exact wD hi
   ·exact wD ho
   ·obtain⟨o,e,_⟩:=s1.obj;exact wD e
   ·obtain⟨o,e,_⟩:=s2.obj;exact wD e
  have hf1:∀c∈[z,TI,TO,i1,i2],eT X pins (upd H s.heap.objs.size (.tup [x,y])) c:=λc hc=>⟨by rw[eI (wQ (ltf c hc))];exact(hf c hc).1,(hf c hc).2⟩
  refine⟨_,rfl,wpAny_letOwnedTupleGo_zip hz1 λh2 hz2 hs2=>?_⟩;have hs2:vv z h1 h2:=hs2
  refine⟨.ref s.heap.objs.size,_,Inv.sE (s:={s with heap:=s.heap.push {cls:=.type "tuple",data:=.seq ([v1,v2]:List wg).toArray},toks:=tk}) (ch:=[z,TI,TO,i1,i2]) I1 (λc o hc q=>?_) hf1,rfl,
   ⟨_,x,y,rfl,I.aI.fresh (wo _),λzs hzs=>by rw[I.JV hzs hq1];exact hx,λzs hzs=>by rw[I.JV hzs hq2];exact hy,rfl⟩,
   ⟨hz2,hs2.extBut _ _ ap.a1 (hk _ _ ap.a1 ap.a5 ap.a6 ap.a7 hi),⟨_,_,hs2.extBut _ _ ap.a2 ho1⟩,st1.1.at λo e=>hs2.extBut _ _ ap.a3 e,st2.1.at λo e=>hs2.extBut _ _ ap.a4 e⟩,λc hc=>(hf1 c hc).1⟩
  have c1:c≠z:=λq=>hc (by simp[q])
  have c2:c≠TO:=λq=>hc (by simp[q])
  have c3:c≠i1:=λq=>hc (by simp[q])
  have c4:c≠i2:=λq=>hc (by simp[q])
  refine hs2.extBut _ _ c1 ?_
  by_cases hcs:c=s.heap.objs.size
  ·subst hcs
   rw[wN _ rfl]at q;cases q;exact hT1
  ·exact hk c o c1 c2 c3 c4 (by rw[Q9 _ _ _ hcs]at q;exact q)
 done:=by
  intro X hP hw hK hc i pins s σ H E I hf st hg;subst hP hw hK;obtain⟨hz,hi,⟨p,q,ho⟩,s1,s2⟩:=st;obtain⟨xs,ys,hq1,hq2,hend⟩:=hg;obtain⟨its,r1,p1⟩:=I.je hq1;obtain⟨jts,r2,p2⟩:=I.je hq2;have e1:=r1.length;have e2:=r2.length;have hT:s.TypeIs (.ref z) "zip":=⟨_,hz,rfl⟩;unfold VR
  refine wf (VL (wpAny_callSpecial?_slot (name:=vW "__next__") hT Wp (Wd Wp hT qa
   (KH (k:=i) (oR (A:=X.A.in1) t (I.ok.hd hc) i1 a na its.toArray) (oR (A:=X.A.in1) u (I.ok.hd hc) i2 b nb jts.toArray) ap hz hi ho ⟨s1,p1⟩ ⟨s2,p2⟩ (by simp only[wO];lia) λh' y tk hk hx'=>?_) (VP _))))
  obtain⟨o,ho',hcl⟩:=hx';refine wf (Vr (T:="StopIteration") (b:=true) ⟨o,ho',hcl⟩ isSubtype_stop (wp ⟨rfl,?_⟩));exact Inv.sE (ch:=[z,TI,TO,i1,i2]) I (λc o hc e=>hk c o (λq=>hc (by simp[q])) (λq=>hc (by simp[q])) (λq=>hc (by simp[q])) (λq=>hc (by simp[q])) e) hf
 self:=λ_ _ _ _ _ st h=>wpAny_pyIter_zip st.1 h
abbrev A1(h:wG)(a:we):wG:=h.push {cls:=.type "tuple_iterator",data:=.fields #[.ref a,.int 0 0]}
abbrev A5(h:wG)(a b:we):wG:=(A1 h a).push {cls:=.type "tuple_iterator",data:=.fields #[.ref b,.int 0 0]}
abbrev sU(h:wG)(a b:we):wG:=(A5 h a b).push {cls:=.type "tuple",data:=.seq #[.ref h.objs.size,.ref (A1 h a).objs.size]}
abbrev zQ(h:wG)(a b:we):wG:=(sU h a b).push {cls:=.type "tuple",data:=.seq #[.none,.none]}
abbrev n_(h:wG)(a b:we):wG:=(zQ h a b).push {cls:=.type "zip",data:=.fields #[.none,.bool false,.bool false,.ref (A5 h a b).objs.size,.ref (sU h a b).objs.size]}
theorem ztR(a b:we)(xs ys:Array wg):Meets (Builtin.«zip.__new__» ⟨[.type "zip",.ref a,.ref b],[]⟩) (λ_ R s=>s.heap.IsTuple a xs/\s.heap.IsTuple b ys/\R (.ok (.ret (.ref (zQ s.heap a b).objs.size))) {s with heap:=n_ s.heap a b}) :=
 .of_wp λprog w A R s h=>by
  obtain⟨hp,g,d,tk,os⟩:=s;obtain⟨ha,hb,h⟩:=h;have hsub:=sub_zip;have hA:XM (uf ⟨hp,g,d,tk,os⟩) a xs:=ha;have hB:XM (uf ⟨hp.push {cls:=.type "tuple_iterator",data:=.fields #[.ref a,.int 0 0]},g,d,tk,os⟩) b ys:=hb.at λo e=>wn _ e
  wp_walk using Vc hA,Vc hB
  exact⟨_,rfl,h⟩
section
variable{prog:wI}{w:wJ}{A:vb}{E:wg->wl->Prop}{s:wl}
theorem Nm{a b:we}{xs ys:Array wg}{Q:wg->wl->Prop}(ha:s.heap.IsTuple a xs)(hb:s.heap.IsTuple b ys)
  (fin:∀h',IsZip h' (s.heap.objs.size+4) (s.heap.objs.size+2) (s.heap.objs.size+3) .none->Wz h' (s.heap.objs.size+2) (.ref s.heap.objs.size) (.ref (s.heap.objs.size+1))->Wz h' (s.heap.objs.size+3) .none .none ->
   h'.IsTupleIter s.heap.objs.size a 0->h'.IsTupleIter (s.heap.objs.size+1) b 0->(∀c o,s.heap.get? c=some o->h'.get? c=some o)->Q (.ref (s.heap.objs.size+4)) {s with heap:=h'}):wx (model prog w) A (call (.type "zip") [.ref a,.ref b]) Q E s:=by
 refine callType_new F.called_zip (by decide) (F.typeCall_zip_2 _ _) (F.newCall_zip_2 _ _) (λobj=>F.args_object_init_3 obj _ _) F.entry_zip_new (ztR a b xs ys) ⟨ha,hb,?_⟩;have z1:(A1 s.heap a).objs.size=s.heap.objs.size+1:=V1 ..;have z2:(A5 s.heap a b).objs.size=s.heap.objs.size+2:=by rw[V1,z1]
 have z3:(sU s.heap a b).objs.size=s.heap.objs.size+3:=by rw[V1,z2]
 have z4:(zQ s.heap a b).objs.size=s.heap.objs.size+4:=by rw[V1,z3]
 have g5:(n_ s.heap a b).get? (zQ s.heap a b).objs.size=some _:=wN _ rfl;have g4:(n_ s.heap a b).get? (sU s.heap a b).objs.size=some _:=wn _ (wN _ rfl);have g3:(n_ s.heap a b).get? (A5 s.heap a b).objs.size=some _:=wn _ (wn _ (wN _ rfl));have g2:(n_ s.heap a b).get? (A1 s.heap a).objs.size=some _:=wn _ (wn _ (wn _ (wN _ rfl)));have g1:(n_ s.heap a b).get? s.heap.objs.size=some _:=wn _ (wn _ (wn _ (wn _ (wN _ rfl))))
 show _/\_
 rw[z2,z3,z4]at g5;rw[z1,z2]at g3;rw[z3]at g4;rw[z1]at g2;rw[z4];exact⟨⟨_,g5,rfl⟩,fin _ g5 g3 g4 ⟨_,g1,rfl,rfl⟩ ⟨_,g2,rfl,rfl⟩ λc o x=>wn _ (wn _ (wn _ (wn _ (wn _ x))))⟩
end
variable{a:we}{X:Cx}{elts:List Expr}{tpos:Pos}
def AW(t u:Bool)(K:wb)(ta:TA):TI:=λσ H R=>ta σ H λvs H1=>∃a b,vs=[.ref a,.ref b]/\(∃xs,df t K H1 a xs)/\(∃ys,df u K H1 b ys)/\R (lH t u K a b) H1
theorem Df :vN "zip"=some (.type "zip"):=by decide +kernel
theorem nz{x b:we}(h:x≠a)(k:x≠b):x ∉ [a,b]:=by simp[h,k]
theorem Yh{n a b:Nat}(la:a<n)(lb:b<n):ZA (n+4) (n+2) (n+3) n (n+1) [n,a] [n+1,b] where
 a1:=wQ (by lia)
 a2:=wQ (by lia)
 a3:=wQ (by lia)
 a4:=wQ (by lia)
 a5:=wQ (by lia)
 a6:=vn (by lia)
 a7:=vn (by lia)
 a8:=vn (by lia)
 a9:=vn (by lia)
 b0:=wQ (by lia)
 b1:=nz (vn (by lia)) (vn (by lia))
 b2:=nz (vn (by lia)) (vn (by lia))
 b3:=nz (vn (by lia)) (vn (by lia))
 b4:=nz (vn (by lia)) (vn (by lia))
 b5:=nz (wQ (by lia)) (vn (by lia))
 b6:=nz (vn (by lia)) (vn (by lia))
theorem U8{k1}{pins:List (we × Obj)}{σ : L2.St}{H:Hp}{s:wl}{R:It->Hp->Prop}{h':wG}{E:wg->wl->Prop}{t u:Bool}{b:we}(I:Inv X pins σ H s)(la:a<s.heap.objs.size)(lb:b<s.heap.objs.size)
  (hz:IsZip h' (s.heap.objs.size+4) (s.heap.objs.size+2) (s.heap.objs.size+3) .none) (hi:Wz h' (s.heap.objs.size+2) (.ref s.heap.objs.size) (.ref (s.heap.objs.size+1))) (ho:Wz h' (s.heap.objs.size+3) .none .none)
  (s1:jr t h' s.heap.objs.size a 0) (s2:jr u h' (s.heap.objs.size+1) b 0) (kp:∀c o,s.heap.get? c=some o->h'.get? c=some o) (q:R (lH t u X.K a b) H):wx (model X.prog X.w) X.A (pyIter (.ref (s.heap.objs.size+4))) (Dc X pins σ (.Tuple elts k1 tpos) R) E {s with heap:=h'}:=by
 refine wpAny_pyIter_zip hz ?_;refine⟨s.heap.objs.size+4,[s.heap.objs.size+4,s.heap.objs.size+2,s.heap.objs.size+3,s.heap.objs.size,s.heap.objs.size+1],_,_,H,rfl,I.kept (t':=s.toks) kp,zzC a b _ (s.heap.objs.size+2) (s.heap.objs.size+3) s.heap.objs.size (s.heap.objs.size+1) (Yh la lb) (wQ la) (wQ (VO lb)),⟨hz,hi,⟨_,_,ho⟩,s1,s2⟩,λc hc=>?_,q⟩
 ·have hb':s.heap.objs.size<=c:=by
   simp only[wF,WA,or_false]at hc;rcases hc with rfl | rfl | rfl | rfl | rfl
   ·exact WP _ 4
   ·exact WP _ 2
   ·exact WP _ 3
   ·exact wo _
   ·exact WP _ 1
  exact I.jN hb' (I.aI.fresh hb')
theorem zBn{k1}{p pos:Pos}{l m:Expr}{ta:TA}(hg:Gl X "zip")(hm:X.mg "zip"=none)(ha:PA X [l,m] ta)(hs:w5 [l,m] X.env=[(false,eval l X.env),(false,eval m X.env)]:=by rfl)(hs2:w5 [m] X.env=[(false,eval m X.env)]:=by rfl) :
  PI X (.Tuple elts k1 tpos) (.Call (.Name "zip" p) [l,m] [] pos) (AW true true X.K ta):=by
 intro pins s σ H R I h;refine Call_ (gW I hg hm Df (vB (aJ (ha pos pins s σ H _ I h) λus s1 ⟨vs,H1,I1,r1,q1⟩=>?_) (by rw[hs,hs2]) (by rw[hs2];rfl)));obtain⟨a,b,rfl,⟨xs,hq1⟩,⟨ys,hq2⟩,q⟩:=q1;obtain⟨u,v,rfl,ru,rv⟩:=mF r1;cases ru;cases rv;obtain⟨its,_,p1⟩:=I1.je hq1;obtain⟨jts,_,p2⟩:=I1.je hq2;have la:a<s1.heap.objs.size:=by obtain⟨o,e,_⟩:=(show s1.heap.IsTuple a its.toArray from p1);exact wD e
 have lb:b<s1.heap.objs.size:=by obtain⟨o,e,_⟩:=(show s1.heap.IsTuple b jts.toArray from p2);exact wD e
 exact Nm p1 p2 λh' hz hi ho t1 t2 kp=>U8 (t:=true) (u:=true) I1 la lb hz hi ho t1 t2 kp q
theorem SI{k1}{p pos:Pos}{l m:Expr}{ta:TA}(hg:Gl X "zip")(hm:X.mg "zip"=none)(ha:PA X [l,m] ta)(hs:w5 [l,m] X.env=[(false,eval l X.env),(false,eval m X.env)]:=by rfl)(hs2:w5 [m] X.env=[(false,eval m X.env)]:=by rfl) :
  PI X (.Tuple elts k1 tpos) (.Call (.Name "zip" p) [l,m] [] pos) (AW false false X.K ta):=by
 intro pins s σ H R I h;refine Call_ (gW I hg hm Df (vB (aJ (ha pos pins s σ H _ I h) λus s1 ⟨vs,H1,I1,r1,q1⟩=>?_) (by rw[hs,hs2]) (by rw[hs2];rfl)));obtain⟨a,b,rfl,⟨xs,hq1⟩,⟨ys,hq2⟩,q⟩:=q1;obtain⟨u,v,rfl,ru,rv⟩:=mF r1;cases ru;cases rv;obtain⟨its,_,p1⟩:=I1.je hq1;obtain⟨jts,_,p2⟩:=I1.je hq2;have la:a<s1.heap.objs.size:=by obtain⟨o,e,_⟩:=(show s1.heap.IsList a its.toArray from p1);exact wD e
 have lb:b<s1.heap.objs.size:=by obtain⟨o,e,_⟩:=(show s1.heap.IsList b jts.toArray from p2);exact wD e
 exact call_zip_2 p1 p2 λh' hz hi ho t1 t2 _ kp=>U8 (t:=false) (u:=false) I1 la lb hz hi ho t1 t2 kp q
theorem df.same{t:Bool}{K:wb}{H H':Hp}{xs:List V}(s:ah H H')(h:df t K H a xs):df t K H' a xs:=by
 cases t
 ·exact s.seq h
 ·exact s.jP h
def UH(t u:Bool)(K:wb)(g:TG)(tb:TS)(D:cv)(σ : L2.St)(vs:List V)(H1:Hp):Prop:=∃a b,vs=[.ref a,.ref b]/\(∃xs,df t K H1 a xs)/\(∃ys,df u K H1 b ys) /\
 ∃W:Nat->Nat->L2.St->Hp->Prop,(∃m,W 0 m σ H1) /\ ∀i m σ H,W i m σ H ->
  ((lH t u K a b).stop i H/\D.nx σ H)\/((lH t u K a b).go i H /\ ∃M:L2.St->Hp->Prop,(∀σ' H',M σ' H'->∃m',m'<m/\W (i+1) m' σ' H') /\ ∀x H',(lH t u K a b).fF i H x H'->g x σ H' λσ2 H2=>tb {D with nx:=M,ct:=M,bk:=D.nx} σ2 H2)
def Eg(t u:Bool)(K:wb)(g:TG)(tt:TT)(te:TE)(src:List (Option Nat))(σ : L2.St)(vs:List V)(H1:Hp)(Q:VK):Prop:=∃a b,vs=[.ref a,.ref b]/\(∃xs,df t K H1 a xs)/\(∃ys,df u K H1 b ys) /\
 ∀D,H1 D=none->jU g tt te (lH t u K a b) D (dS src σ) (upd H1 D (.lst [])) (λH'=>Q (.ref D) H')
section
variable{t u:Bool}{K:wb}{ta:TA}{g:TG}{tb:TS}{tt:TT}{te:TE}{D:cv}{σ : L2.St}{H:Hp}{Q:VK}{a b:we}{xs ys:List V}{src:List (Option Nat)}{o0 o0':Option V}{tl:L2.St}
theorem zAt(h:ta σ H λvs H1=>UH t u K g tb D σ vs H1):lW (AW t u K ta) g tb D σ H:=h
theorem ZH(h:ta σ H λvs H1=>Eg t u K g tt te src σ vs H1 Q):jX src (AW t u K ta) g tt te σ H Q:=h
def gF(H:Hp)(tl:L2.St)(Rel:Nat->V->Hp->Prop)(D:we)(i:Nat)(zs:List V)(σ':L2.St)(H':Hp):Prop :=
 (∃o1 o2,σ'=o1::o2::tl)/\H D=none/\ah H H'/\H' D=some (.lst zs)/\zs.length=i /\ ∀j y,zs[j]? = some y->Rel j y H'
theorem yd{Rel:Nat->V->Hp->Prop}{D:we}{i:Nat}{zs:List V}{σ' σ3:L2.St}{H1 H5:Hp}{y:V}(inv:gF H tl Rel D i zs σ' H1)(hi:i<=1000)(hk:∀i v H1 H2,bG H1 H2->Rel i v H1->Rel i v H2)(hσ : ∃o1 o2,σ3=o1::o2::tl)(s:ah H1 H5)(r:Rel i y H5):rP (gF H tl Rel) D i σ3 y H5:=by
 obtain⟨_,hn,s1,hD,hl,hr⟩:=inv;have hD5:=s _ _ hD;refine lU hD5 (by lia) λH6 E6 e6=>⟨hσ,hn,(s1.trans s).grow hn E6,e6,by simp[hl],λj z hz=>?_⟩
 have k6:bG H5 H6:=E6.keep hD5;rcases wA j zs.length with hj | hj
 ·rw[vI hj]at hz
  exact hk _ _ _ _ (s.keep.trans k6) (hr j z hz)
 ·have hj':j=zs.length:=by
   rcases wA zs.length j with q | q
   ·rw[wL (by simp;lia)]at hz;cases hz
   ·lia
  subst hj';rw[vi (wo _),Vf]at hz;cases hz;rw[hl];exact hk _ _ _ _ k6 r
theorem zBg(hx:df t K H a xs)(hy:df u K H b ys)(hxy:xs.length=ys.length)(hsrc:dS src σ = o0::o0'::tl)(Rel:Nat->V->Hp->Prop)(hk:∀i v H1 H2,bG H1 H2->Rel i v H1->Rel i v H2)
  (hs:∀D i x y zs o1 o2 H1 c,xs[i]? = some x->ys[i]? = some y->gF H tl Rel D i zs (o1::o2::tl) H1->H1 c=some (.tup [x,y])->ig (gF H tl Rel) g tt te D i (.ref c) (o1::o2::tl) H1)
  (hd:∀D zs H',H D=none->ah H H'->H' D=some (.lst zs)->zs.length=xs.length->(∀j y,zs[j]? = some y->Rel j y H')->Q (.ref D) H'):Eg t u K g tt te src σ [.ref a,.ref b] H Q:=by
 refine⟨a,b,rfl,⟨xs,hx⟩,⟨ys,hy⟩,λD hD=>⟨λi m σ' H'=>i+m=xs.length /\ ∃zs,gF H tl Rel D i zs σ' H',⟨xs.length,by lia,[],⟨o0,o0',hsrc⟩,hD,ah.upd hD,cX,rfl,λj y z=>by simp at z⟩,?_⟩⟩;rintro i m σ' H' ⟨him,zs,inv⟩;have hq1:=df.same inv.2.2.1 hx;have hq2:=df.same inv.2.2.1 hy
 by_cases hm:m=0
 ·have e:i=xs.length:=by lia
  subst e;obtain⟨_,n,s,e,hl,r⟩:=inv;exact .inl ⟨⟨xs,ys,hq1,hq2,.inl rfl⟩,hd D zs H' n s e hl r⟩
 ·have hi:i<xs.length:=by lia
  have hj:i<ys.length:=by lia
  refine .inr ⟨⟨xs,xs[i],ys,ys[i],hq1,by simp[hi],hq2,by simp[hj]⟩,λσ2 H2=>∃zs,gF H tl Rel D (i+1) zs σ2 H2,λσ2 H2 h=>⟨m-1,by lia,by lia,h⟩,?_⟩;rintro v H2 ⟨c,x,y,rfl,hn,hx',hy',rfl⟩;obtain⟨⟨o1,o2,rfl⟩,n,s,e,hl,r⟩:=inv;have su:=ah.upd (o:=.tup [x,y]) hn;exact hs D i x y zs o1 o2 _ c (hx' xs hq1) (hy' ys hq2) ⟨⟨o1,o2,rfl⟩,n,s.trans su,su _ _ e,hl,λj y hy=>hk _ _ _ _ su.keep (r j y hy)⟩ cX
end
def E_(K:wb):List V->Hp->VK->Prop:=λxs H Q=>∃(p:we)(ns:List Int),xs=[.ref p]/\aU K H p (ns.map V.int)/\Q (.int ns.sum) H
theorem U_:vN "sum"=some (.builtin "sum"):=by decide +kernel
open PyProof.V PySem.Calls in
theorem zw1{X:Cx}(hc:X.calm=true):aK X (.builtin "sum") (E_ X.K):=by
 intro pins s σ H xs us Q I r h;obtain⟨p,ns,rfl,hq,q⟩:=h;obtain⟨u,rfl,rx⟩:=gY r;cases rx;obtain⟨its,r',pl,hz⟩:=I.tuple hq;have hI:=sZ r';have hT:s.heap.IsTuple p its.toArray:=pl;obtain⟨zs,hx⟩:=hI.allInts.items;have hn:numsOf its.toArray.toList=ns:=by rw[show its.toArray.toList=its from rfl,hI.numsOf]
 rw[hx]at hT hn;rw[nums_intItems]at hn;refine PySem.W.ktm_sumG (I.ok.hd hc) hT λh' tk t' hk=>?_
 rw[preSum_eq,WF (by simp),hn];exact⟨.int ns.sum,H,I.kept (t':=tk) hk,⟨_,rfl⟩,q⟩
theorem zzD{K:wb}{H:Hp}{Q:VK}{v:V}{ns:List Int}(h:Is K H v (TZ ns))(q:Q (.int ns.sum) H):E_ K [v] H Q:=by
 obtain⟨a,rfl,hs⟩:=p9.mp h;exact⟨a,ns,rfl,hs,q⟩
theorem zDh{α : Type}(xs:List α)(k:Nat):cutD xs none (some (k:Int))=xs.take k:=by
 unfold cutD;rw[HT.JO,HT.J1,x6,Nat.sub_zero];rcases Nat.le_total k xs.length with h | h
 ·rw[xE h]
 ·rw[Nat.min_eq_right h,Wr,WF h]
theorem zy7{α : Type}(xs:List α)(k:Nat)(h:k<=xs.length):cutD xs (some (k:Int)) none=xs.drop k:=by
 unfold cutD;rw[HT.JO,HT.J1,xE h];exact WF (by rw[vR];lia)
def kK(K:wb):List V->Hp->VK->Prop:=λxs H Q=>∃(p:we)(bs:List Bool),xs=[.ref p]/\aQ K H p (bs.map V.bl)/\Q (.bl (bs.all id)) H
theorem oE:vN "all"=some (.builtin "all"):=by decide +kernel
theorem Ol{bs:List Bool} : ∀{us:List wg},aT (bs.map V.bl) us->us=bs.map Value.bool:=by
 induction bs with
 | nil=>intro us r;rw[xl]at r;cases r;rfl
 | cons b bs ih =>
  intro us r;rw[vd]at r;cases r with
  | cons r1 r2 =>
   cases r1;rw[vd,ih r2]
theorem zuV(bs:List Bool):((wt bs.length).all λi=>(bs[i]?).getD true)=bs.all id:=by
 rw[vL,WO,WO]
 constructor
 ·intro h b hb
  obtain⟨i,hi,rfl⟩:=wX hb;have:=h i (wH.mpr hi);rw[wc hi]at this;exact this
 ·intro h i hi
  rw[wH]at hi;rw[wc hi];exact h _ (vK hi)
open PyProof.V PySem.Calls in
theorem oK{X:Cx}(hc:X.calm=true):aK X (.builtin "all") (kK X.K):=by
 intro pins s σ H xs us Q I r h;obtain⟨p,bs,rfl,hq,q⟩:=h;obtain⟨u,rfl,rx⟩:=gY r;cases rx;obtain⟨its,r',pl,hz⟩:=I.list hq;have hi:its=bs.map Value.bool:=Ol r';have hl:s.heap.IsList p its.toArray:=pl.isList;have hlt:p<s.heap.objs.size:=by obtain⟨_,e,_⟩:=hl;exact wD e
 refine call_all_walk (qz hl ?_)
 refine⟨s.heap.objs.size,[s.heap.objs.size,p],[s.heap.objs.size],its.toArray.size,_,_,λi=>(bs[i]?).getD true,rfl,uQ (A:=X.A.in1) (I.ok.hd hc) _ p (wQ hlt) its.toArray,
  ⟨⟨_,wN _ rfl,rfl,rfl⟩,hl.push _⟩,λi v s' Q' E' hP hQ=>?_,λh' tk hk=>?_⟩
 ·have hP:its.toArray[i]? = some v:=hP
  rw[hi]at hP;simp only[Xa,wu,Vs]at hP;obtain⟨b,e,rfl⟩:=hP;simp only[e,Qw]at hQ;exact Wo hQ
 ·have e:((wt its.toArray.size).all λi=>(bs[i]?).getD true)=bs.all id:=by
   rw[wO,hi,wm];exact zuV bs
  rw[e];exact⟨.bl (bs.all id),H,I.kept (t':=tk) (λb x e=>hk b x (λhm=>by rw[w6.mp hm]at e;exact Vj _ (wD e)) (wn _ e)),rfl,q⟩
theorem l_{K:wb}{H:Hp}{Q:VK}{p:we}{bs:List Bool}(h:aQ K H p (bs.map V.bl))(q:Q (.bl (bs.all id)) H):kK K [.ref p] H Q:=⟨p,bs,rfl,h,q⟩
section
variable{t u:Bool}{K:wb}{g:TG}{tt:TT}{te:TE}{σ : L2.St}{H:Hp}{Q:VK}{a b:we}{xs ys:List V}{src:List (Option Nat)}{o0 o0':Option V}{tl:L2.St}
theorem zym(hx:df t K H a xs)(hy:df u K H b ys)(hxy:ys.length<xs.length)(hsrc:dS src σ = o0::o0'::tl)(Rel:Nat->V->Hp->Prop)(hk:∀i v H1 H2,bG H1 H2->Rel i v H1->Rel i v H2)
  (hs:∀D i x y zs o1 o2 H1 c,xs[i]? = some x->ys[i]? = some y->gF H tl Rel D i zs (o1::o2::tl) H1->H1 c=some (.tup [x,y])->ig (gF H tl Rel) g tt te D i (.ref c) (o1::o2::tl) H1)
  (hd:∀D zs H',H D=none->ah H H'->H' D=some (.lst zs)->zs.length=ys.length->(∀j y,zs[j]? = some y->Rel j y H')->Q (.ref D) H'):Eg t u K g tt te src σ [.ref a,.ref b] H Q:=by
 refine⟨a,b,rfl,⟨xs,hx⟩,⟨ys,hy⟩,λD hD=>⟨λi m σ' H'=>i+m=ys.length /\ ∃zs,gF H tl Rel D i zs σ' H',⟨ys.length,by lia,[],⟨o0,o0',hsrc⟩,hD,ah.upd hD,cX,rfl,λj y z=>by simp at z⟩,?_⟩⟩;rintro i m σ' H' ⟨him,zs,inv⟩;have hq1:=df.same inv.2.2.1 hx;have hq2:=df.same inv.2.2.1 hy
 by_cases hm:m=0
 ·have e:i=ys.length:=by lia
  subst e;obtain⟨_,n,s,e,hl,r⟩:=inv;exact .inl ⟨⟨xs,ys,hq1,hq2,.inr ⟨hxy,rfl⟩⟩,hd D zs H' n s e hl r⟩
 ·have hi:i<xs.length:=by lia
  have hj:i<ys.length:=by lia
  refine .inr ⟨⟨xs,xs[i],ys,ys[i],hq1,by simp[hi],hq2,by simp[hj]⟩,λσ2 H2=>∃zs,gF H tl Rel D (i+1) zs σ2 H2,λσ2 H2 h=>⟨m-1,by lia,by lia,h⟩,?_⟩;rintro v H2 ⟨c,x,y,rfl,hn,hx',hy',rfl⟩;obtain⟨⟨o1,o2,rfl⟩,n,s,e,hl,r⟩:=inv;have su:=ah.upd (o:=.tup [x,y]) hn;exact hs D i x y zs o1 o2 _ c (hx' xs hq1) (hy' ys hq2) ⟨⟨o1,o2,rfl⟩,n,s.trans su,su _ _ e,hl,λj y hy=>hk _ _ _ _ su.keep (r j y hy)⟩ cX
end
variable{H:Hp}
def Ls(g:TG)(tb:TS)(D:cv)(σ : L2.St)(vs:List V)(H1:Hp):Prop:=∃i j:Int,vs=[.int i,.int j]/\(-(2^62)<=i/\i<2^62 /\ -(2^62)<=j/\j<2^62) /\
 ∃W:Nat->Nat->L2.St->Hp->Prop,(∃m,W 0 m σ H1) /\ ∀k m σ H,W k m σ H ->
  ((gr i (j-i).toNat).stop k H/\D.nx σ H)\/((gr i (j-i).toNat).go k H /\ ∃M:L2.St->Hp->Prop,(∀σ' H',M σ' H'->∃m',m'<m/\W (k+1) m' σ' H') /\ ∀x H',(gr i (j-i).toNat).fF k H x H'->g x σ H' λσ2 H2=>tb {D with nx:=M,ct:=M,bk:=D.nx} σ2 H2)
theorem zyq{ta:TA}{g:TG}{tb:TS}{D:cv}{σ : L2.St}(h:ta σ H λvs H1=>Ls g tb D σ vs H1):lW (MB ta) g tb D σ H:=h
theorem zuu{g:TG}{tb:TS}{D:cv}{σ : L2.St}{lo hi:Int}(h0 : -1000000000<=lo)(h1:lo<1000000000)(h2 : -1000000000<=hi)(h3:hi<1000000000)(Pv:Nat->L2.St->Hp->Prop)(p:Pv 0 σ H)
  (hs:∀(i:Nat) σ H,i<(hi-lo).toNat->Pv i σ H->g (.int (lo+(i:Int))) σ H λσ2 H2=>tb {D with nx:=Pv (i+1),ct:=Pv (i+1),bk:=D.nx} σ2 H2)
  (hd:∀σ H,Pv (hi-lo).toNat σ H->D.nx σ H):Ls g tb D σ [.int lo,.int hi] H :=
 ⟨lo,hi,rfl,⟨by lia,by lia,by lia,by lia⟩,Mu (lo:=lo) Pv p hs hd⟩
def C2(K:wb):List V->Hp->VK->Prop:=λxs H Q=>∃x tp S T d b,xs=[x,.ref tp]/\aU K H tp [.ty S,.ty T]/\Is K H x d/\u7 K (.type (kindOf d)) [.type S,.type T]=some b/\Q (.bl b) H
theorem ztK{X:Cx} : aK X (.builtin "isinstance") (C2 X.K):=by
 intro pins s σ H xs us Q I r h;obtain⟨x,tp,S,T,d,b,rfl,ht,hd,e,q⟩:=h;obtain⟨u,w',rfl,rx,rt⟩:=mF r;cases (show w'=Value.ref tp from rt);obtain⟨tts,rv,⟨ot,ht1,ht2,n,ht3⟩,_⟩:=I.tuple ht;obtain⟨t1,t2,rfl,r1,r2⟩:=mF rv;cases (show t1=Value.type S from r1);cases (show t2=Value.type T from r2);obtain⟨c,dd,da,sl⟩:=ot;cases ht2;cases ht3;have fin:∀tk,EP X pins σ Q (.bool b) {s with toks:=tk}:=λtk=>⟨.bl b,H,I.tok _,rfl,q⟩
 cases d with
 | none =>
  cases lR.mp hd;cases (show u=Value.none from rx);exact VF X2 I.dW True.intro ht1 e (λz=>nomatch z) fin
 | bool y =>
  cases kb.mp hd;cases (show u=Value.bool y from rx);exact VF X3 I.dW True.intro ht1 e (λz=>nomatch z) fin
 | int i =>
  cases bV.mp hd;obtain⟨t,q⟩:=(show ∃t,u=Value.int i t from rx);cases q;exact VF uu I.dW True.intro ht1 e (λz=>nomatch z) fin
 | str y =>
  cases eX.mp hd;obtain⟨t,q⟩:=(show ∃t,u=Value.str y t from rx);cases q;exact VF uv I.dW True.intro ht1 e (λz=>nomatch z) fin
 | tuple ds =>
  obtain⟨a,xs,e1,hq,_⟩:=bX.mp hd;subst e1;cases (show u=Value.ref a from rx);obtain⟨its,_,⟨o,h1,h2,_⟩,_⟩:=I.tuple hq;exact VF XH I.dW ⟨o,h1,h2⟩ ht1 e (λz=>nomatch z) fin
 | list ds =>
  obtain⟨a,xs,e1,hq,_⟩:=cF.mp hd;subst e1;cases (show u=Value.ref a from rx);obtain⟨its,_,⟨o,n,h1,h2,_⟩,_⟩:=I.list hq;exact VF X4 I.dW ⟨o,h1,h2⟩ ht1 e (λz=>nomatch z) fin
 | dict kv =>
  obtain⟨a,kvs,e1,hq⟩:=Aa.mp hd;subst e1;cases (show u=Value.ref a from rx);obtain⟨_,_,vs,_,o,es,ep,h1,h2,_⟩:=(show dQ X.prog X.w H s.heap a (.dK kvs)from I.aI a _ hq);exact VF X5 I.dW ⟨o,h1,h2.1⟩ ht1 e (λz=>nomatch z) fin
theorem zAu{K:wb}(d:wC):u7 K (.type (kindOf d)) [.type "list",.type "tuple"]=some (k_ d || ja d):=by cases d<;>rfl
theorem Gs{K:wb}{Q:VK}{v:V}{tp:we}{d:wC}(h:Is K H v d)(t:H tp=some (.tup [.ty "list",.ty "tuple"]))(q:Q (.bl (k_ d || ja d)) H):C2 K [v,.ref tp] H Q :=
 ⟨v,tp,"list","tuple",d,_,rfl,.of t,h,zAu d,q⟩
section
variable{X:Cx}{tg:Expr}
def Dy(K:wb)(tl:TE):TI:=λσ H R=>tl σ H λx H1=>(∃a,x=.ref a/\(∃xs,aQ K H1 a xs)/\R (jj K a) H1)\/(∃a,x=.ref a/\(∃xs,aU K H1 a xs)/\R (jg K a) H1)
theorem T_{l:Expr}{tl:TE}(hl:PE X l tl):PI X tg l (Dy X.K tl):=by
 intro pins s σ H R I h;refine aJ (hl pins s σ H _ I h) λv s1 ⟨x,H1,I1,r1,q1⟩=>?_
 rcases q1 with⟨a,e,⟨xs,hq⟩,q⟩ | ⟨a,e,⟨xs,hq⟩,q⟩
 ·subst e
  cases r1;obtain⟨its,rv,p,hz⟩:=I1.list hq;refine qz p.isList ?_;refine⟨s1.heap.objs.size,[s1.heap.objs.size],_,_,H1,rfl,I1.kept (t':=s1.toks) λb o e=>wn _ e,Pk a _,⟨_,wN _ rfl,rfl,rfl⟩,λb hb=>?_,q⟩;have e:b=s1.heap.objs.size:=by simpa using hb
  subst e;exact I1.jN (wo _) (I1.aI.fresh (wo _))
 ·subst e
  cases r1;obtain⟨its,rv,p,hz⟩:=I1.tuple hq;refine Vc (show s1.heap.IsTuple a its.toArray from p) ?_;refine⟨s1.heap.objs.size,[s1.heap.objs.size],_,_,H1,rfl,I1.kept (t':=s1.toks) λb o e=>wn _ e,RG a _,⟨_,wN _ rfl,rfl,rfl⟩,λb hb=>?_,q⟩;have e:b=s1.heap.objs.size:=by simpa using hb
  subst e;exact I1.jN (wo _) (I1.aI.fresh (wo _))
end
section
variable{K:wb}{g:TG}{tt:TT}{te ta tb' tc:TE}{tb:TS}{D:cv}{src:List (Option Nat)}{σ : St}{H:Hp}{Q:VK}{r r':R2}
theorem zzR(h:ta σ H λx H1=>zq K g tt te src σ x H1 Q\/ze K g tt te src σ x H1 Q):jX src (Dy K ta) g tt te σ H Q:=h
theorem zBD(h:te σ H λx H1=>ET K g tb D σ x H1\/SH K g tb D σ x H1):lW (Dy K te) g tb D σ H:=h
theorem zzo(h:ta σ H λx H1=>tb' σ H1 λy H2=>r x y H2 λz H3=>∃k,z=.bl k/\(if k=true then tc σ H3 λw' H4=>r' y w' H4 Q else Q (.bl false) H3)):FW r r' ta tb' tc σ H Q:=h
theorem zDJ{b:Bool}{P:Bool->Prop}(h:P b):∃k,V.bl b=.bl k/\P k:=⟨b,rfl,h⟩
end
def aZ(a b:Rat)(xs:List Rat):wC:=.tuple [R a b,TN xs]
theorem NT(a b:Rat)(xs:List Rat):dh (aZ a b xs)=true:=by rw[aZ,dh,ck,ck,ck,DS,zE];rfl
theorem zD3{x y:Rat}(h:N x=N y):x=y:=by
 have h':PyData.tuple [.int x.num,.int (x.den:Int)]=PyData.tuple [.int y.num,.int (y.den:Int)]:=h
 injection h' with h1
 injection h1 with h2 h3
 injection h2 with h4
 injection h3 with h5 _
 injection h5 with h6
 exact u6 h4 (by lia)
theorem jq{K:wb}{H:Hp}{us:List V}{ds:List wC}{i:Nat}{x:V}(t:ak K H us ds)(h:us[i]? = some x):i<ds.length/\Is K H x (ds.getD i .none):=by
 have hl:=t.length
 have hi:i<ds.length:=by
  rcases wA i ds.length with z | z
  ·exact z
  ·rw[wL (by lia)]at h;cases h
 obtain⟨y,e,k⟩:=t.get (i:=i) (d:=ds.getD i .none) (by rw[wa,wc hi];rfl);rw[e]at h;cases h;exact⟨hi,k⟩
def EU:List V->Hp->VK->Prop:=λxs H Q=>∃i j,xs=[.int i,.int j]/\Q (.int (if j<i then j else i)) H
theorem zwr{X:Cx}(hc:X.calm=true):aK X (.builtin "min") EU:=zxn hc
theorem zDc:vN "min"=some (.builtin "min"):=by decide +kernel
theorem zAR{i j:Int}{H:Hp}{Q:VK}(q:∀m:Int,m<=i->m<=j->(m=i\/m=j)->Q (.int m) H):EU [.int i,.int j] H Q:=⟨i,j,rfl,by
 split
 ·exact q j (by lia) (by lia) (.inr rfl)
 ·exact q i (by lia) (by lia) (.inl rfl)⟩
def Co(K:wb)(a:we):It :=
 ⟨λi H=>∃xs x,aQ K H a xs/\xs[i]? = some x,λi H y H'=>∃t x,y=.ref t/\H t=none/\(∀xs,aQ K H a xs->xs[i]? = some x)/\H'=upd H t (.tup [.int (i:Int),x]),λi H=>∃xs,aQ K H a xs/\xs.length<=i⟩
theorem ZL{P:wI}{w:wJ}{K:wb}{elts:List Expr}{k1}{tpos:Pos}(a e it:we)(hne:e≠it):jA P w K (.Tuple elts k1 tpos) (Co K a) [e,it] e (λi h=>(∃old,IsEnum h e it (i:Int) old)/\h.IsListIter it a i) where
 mem:=by simp
 obj:=λi h st b hb=>by
  obtain⟨⟨old,he⟩,o,eo,c,d⟩:=st;rcases wF.mp hb with rfl | hb
  ·exact⟨_,he,λv z=>by cases (show Data.fields _=Data.cell v from z)⟩
  ·rw[w6.mp hb]
   exact⟨o,eo,λv z=>by rw[d]at z;cases z⟩
 keep:=λi h h' st k=>⟨let ⟨old,he⟩:=st.1;⟨old,k e (by simp) _ he⟩,st.2.at λo eo=>k it (by simp) o eo⟩
 item:=by
  intro X hP hw hK hc i pins s σ H E I hf st hg;subst hP hw hK;obtain⟨⟨old,he⟩,st⟩:=st;obtain⟨xs,x,hq,hx⟩:=hg;obtain⟨its,rv,p,hz⟩:=I.list hq;obtain⟨u,hu,ru⟩:=rv.get hx;have p':s.heap.IsList a its.toArray:=p.isList
  have hai:a≠it:=λz=>by
   subst z;obtain⟨o,e1,c1,_⟩:=st;obtain⟨o',e2,c2,_⟩:=p';rw[e1]at e2;cases e2;rw[c1]at c2;exact absurd c2 (by decide)
  have hae:e≠a:=λz=>by
   subst z;obtain⟨o',e2,c2,_⟩:=p';rw[he]at e2;cases e2;exact absurd (show Value.type "enumerate"=Value.type "list" from c2) (by decide)
  have hlt:i<its.toArray.size:=by
   rcases wA i its.length with z | z
   ·simpa using z
   ·rw[wL z]at hu;cases hu
  refine wpAny_pyNext_enum_itemD (Draws.list (A:=X.A.in1) (I.ok.hd hc) it a hai its.toArray) he ⟨st,p'⟩ hlt hne (by simp[hne,hae]) λv h1 tk hv ho hs1 hT hsz hk=>?_
  have hvu:v=u:=by
   have hv':its[i]? = some v:=by simpa using hv
   rw[hu]at hv';exact(wM hv').symm
  subst hvu
  have I1:Inv X pins σ (upd H s.heap.objs.size (.tup [.int (i:Int),x])) {s with heap:=s.heap.push {cls:=.type "tuple",data:=.seq ([.int (i:Int) tk,v]:List wg).toArray},toks:=tk+1} :=
   I.laid (λb o q=>wn _ q) (wo _) (show dQ X.prog X.w _ _ _ (.tup [.int (i:Int),x])from⟨oq (by simp),_,.cons ⟨_,rfl⟩ (.cons ru .nil),Qx _ _⟩)
  have lt1:∀b∈[e,it],b<s.heap.objs.size:=λb hb=>by
   rcases wF.mp hb with rfl | hb
   ·exact wD he
   ·rw[w6.mp hb]
    obtain⟨o,eo,_⟩:=st;exact wD eo
  have hf1:∀b∈[e,it],eT X pins (upd H s.heap.objs.size (.tup [.int (i:Int),x])) b:=λb hb=>⟨by rw[eI (wQ (lt1 b hb))];exact(hf b hb).1,(hf b hb).2⟩
  refine⟨_,rfl,wpAny_letOwnedTupleGo_enum ho λh2 he2 hs2=>?_⟩;refine⟨.ref s.heap.objs.size,_,Inv.sE (s:={s with heap:=s.heap.push {cls:=.type "tuple",data:=.seq ([.int (i:Int) tk,v]:List wg).toArray},toks:=tk+1}) (ch:=[e,it]) I1 (λb o hb q=>?_) hf1,rfl,⟨_,x,rfl,I.aI.fresh (wo _),λys hy=>by rw[I.BF hy hq];exact hx,rfl⟩,⟨⟨_,by simpa using he2⟩,hs1.1.at λo eo=>(hs2.2 it (WE hne)).trans eo⟩,λb hb=>(hf1 b hb).1⟩;have hbe:b≠e:=λz=>hb (by simp[z])
  have hbi:b≠it:=λz=>hb (by simp[z])
  refine(hs2.2 b hbe).trans ?_
  by_cases hb2:b=s.heap.objs.size
  ·subst hb2
   rw[wN _ rfl]at q;cases q;exact hT
  ·exact hk b o hbe hbi (by rw[Q9 _ _ _ hb2]at q;exact q)
 done:=by
  intro X hP hw hK hc i pins s σ H E I hf st hg;subst hP hw hK;obtain⟨⟨old,he⟩,st⟩:=st;obtain⟨xs,hq,hx⟩:=hg;obtain⟨its,rv,p,hz⟩:=I.list hq;have p':s.heap.IsList a its.toArray:=p.isList;have hl:=rv.length;have hT:s.TypeIs (.ref e) "enumerate":=⟨_,he,rfl⟩;unfold VR;refine wf (VL (wpAny_callSpecial?_slot (name:=vW "__next__") hT qE (Wd qE hT xS ?_ (xw _))))
  show wx _ _ (field (.ref e) 2 >>= _) _ _ _;refine wf (vD he rfl (x:=.ref it) rfl ?_)
  refine wf (wpAny_nextOf_list_end (A:=X.A.in1) (I.ok.hd hc) st p' (by simp;lia) λh' y he' hx'=>?_);obtain⟨o,ho,hcl⟩:=hx';refine wf (Vr (T:="StopIteration") (b:=true) ⟨o,ho,hcl⟩ isSubtype_stop (wp ⟨rfl,?_⟩));obtain⟨f0,f1,f2,f3,f4,f5⟩:=hf it (by simp);exact I.turned (t':=s.toks) (λb o hb e=>he' b o hb e) f0 f1 f3 f4 f5
 self:=λ_ _ _ _ _ st h=>let ⟨_,he⟩:=st.1;wpAny_pyIter_enum he h
def RH(K:wb)(ta:TA):TI:=λσ H R=>ta σ H λvs H1=>∃a,vs=[.ref a]/\(∃xs,aQ K H1 a xs)/\R (Co K a) H1
theorem zzb{X:Cx}{elts:List Expr}{k1}{tpos p pos:Pos}{l:Expr}{ta:TA}(hg:Gl X "enumerate")(hm:X.mg "enumerate"=none)(ha:PA X [l] ta)(hs:w5 [l] X.env=[(false,eval l X.env)]:=by rfl) :
  PI X (.Tuple elts k1 tpos) (.Call (.Name "enumerate" p) [l] [] pos) (RH X.K ta):=by
 intro pins s σ H R I h;refine Call_ (gW I hg hm Pr (vB (aJ (ha pos pins s σ H _ I h) λus s1 ⟨vs,H1,I1,r1,q1⟩=>?_) hs rfl));obtain⟨a,rfl,⟨xs,hq⟩,q⟩:=q1;obtain⟨u,rfl,ru⟩:=gY r1;cases ru;obtain⟨its,rv,p,hz⟩:=I1.list hq;refine call_enumerate_list p.isList λh' he hit _ kp=>?_
 refine wpAny_pyIter_enum he ?_;refine⟨s1.heap.objs.size+1,[s1.heap.objs.size+1,s1.heap.objs.size],_,_,H1,rfl,I1.kept (t':=s1.toks) kp,ZL a (s1.heap.objs.size+1) s1.heap.objs.size (uz _),⟨⟨_,he⟩,hit⟩,λb hb=>?_,q⟩
 have hb':s1.heap.objs.size<=b:=by
  rcases wF.mp hb with rfl | hb
  ·lia
  ·rw[w6.mp hb];exact wo _
 exact I1.jN hb' (I1.aI.fresh hb')
def Rj(K:wb)(g:TG)(tt:TT)(te:TE)(src:List (Option Nat))(σ : St)(vs:List V)(H1:Hp)(Q:VK):Prop:=∃a,vs=[.ref a]/\(∃xs,aQ K H1 a xs) /\
 ∀D,H1 D=none->jU g tt te (Co K a) D (dS src σ) (upd H1 D (.lst [])) (λH'=>Q (.ref D) H')
section
variable{K:wb}{ta:TA}{g:TG}{tb:TS}{tt c:TT}{te:TE}{D:cv}{σ : St}{H:Hp}{Q:VK}{a:we}{xs:List V}{src:List (Option Nat)}{o0 o0':Option V}{tl:St}
theorem zwm(h:ta σ H λvs H1=>Rj K g tt te src σ vs H1 Q):jX src (RH K ta) g tt te σ H Q:=h
theorem zzc(hx:aQ K H a xs)(hsrc:dS src σ = o0::o0'::tl)(Rel:Nat->V->Hp->Prop)(hk:∀i v H1 H2,bG H1 H2->Rel i v H1->Rel i v H2)
  (hs:∀D i x zs o1 o2 H1 c,xs[i]? = some x->gF H tl Rel D i zs (o1::o2::tl) H1->H1 c=some (.tup [.int (i:Int),x])->ig (gF H tl Rel) g tt te D i (.ref c) (o1::o2::tl) H1)
  (hd:∀D zs H',H D=none->ah H H'->H' D=some (.lst zs)->zs.length=xs.length->(∀j y,zs[j]? = some y->Rel j y H')->Q (.ref D) H'):Rj K g tt te src σ [.ref a] H Q:=by
 refine⟨a,rfl,⟨xs,hx⟩,λD hD=>⟨λi m σ' H'=>i+m=xs.length /\ ∃zs,gF H tl Rel D i zs σ' H',⟨xs.length,by lia,[],⟨o0,o0',hsrc⟩,hD,ah.upd hD,cX,rfl,λj y z=>by simp at z⟩,?_⟩⟩;rintro i m σ' H' ⟨him,zs,inv⟩;have hq1:=inv.2.2.1.seq hx
 by_cases hm:m=0
 ·have e:i=xs.length:=by lia
  subst e;obtain⟨_,n,s,e,hl,r⟩:=inv;exact .inl ⟨⟨xs,hq1,wo _⟩,hd D zs H' n s e hl r⟩
 ·have hi:i<xs.length:=by lia
  refine .inr ⟨⟨xs,xs[i],hq1,by simp[hi]⟩,λσ2 H2=>∃zs,gF H tl Rel D (i+1) zs σ2 H2,λσ2 H2 h=>⟨m-1,by lia,by lia,h⟩,?_⟩;rintro v H2 ⟨c,x,rfl,hn,hx',rfl⟩;obtain⟨⟨o1,o2,rfl⟩,n,s,e,hl,r⟩:=inv;have su:=ah.upd (o:=.tup [.int (i:Int),x]) hn;exact hs D i x zs o1 o2 _ c (hx' xs hq1) ⟨⟨o1,o2,rfl⟩,n,s.trans su,su _ _ e,hl,λj y hy=>hk _ _ _ _ su.keep (r j y hy)⟩ cX
def Tq(Pv:Nat->St->Hp->Prop)(m:Nat)(tb:TS)(D:cv)(σ':St)(H1:Hp):Prop :=
 ∃M:St->Hp->Prop,(∀σ2 H2,M σ2 H2->∃m',m'<m/\Pv m' σ2 H2)/\tb {D with nx:=M,ct:=M,bk:=D.nx} σ' H1
theorem sQ(Pv:Nat->St->Hp->Prop)(m0:Nat)(h0:Pv m0 σ H)(hs:∀m σ' H',Pv m σ' H'->c σ' H' λb H1=>if b=true then Tq Pv m tb D σ' H1 else D.nx σ' H1):EO c tb D σ H:=⟨Pv,⟨m0,h0⟩,hs⟩
theorem AX{Pv:Nat->St->Hp->Prop}{m:Nat}{σ':St}{H1:Hp}(h:tb {D with nx:=λσ2 H2=>∃m',m'<m/\Pv m' σ2 H2,ct:=λσ2 H2=>∃m',m'<m/\Pv m' σ2 H2,bk:=D.nx} σ' H1):Tq Pv m tb D σ' H1:=⟨_,λ_ _ q=>q,h⟩
def Ai(K:wb)(x:V)(H:Hp)(Q:Bool->Hp->Prop):Prop:=∃k,B8 K x H k/\Q k H
def L8(K:wb)(te:TE):TT:=λσ H Q=>te σ H λx H'=>Ai K x H' Q
theorem sR{X:Cx}{e:Expr}{t:TE}(h:PE X e t)(he:∀whole,isTrue e X.env whole=(do let v <- whole;standAt e.pos;holding [v] (truthy v)):=by intro _;rfl):PT X e (L8 X.K t):=zzX h he
theorem zCp{QB:Bool->Hp->Prop}(h:te σ H λx H'=>Ai K x H' QB):L8 K te σ H QB:=h
theorem zAv{QB:Bool->Hp->Prop}{v:V}{ds:List wC}(h:Is K H v (.tuple ds))(q:QB (!ds.isEmpty) H):Ai K v H QB:=by
 obtain⟨p,us,rfl,hs,t⟩:=bX.mp h;have hl:=t.length;refine⟨_,.inr (.inl ⟨us,hs,rfl⟩),?_⟩
 have e:us.isEmpty=ds.isEmpty:=by
  cases us<;>cases ds<;>simp_all
 rw[e];exact q
theorem CN{QB:Bool->Hp->Prop}{v:V}{ds:List wC}(h:Is K H v (.list ds))(q:QB (!ds.isEmpty) H):Ai K v H QB:=by
 obtain⟨p,us,rfl,hs,t⟩:=cF.mp h;have hl:=t.length;refine⟨_,.inl ⟨us,hs,rfl⟩,?_⟩
 have e:us.isEmpty=ds.isEmpty:=by
  cases us<;>cases ds<;>simp_all
 rw[e];exact q
end
theorem Tt:∀(ys:List V)(us:List wg),ys.length=us.length->(∀(i:Nat) y u,ys[i]? = some y->us[i]? = some u->bj y u)->aT ys us
 | [],[],_,_=>.nil
 | [],_::_,h,_=>by simp at h
 | _::_,[],h,_=>by simp at h
 | y::ys,u::us,h,r=>.cons (r 0 y u rfl rfl) (Tt ys us (by simpa using h) λi y u h1 h2=>r (i+1) y u h1 h2)
def vz(l:List Nat):List V:=l.map λ(w:Nat)=>V.int (w:Int)
theorem ke(l:List Nat):(vz l).length=l.length:=wm ..
def Dp(vs:List V)(H1:Hp)(Q:VK):Prop:=∃j:Int,vs=[.int j]/\0<=j/\j<=1000 /\ ∀l,H1 l=none->Q (.ref l) (upd H1 l (.lst (vz (wt j.toNat))))
def OH(ta:TA):TE:=λσ H Q=>ta σ H λvs H1=>Dp vs H1 Q
theorem zrr{X:Cx}{a:Expr}{ta:TA}{p p2 pos pos2:Pos}(hc:X.calm=true)(hg:Gl X "list")(hm:X.mg "list"=none)(hg2:Gl X "range")(hm2:X.mg "range"=none)(ha:PA X [a] ta)(hs:w5 [a] X.env=[(false,eval a X.env)]:=by rfl)
  (hs2:w5 [Expr.Call (.Name "range" p2) [a] [] pos2] X.env=[(false,eval (.Call (.Name "range" p2) [a] [] pos2) X.env)]:=by rfl):PE X (.Call (.Name "list" p) [.Call (.Name "range" p2) [a] [] pos2] [] pos) (OH ta):=by
 intro pins s σ H Q I h;refine Call_ (gW I hg hm kY ?_);refine vB ?_ hs2 rfl;rw[hs2]
 show wx _ _ (spliced ((false,eval _ X.env)::backTo pos [])) _ _ s
 refine QY ?_;refine Call_ (gW I hg2 hm2 boot_range (vB (aJ (ha pos2 pins s σ H _ I h) λus s1 ⟨vs,H1,I1,r1,q1⟩=>?_) hs rfl));obtain⟨j,e,j0,j1,q⟩:=q1;subst e;obtain⟨u,rfl,ru⟩:=gY r1;obtain⟨t,rfl⟩:=ru;refine call_range_1 ?_;refine Q8 ?_;have I2:Inv X pins σ H1 {s1 with heap:=s1.heap.push {cls:=.type "range",data:=.fields #[.int 0 s1.toks,.int j t,.int 1 (s1.toks+1)]},toks:=s1.toks+1+1}:=I1.kept λb o e=>wn _ e
 refine call_list_range (n:=j.toNat) (I1.ok.hd hc) (Uu ..) (small_one (by lia) (by lia) (by lia) (by lia)) (by rw[rangeSize_one];split<;>lia) (by lia) λh' tk acc c hk hD hI=>?_
 refine⟨.ref _,_,I2.laid (t':=tk) hk (wo _) ?_,rfl,q _ (I2.aI.fresh (wo _))⟩;refine⟨oq (by rw[ke,vx];lia),acc.toList,c,Tt _ _ (by rw[ke,vx,wK,hI.1]) λi y u hy hu=>?_,by simpa using hD⟩;have hu':acc[i]? = some u:=by simpa using hu
 obtain⟨t',e'⟩:=hI.2 i u hu'
 have hi:i<j.toNat:=by
  have:=(W2.mp hu').1;rw[hI.1]at this;exact this
 have hy':y=V.int (i:Int):=by
  unfold vz at hy;rw[wu,vM hi]at hy;exact(wM hy).symm
 subst hy';exact⟨t',by rw[e'];congr 1;lia⟩
theorem zqy{ta:TA}{σ : St}{H:Hp}{Q:VK}(h:ta σ H λvs H1=>Dp vs H1 Q):OH ta σ H Q:=h
theorem zwV{n:Nat}{H:Hp}{Q:VK}(hn:n<=1000)(q:∀l H',H l=none->ah H H'->H' l=some (.lst (vz (wt n)))->Q (.ref l) H'):Dp [V.int (n:Int)] H Q :=
 ⟨_,rfl,by lia,by lia,λl hl=>q l _ hl (ah.upd hl) (by rw[wP];exact cX)⟩
theorem PR(w:Nat)(l:List Nat):AV (.int (w:Int)) (vz l)=decide (w∈l):=by
 unfold AV vz
 induction l with
 | nil=>rfl
 | cons x l ih =>
  rw[vd,Qt,ih]
  show((x:Int) == (w:Int) || _)=_
  by_cases h:w=x
  ·subst h;simp
  ·have h':¬ (x:Int)=(w:Int):=λz=>h (by lia)
   simp[h,h']
theorem M8(l:List Nat):(vz l).all kx=true:=by
 unfold vz;rw[WO];intro y hy;obtain⟨w,_,rfl⟩:=wU.mp hy
 rfl
section
variable{K:wb}{H H':Hp}{Q:VK}{v:V}{p:we}{l:List Nat}{w:Nat}
theorem ZN(h:aU K H p (vz l))(q:Q (.bl (!decide (w∈l))) H):lz K true (.int (w:Int)) (.ref p) H Q:=⟨p,vz l,rfl,.inr h,rfl,M8 l,by rw[PR];exact q⟩
theorem zAL(h:aQ K H p (vz l))(q:Q (.bl (decide (w∈l))) H):lz K false (.int (w:Int)) (.ref p) H Q:=⟨p,vz l,rfl,.inl h,rfl,M8 l,by rw[PR];exact q⟩
def TW(l:List Nat):wC:=TZ (l.map λ(w:Nat)=>(w:Int))
theorem GK :Is K H v (TW l) ↔ ∃a,v=.ref a/\aU K H a (vz l):=by
 unfold TW vz;rw[p9,WM];exact Iff.rfl
theorem FY(l:List Nat):dh (TW l)=true:=zCP _
def mX(ws:List (List Nat)):wC:=.tuple (ws.map TW)
theorem AY:∀ws:List (List Nat),ck (ws.map TW)=true
 | []=>rfl
 | w::ws=>by rw[vd,ck,FY,AY ws];rfl
theorem zBj(ws:List (List Nat)):dh (mX ws)=true:=by rw[mX,dh];exact AY ws
theorem Dm{i:Nat}{x:V}(h:(vz l)[i]? = some x):∃hi:i<l.length,x=.int ((l[i]:Nat):Int):=by
 have hi:i<l.length:=by
  rcases wA i l.length with z | z
  ·exact z
  ·rw[wL (by rw[ke];exact z)]at h;cases h
 refine⟨hi,?_⟩;unfold vz at h;rw[wu,wc hi]at h;exact(wM h).symm
def GD(a b:Rat)(xs:List Rat):wC:=.tuple [N (1-cb xs),mX (cE a b xs),aZ a b (dC a b xs)]
def zS(h:Rat)(ws:List (List Nat))(xs:List Rat):wC:=.tuple [N h,mX ws,TN xs]
theorem Nd(h:Rat)(ws:List (List Nat))(xs:List Rat):dh (zS h ws xs)=true:=by rw[zS,dh,ck,ck,ck,ck,kQ,zBj,zE];rfl
def zY(a b:Rat)(xs:List Rat)(k:Nat):wC:=zS (aF a b xs (k+1)) (cE a b (ai a b xs k)) (ai a b xs (k+1))
def gx(a b:Rat)(xs:List Rat)(n:Nat):List wC:=(wt n).map (zY a b xs)
theorem rE{α : Type}(f : α -> wC)(hf:∀x,dh (f x)=true):∀l:List α,ck (l.map f)=true
 | []=>rfl
 | x::l=>by rw[vd,ck,hf,rE f hf l];rfl
theorem ak.snoc{vs:List V}{ds:List wC}{d:wC}(h:ak K H vs ds)(k:Is K H v d):ak K H (vs++[v]) (ds++[d]):=h.append (.cons k .nil)
theorem pZ{i:Nat}(h:i<l.length):l.take (i+1)=l.take i++[l[i]]:=by
 rw[Qo,wc h];rfl
theorem OB{ds:List wC}{d:wC}{j:Nat}(h:Is K H v (.list ds))(e:ds[j]? = some d)(q:∀x,Is K H x d->Q x H):dy K v (.int (j:Int)) H Q:=by
 obtain⟨a,xs,rfl,h,t⟩:=cF.mp h;obtain⟨x,e1,hx⟩:=t.get e;exact iQ h (kP e1) (q x hx)
theorem Mj(h:Is K H v (TW l))(q:Q (.int (l.length:Int)) H):dj K [v] H Q:=Cu h (by rw[wm];exact q)
end
variable{n w:Nat}{l:List Nat}{ds:List wC}
theorem DD(a b:Rat)(xs:List Rat)(n:Nat):(gx a b xs n).length=n:=by simp[gx]
theorem zwP{a b:Rat}{xs:List Rat}{k:Nat}(h:k<n):(gx a b xs n)[k]? = some (zY a b xs k):=by
 unfold gx;rw[wu,vM h];rfl
theorem ES(a b:Rat)(xs:List Rat)(n:Nat):gx a b xs (n+1)=gx a b xs n++[zY a b xs n]:=by
 unfold gx;rw[QF,vA];rfl
theorem zqm(a b:Rat)(xs:List Rat)(n:Nat):ck (gx a b xs n)=true:=rE _ (λk=>Nd _ _ _) _
theorem zya{ps:List Rat}(h:¬ ps.getD w 0<1):aG ps (l++[w])=aG ps l++[w]:=by
 unfold aG;rw[Va,W4,decide_eq_false h];rfl
theorem zxu{ps:List Rat}(h:ps.getD w 0<1):aG ps (l++[w])=aG ps l:=by
 unfold aG;rw[Va,W4,decide_eq_true h];exact Wh _
theorem zwS{wave:List Nat}(h:¬ w∈wave):bW (l++[w]) wave=bW l wave++[w]:=by
 unfold bW;rw[Va];simp[W4,h]
theorem zt1{wave:List Nat}(h:w∈wave):bW (l++[w]) wave=bW l wave:=by
 unfold bW;rw[Va];simp[W4,h]
theorem EL(l:List Nat)(w:Nat):vz (l++[w])=vz l++[V.int (w:Int)]:=by unfold vz;rw[vA];rfl
theorem ZJ{xs:List Rat}{j:Nat}(h:j<xs.length):(bK xs).getD j 0=xs.getD j 0+(1-cb xs):=by
 unfold bK;rw[wa,wu,wc h,wa,wc h];rfl
theorem Fv:∀ds:List wC,(∀d∈ds,wY d d=true)->Vl ds ds=true
 | [],_=>by simp[Vl]
 | d::ds,h=>by rw[Vl,h d (wz ..),Fv ds λe he=>h e (wy _ he)];rfl
theorem F9(h:∀d∈ds,wY d d=true):wY (.tuple ds) (.tuple ds)=true:=by rw[wY];exact Fv ds h
theorem zDb(h:∀d∈ds,wY d d=true):wY (.list ds) (.list ds)=true:=by rw[wY];exact Fv ds h
theorem NP(x:Rat):wY (N x) (N x)=true:=by rw[rS];exact decide_eq_true rfl
theorem SM(xs:List Rat):wY (TN xs) (TN xs)=true:=by rw[FD];exact decide_eq_true rfl
theorem mE{P:wC->Prop}{a b:wC}(ha:P a)(hb:P b):∀d∈[a,b],P d:=λd hd=>by
 simp only[wF,WA,or_false]at hd;rcases hd with rfl | rfl
 ·exact ha
 ·exact hb
def Sh(n:Nat)(d:wC):Prop:=d.canLay0=true/\d.depth<=n
theorem CT{n:Nat} : ∀ds:List wC,(∀d∈ds,Sh n d)->Wu ds=true/\WX ds<=n
 | [],_=>by simp[Wu,WX]
 | d::ds,h=>by
  have h1:=h d (wz ..);have h2:=CT ds λe he=>h e (wy _ he)
  rw[Wu,WX,h1.1,h2.1];exact⟨rfl,by have:=h1.2;have:=h2.2;lia⟩
theorem nZ(h:∀d∈ds,Sh n d):Sh (n+1) (.tuple ds):=by
 have:=CT ds h;unfold Sh;rw[vU,Vg];exact⟨this.1,by have:=this.2;lia⟩
theorem Zq(h:∀d∈ds,Sh n d):Sh (n+1) (.list ds):=by
 have:=CT ds h;unfold Sh;rw[vU,Vg];exact⟨this.1,by have:=this.2;lia⟩
theorem Sh.mono{m:Nat}{d:wC}(h:Sh m d)(e:m<=n):Sh n d:=⟨h.1,Wa h.2 e⟩
theorem Sh.shaped{d:wC}(h:Sh n d)(e:n<=64):Wb d=true:=by
 unfold Wb;rw[h.1,ql];exact decide_eq_true (Wa h.2 e)
theorem nS(i:Int):Sh 1 (.int i):=⟨by simp[vU],by simp[Vg]⟩
theorem sY(x:Rat):Sh 2 (N x):=nZ (mE (nS _) (nS _))
theorem L3(xs:List Rat):Sh 3 (TN xs):=nZ λd hd=>by
 obtain⟨x,_,rfl⟩:=wU.mp hd;exact sY x
theorem zBH{K:wb}{H:Hp}{Q:VK}{v w:V}{d:wC}(h:Is K H v d)(k:Is K H w d)(s:Sh n d)(e:n<=64)(r:wY d d=true)(q:Q (.bl false) H):gc K v w H Q:=GJ h k (s.shaped e) (s.shaped e) (by rw[r];exact q)
theorem B5{K:wb}{H:Hp} : ∀{ds:List wC}{vs:List V},vs.length=ds.length->(∀i x,vs[i]? = some x->Is K H x (ds.getD i .none))->ak K H vs ds
 | [],[],_,_=>.nil
 | [],_::_,h,_=>by simp at h
 | _::_,[],h,_=>by simp at h
 | d::ds,v::vs,h,e=>.cons (e 0 v rfl) (B5 (by simpa using h) λi x hx=>e (i+1) x hx)
section
variable{K:wb}{H H':Hp}{Q:VK}{D:cv}{σ : St}{td ty tv:TE}{a:we}{kvs:List (Key × V)}{k:Int}{v:V}
end
theorem TQ:∀{ts:List Int}{ys:List V},ys.length=ts.length->(∀(j:Nat)(y:V),ys[j]? = some y->y=V.int (ts.getD j 0))->ys=ts.map V.int
 | [],[],_,_=>rfl
 | [],_::_,h,_=>by simp at h
 | _::_,[],h,_=>by simp at h
 | t::ts,y::ys,h,e=>by
  rw[vd,e 0 y rfl,TQ (ts:=ts) (ys:=ys) (by simpa using h) λj z hz=>e (j+1) z hz]
  rfl
theorem Yw{n:Nat}(p:Nat->Bool)(i:Nat):(wt (i+1)).filter p=(wt i).filter p++(if p i then [i]else []):=by
 rw[QF,Va];cases h:p i<;>simp[h]
def Oc(K:wb)(g:TG)(tt:TT)(te:TE)(src:List (Option Nat))(σ : St)(vs:List V)(H1:Hp)(Q:VK):Prop:=∃a,vs=[.ref a]/\(∃xs,aU K H1 a xs) /\
 ∀D,H1 D=none->jU g tt te (mV K a) D (dS src σ) (upd H1 D (.lst [])) (λH'=>Q (.ref D) H')
section
variable{K:wb}{ta:TA}{g:TG}{tt:TT}{te:TE}{σ : St}{H:Hp}{Q:VK}{a:we}{xs:List V}{src:List (Option Nat)}
theorem zw5(h:ta σ H λvs H1=>Oc K g tt te src σ vs H1 Q):jX src (Ga K ta) g tt te σ H Q:=h
theorem zso(hx:aU K H a xs)(Pv:we->Nat->List V->St->Hp->Prop)(h0:∀D H',H D=none->ah H H'->H' D=some (.lst [])->Pv D 0 [] (dS src σ) H')(hl:∀D i ys σ' H',Pv D i ys σ' H'->aU K H' a xs)
  (hs:∀D i x ys σ' H1 c H2,xs[i]? = some x->Pv D i ys σ' H1->H1 c=none->ah H1 H2->H2 c=some (.tup [.int (i:Int),x])->ig Pv g tt te D i (.ref c) σ' H2) (hd:∀D ys σ' H',Pv D xs.length ys σ' H'->Q (.ref D) H'):Oc K g tt te src σ [.ref a] H Q:=by
 refine⟨a,rfl,⟨xs,hx⟩,λD hD=>⟨λi m σ' H'=>i+m=xs.length /\ ∃ys,Pv D i ys σ' H',⟨xs.length,by lia,[],h0 D _ hD (ah.upd hD) cX⟩,?_⟩⟩;rintro i m σ' H' ⟨him,ys,inv⟩;have hq:=hl _ _ _ _ _ inv
 by_cases hm:m=0
 ·have e:i=xs.length:=by lia
  subst e;exact .inl ⟨⟨xs,hq,wo _⟩,hd _ _ _ _ inv⟩
 ·have hi:i<xs.length:=by lia
  refine .inr ⟨⟨xs,xs[i],hq,by simp[hi]⟩,λσ2 H2=>∃ys,Pv D (i+1) ys σ2 H2,λσ2 H2 h=>⟨m-1,by lia,by lia,h⟩,?_⟩;rintro v H2 ⟨c,x,rfl,hn,hx',rfl⟩;exact hs D i x ys σ' H' c _ (hx' xs hq) inv hn (ah.upd hn) cX
end
def p0(K:wb):R2:=λx y H Q=>∃d ds,Is K H x d/\Is K H y (.tuple ds)/\Sh 60 d/\vU (.tuple ds)=true/\Q (.bl (ds.any λe=>wY e d)) H
theorem OS{X:Cx}(hu:X.A.units+64<WD):aN X (wT .In) (p0 X.K):=by
 intro pins s σ H x y v u Q I rx ry h;obtain⟨d,ds,hd,he,sd,se,q⟩:=h;obtain⟨as,h1⟩:=I.reads d x v sd.1 hd rx;obtain⟨bs,h2⟩:=I.reads (.tuple ds) y u se he ry;have sd2:=sd.2;have hm:=uk (WX ds) d.depth;exact SeqAt.in_tuple_reads h2 h1 (by rw[vU]at se;exact se) sd.1 (by lia) ⟨.bl _,H,I,rfl,q⟩
theorem ZY(xs:List Rat)(x:Rat):((xs.map N).any λe=>wY e (N x))=decide (x∈xs):=by
 induction xs with
 | nil=>rfl
 | cons y xs ih =>
  rw[vd,Qt,ih,rS]
  by_cases h:x=y
  ·subst h;simp
  ·have h':¬ y=x:=λz=>h z.symm
   simp[h,h']
theorem zA4{K:wb}{H:Hp}{Q:VK}{v w:V}{xs:List Rat}{x:Rat}(h:Is K H v (N x))(k:Is K H w (TN xs))(q:Q (.bl (decide (x∈xs))) H):p0 K v w H Q :=
 ⟨N x,xs.map N,h,k,(sY x).mono (by decide),by rw[vU];exact Fy xs,by rw[ZY];exact q⟩
def j5(xs:List Rat)(v:Rat):wC:=.tuple [N v,TW (f_ xs v)]
theorem Rz(xs:List Rat)(v:Rat):dh (j5 xs v)=true:=by rw[j5,dh,ck,ck,ck,kQ,FY];rfl
theorem zwq(xs:List Rat)(l:List Rat):ck (l.map (j5 xs))=true:=rE _ (Rz xs) l
section
variable{K:wb}{H:Hp}{Q:VK}{v w:V}{ds:List wC}{n:Nat}{l b:we}{xs zs:List V}
theorem zAp{d:wC}(h:Is K H v d)(k:Is K H w d)(s:Sh n d)(e:n<=64)(r:wY d d=true)(q:Q (.bl true) H):cO K v w H Q:=nF h k (s.shaped e) (s.shaped e) (by rw[r];exact q)
theorem zyG(a b:Bool):wY (.bool a) (.bool b)=(a == b):=by rw[wY]
theorem Mi(b:Bool):Sh 1 (.bool b):=⟨by simp[vU],by simp[Vg]⟩
theorem zCU{a b:Bool}(q:Q (.bl (a == b)) H):cO K (.bl a) (.bl b) H Q:=nF (kb.mpr rfl) (kb.mpr rfl) ((Mi a).shaped (by decide)) ((Mi b).shaped (by decide)) (by rw[zyG];exact q)
theorem zCt{k:Int}(h:H l=some (.lst xs))(h0 : -1000<=k)(h1:k<=1000)(z:xs.length*k.toNat<=1000)(q:∀p H',H p=none->ah H H'->H' p=some (.lst (vc k.toNat xs).flatten)->Q (.ref p) H'):rL (.ref l) (.int k) H Q :=
 ⟨l,k,xs,rfl,rfl,h,by lia,by lia,by have:=jo z;lia,λp hp=>q p _ hp (ah.upd hp) cX⟩
theorem ak.Ky{d:wC}(h:Is K H v d):∀n:Nat,ak K H (vc n v) (vc n d)
 | 0=>.nil
 | n+1=>.cons h (ak.Ky h n)
end
theorem lM{K:wb}{H:Hp}{Q:VK}{v:V}{ds:List wC}{d:wC}(h:Is K H v (.list (ds++[d])))(q:∀x,Is K H x d->Q x H):dy K v (.int (-1)) H Q:=by
 obtain⟨a,xs,rfl,hs,t⟩:=cF.mp h;have hl:=t.length;rw[wR,vV]at hl;obtain⟨x,e1,hx⟩:=t.get (i:=ds.length) (d:=d) (by rw[vi (wo _),Vf];rfl);exact iQ hs (CS (by rw[hl];exact e1)) (q x hx)
def Dx(K:wb):List V->Hp->VK->Prop:=λxs H Q=>∃(p:we)(bs:List Bool),xs=[.ref p]/\aQ K H p (bs.map V.bl)/\Q (.bl (bs.any id)) H
theorem zDI:vN "any"=some (.builtin "any"):=by decide +kernel
theorem zub(bs:List Bool):((wt bs.length).any λi=>(bs[i]?).getD true)=bs.any id:=by
 rw[vL,uB,uB]
 constructor
 ·rintro ⟨i,hi,h⟩
  rw[wH]at hi;rw[wc hi]at h;exact⟨bs[i],vK hi,h⟩
 ·rintro ⟨b,hb,h⟩
  obtain⟨i,hi,rfl⟩:=wX hb;exact⟨i,wH.mpr hi,by rw[wc hi];exact h⟩
open PyProof.V PySem.Calls in
theorem zwT{X:Cx}(hc:X.calm=true):aK X (.builtin "any") (Dx X.K):=by
 intro pins s σ H xs us Q I r h;obtain⟨p,bs,rfl,hq,q⟩:=h;obtain⟨u,rfl,rx⟩:=gY r;cases rx;obtain⟨its,r',pl,hz⟩:=I.list hq;have hi:its=bs.map Value.bool:=Ol r';have hl:s.heap.IsList p its.toArray:=pl.isList;have hlt:p<s.heap.objs.size:=by obtain⟨_,e,_⟩:=hl;exact wD e
 refine call_any_walk (qz hl ?_)
 refine⟨s.heap.objs.size,[s.heap.objs.size,p],[s.heap.objs.size],its.toArray.size,_,_,λi=>(bs[i]?).getD true,rfl,uQ (A:=X.A.in1) (I.ok.hd hc) _ p (wQ hlt) its.toArray,
  ⟨⟨_,wN _ rfl,rfl,rfl⟩,hl.push _⟩,λi v s' Q' E' hP hQ=>?_,λh' tk hk=>?_⟩
 ·have hP:its.toArray[i]? = some v:=hP
  rw[hi]at hP;simp only[Xa,wu,Vs]at hP;obtain⟨b,e,rfl⟩:=hP;simp only[e,Qw]at hQ;exact Wo hQ
 ·have e:((wt its.toArray.size).any λi=>(bs[i]?).getD true)=bs.any id:=by
   rw[wO,hi,wm];exact zub bs
  rw[e];exact⟨.bl (bs.any id),H,I.kept (t':=tk) (λb x e=>hk b x (λhm=>by rw[w6.mp hm]at e;exact Vj _ (wD e)) (wn _ e)),rfl,q⟩
theorem zAX{K:wb}{H:Hp}{Q:VK}{p:we}{bs:List Bool}(h:aQ K H p (bs.map V.bl))(q:Q (.bl (bs.any id)) H):Dx K [.ref p] H Q:=⟨p,bs,rfl,h,q⟩
def B3(K:wb):List V->Hp->VK->Prop:=λxs H Q=>∃(p:we)(ns:List Int),xs=[.ref p]/\aQ K H p (ns.map V.int)/\Q (.int ns.sum) H
section
open PyProof.V PySem.Calls PySem.W
variable{prog:wI}{w:wJ}{A:vb}{E:wg->wl->Prop}{s:wl}
theorem zAP{t:we}{xs:Array (Int × Tok)}{Q:wg->wl->Prop}(hh:A.handled=none)(ht:s.heap.IsList t (intItems xs))
  (h:∀h' tk t',(∀b o,s.heap.get? b=some o->h'.get? b=some o)->Q (.int (preSum (numAt xs) xs.size) t') {s with heap:=h',toks:=tk}) :
  wx (model prog w) A (call (.builtin "sum") [.ref t]) Q E s:=by
 obtain⟨o,ho,hc,n,hd⟩:=id ht;have hne:t≠s.heap.objs.size:=wQ (wD ho);have hsz:(intItems xs).size=xs.size:=by simp[intItems]
 have W:=(uQ (prog:=prog) (w:=w) (A:=A.in1) hh s.heap.objs.size t hne (intItems xs)).toS;rw[hsz]at W;refine call_sum_walkAnyS (qz ht ?_);refine⟨s.heap.objs.size,_,_,_,_,_,_,numAt xs,rfl,W,⟨⟨_,wN _ rfl,rfl,rfl⟩,ht.at λo e=>wn _ e⟩,λb hb=>?_,λi v hP=>intItems_at hP,λs' t' hm=>?_⟩
 ·rcases wF.mp hb with rfl | hb
  ·exact wD (wN _ rfl)
  ·obtain rfl:=w6.mp hb
   exact wD (wn _ ho)
 ·obtain⟨h',g',d',tk',os'⟩:=s'
  have e1:g'=s.gens:=hm.gens;have e2:d'=s.drawn:=hm.drawn;have e3:os'=s.os:=hm.os;subst e1 e2 e3;exact h h' tk' t' λb o e=>hm.heap b o (λhb=>absurd (wD e) ((w6.mp hb) ▸ Vj _)) (wn _ e)
theorem zt9{X:Cx}(hc:X.calm=true):aK X (.builtin "sum") (B3 X.K):=by
 intro pins s σ H xs us Q I r h;obtain⟨p,ns,rfl,hq,q⟩:=h;obtain⟨u,rfl,rx⟩:=gY r;cases rx;obtain⟨its,r',pl,hz⟩:=I.list hq;have hI:=sZ r';have hT:s.heap.IsList p its.toArray:=pl.isList;obtain⟨zs,hx⟩:=hI.allInts.items;have hn:numsOf its.toArray.toList=ns:=by rw[show its.toArray.toList=its from rfl,hI.numsOf]
 rw[hx]at hT hn;rw[nums_intItems]at hn;refine zAP (I.ok.hd hc) hT λh' tk t' hk=>?_
 rw[preSum_eq,WF (by simp),hn];exact⟨.int ns.sum,H,I.kept (t':=tk) hk,⟨_,rfl⟩,q⟩
end
theorem zAS{K:wb}{H:Hp}{Q:VK}{p:we}{ns:List Int}(h:aQ K H p (ns.map V.int))(q:Q (.int ns.sum) H):B3 K [.ref p] H Q:=⟨p,ns,rfl,h,q⟩
abbrev Mz(h:wG)(a:we):wG:=h.push {cls:=.type "tuple_iterator",data:=.fields #[.ref a,.int 0 0]}
abbrev Sk(h:wG)(a b:we):wG:=(Mz h a).push {cls:=.type "list_iterator",data:=.fields #[.ref b,.int 0 0]}
abbrev Pl(h:wG)(a b:we):wG:=(Sk h a b).push {cls:=.type "tuple",data:=.seq #[.ref h.objs.size,.ref (Mz h a).objs.size]}
abbrev zM4(h:wG)(a b:we):wG:=(Pl h a b).push {cls:=.type "tuple",data:=.seq #[.none,.none]}
abbrev zM5(h:wG)(a b:we):wG:=(zM4 h a b).push {cls:=.type "zip",data:=.fields #[.none,.bool false,.bool false,.ref (Sk h a b).objs.size,.ref (Pl h a b).objs.size]}
section
variable{prog:wI}{w:wJ}{A:vb}{E:wg->wl->Prop}{s:wl}
end
theorem zxk{K:wb}{H:Hp}{Q:VK}{v:V}{ds:List wC}(h:Is K H v (.list ds)\/Is K H v (.tuple ds))(q:∀l H' ys,H l=none->ah H H'->H' l=some (.lst ys)->ak K H' ys ds->Q (.ref l) H'):jZ K [v] H Q:=by
 rcases h with h | h
 ·exact N_ h q
 ·exact A6 h q
def UW(K:wb)(G:wg)(tb:(St->XK)->TS)(th:TS):TS:=λD σ H=>∃W:St->XK,tb W D σ H /\ ∀σ' C o H',W σ' C o H'->qF K C G=some true/\th D σ' H'
section
variable{X:Cx}{x:Str}{G:wg}{b₀ : w9}{body suite:List w9}{np hpos pos:Pos}{tb:(St->XK)->TS}{th:TS}
theorem Mf(hs:X.stack=X.env::X.outer)(hf:X.env.frame=some X.env.locals)(hg:Gl X x)(hG:X.mg x=some G)
  (hb:∀(W:St->XK)(pn:List (we × Obj))(E':wg->wl->Prop),SS (fc X.prog X.w) (X.at pn E') W->fM (X.at pn E') body (tb W))
  (hh:∀(pn:List (we × Obj))(ex:we)(oe:Obj),fM (X.sN pn ex oe) (b₀ :: suite) th) (hdb:(x == ("__debug__" : Str))=false:=by decide) :
  PS X (.Try body [.ExceptHandler (some (.Name x np)) none (b₀ :: suite) hpos] [] [] pos) (UW X.K G tb th):=by
 intro pins s σ H D I h;obtain⟨W,hB,hH⟩:=h;refine wpAny_Try_except ?_;have I':=I.Zg λe s1=>∃σ1 H1 s0,Inv X pins σ1 H1 s0/\fc X.prog X.w X.stack H1 s0 (W σ1) e s1
 have key:=hb W (X.pn++pins) (λe s1=>∃σ1 H1 s0,Inv X pins σ1 H1 s0/\fc X.prog X.w X.stack H1 s0 (W σ1) e s1) (λpins1 σ1 H1 s0 e s1 I1 q=>⟨σ1,H1,s0,I1.oV,q⟩) [] s σ H D I' hB;refine WB key (λf s1 hq=>?_) λe s1 he=>?_
 ·cases f with
  | next=>obtain⟨σ',H',J,q⟩:=hq;exact qS ⟨σ',H',J.oV,q⟩
  | brk=>obtain⟨σ',H',J,q⟩:=hq;exact⟨σ',H',J.oV,q⟩
  | cont=>obtain⟨σ',H',J,q⟩:=hq;exact⟨σ',H',J.oV,q⟩
  | ret u=>obtain⟨v,σ',H',J,r,q⟩:=hq;exact⟨v,σ',H',J.oV,r,q⟩
 obtain⟨σ1,H1,s0,I1,ex,C,H',B,rfl,os,bare,un,aI,F,ov,q⟩:=he;obtain⟨hm,hS⟩:=hH σ1 C none H' q;have hfs:∀b∈dZ X.stack,H1 b=none /\ ∃o,s0.heap.get? b=some o /\ ∀vs,o.data≠.fields vs:=λb hb=>⟨I1.sF b hb,(I1.stack.mem hb).2⟩
 have hfr:=I.ok.frames.trans (congrArg some hs)
 have hex:H' ex=none:=by
  obtain⟨_,_,_,_,_,_,_,_,_,_,_,_,_,be,_⟩:=F;cases z:H' ex with
  | none=>rfl
  | some o =>
   obtain⟨u,e1⟩:=ov.iP ex o z;rw[be]at e1;cases e1
 have st1:=F.st;rw[hs]at F
 have exc:∀{h4:wG},fC B (X.env::X.outer) ex C .none h4->s1.heap.UpToSlots h4->∃oe,h4.get? ex=some oe/\NM C oe/\Inv (X.sN (X.pn++pins) ex oe) [] σ1 H' {s1 with heap:=h4}:=λ{h4} F4 sm=>by
  have J:Inv X pins σ1 H' {s1 with heap:=h4}:=I1.Kr (s':={s1 with heap:=h4}) (ch:=[]) os (ov.un un hfs F4.st sm) (ov.aI aI st1 F4.st) bare (λ_ z=>nomatch z);obtain⟨_,_,oe,vs,T,oT,ts,he,hc,hd,h1,h2,hdi,_⟩:=F4;refine⟨oe,he,⟨hc,⟨vs,hd,h2⟩,hdi⟩,J.Y5 he hex (λz=>?_) (λz=>?_) λv z=>?_⟩
  ·obtain⟨m,⟨o,es,ep,ho,hdd,_⟩,_⟩:=J.loc
   rw[<- z]at ho;have:(some oe:Option Obj)=some o:=he.symm.trans ho;cases this;rw[hd]at hdd;cases hdd
  ·obtain⟨_,o,ho,nr⟩:=J.fi.mem z
   have:(some oe:Option Obj)=some o:=he.symm.trans ho;cases this;exact nr vs hd
  ·rw[hd]at z;cases z
 refine F.note hfr hf λh2 F2 sm2=>F2.land λh3 F3 sm3=>?_
 obtain⟨oe3,g3,x3,K3⟩:=exc F3 (sm2.trans sm3);refine wpAny_handleBy_cons (codeAny_handlers_test (rF K3 hg hG ?_ hdb)) (by intro z;cases z);have LT:PySem.W.Looks (model X.prog X.w) h3 (typeOf (.ref ex)) C:=x3.cls ▸ (Uy g3).andThen .now;refine(PySem.W.exm_one (h:=h3) K3.dW LT hm).here ?_;refine codeAny_handlers_suite ?_;refine F3.land λh4 F4 sm4=>?_
 obtain⟨oe,g4,x4,K4⟩:=exc F4 ((sm2.trans sm3).trans sm4);refine WB (hh _ ex oe [] _ _ H' _ K4 hS) (λf s6 h6=>?_) λ_ _ z=>z.elim
 cases f with
 | next=>obtain⟨σ',H6,J,q6⟩:=h6;exact⟨_,H6,J.sM I.ok,q6⟩
 | brk=>obtain⟨σ',H6,J,q6⟩:=h6;exact⟨_,H6,J.sM I.ok,q6⟩
 | cont=>obtain⟨σ',H6,J,q6⟩:=h6;exact⟨_,H6,J.sM I.ok,q6⟩
 | ret u=>obtain⟨v,σ',H6,J,r,q6⟩:=h6;exact⟨v,_,H6,J.sM I.ok,r,q6⟩
end
theorem Nv{K:wb}{σ : St}{H:Hp}{D:cv}{G:wg}{tb:(St->XK)->TS}{th:TS}(W:St->XK)(h:tb W D σ H)(k:∀σ' C o H',W σ' C o H'->qF K C G=some true/\th D σ' H'):UW K G tb th D σ H:=⟨W,h,k⟩
theorem kh{K:wb}{H:Hp}{Q:VK}(s t:String)(r:Bool)(e:wY (.str (vW s)) (.str (vW t))=r)(q:Q (.bl r) H):cO K (.str (vW s)) (.str (vW t)) H Q :=
 nF (d:=.str (vW s)) (e:=.str (vW t)) (eX.mpr rfl) (eX.mpr rfl) (Ds s) (Ds t) (by rw[e];exact q)
theorem LD:vN "set"=some (.type "set"):=by decide +kernel
section
variable{K:wb}{H:Hp}{Q:VK}{p:we}{ns:List Int}
end
def LW(ws:List (List Nat)):wC:=.list (ws.map TW)
abbrev Sb(h:wG)(a:we):wG:=h.push {cls:=.type "list_iterator",data:=.fields #[.ref a,.int 0 0]}
abbrev Sf(h:wG)(a b:we):wG:=(Sb h a).push {cls:=.type "tuple_iterator",data:=.fields #[.ref b,.int 0 0]}
abbrev Ob(h:wG)(a b:we):wG:=(Sf h a b).push {cls:=.type "tuple",data:=.seq #[.ref h.objs.size,.ref (Sb h a).objs.size]}
abbrev zN4(h:wG)(a b:we):wG:=(Ob h a b).push {cls:=.type "tuple",data:=.seq #[.none,.none]}
abbrev zN5(h:wG)(a b:we):wG:=(zN4 h a b).push {cls:=.type "zip",data:=.fields #[.none,.bool false,.bool false,.ref (Sf h a b).objs.size,.ref (Ob h a b).objs.size]}
section
variable{prog:wI}{w:wJ}{A:vb}{E:wg->wl->Prop}{s:wl}
end
end L2
namespace TB
open PySem
def kA(xs:Array Nat):Prop:=∀i j,i<j->j<xs.size->xs.getD i 0<xs.getD j 0
theorem zyR{xs:Array Nat}{i:Nat}(h:i<xs.size)(d e:Nat):xs.getD i d=xs.getD i e:=by
 simp[uR,h]
theorem Gk(xs:Array Nat)(j:Nat)(R:kA xs):∀(fuel lo hi:Nat),hi<=xs.size->lo<=hi->hi-lo<=fuel->(∀k,k<lo->xs.getD k 0<j)->(∀k,hi<=k->k<xs.size->j<=xs.getD k 0) ->
  (Qq xs j fuel lo hi<=xs.size/\(∀k,k<Qq xs j fuel lo hi->xs.getD k 0<j)/\(∀k,Qq xs j fuel lo hi<=k->k<xs.size->j<=xs.getD k 0))
 | 0,lo,hi,h1,h2,h3,a,b=>by
  have:lo=hi:=by lia
  subst this;exact⟨h1,a,b⟩
 | fuel+1,lo,hi,h1,h2,h3,a,b=>by
  unfold Qq
  by_cases c:lo<hi
  ·rw[if_pos c]
   have m1:(lo+hi) / 2<hi:=by lia
   have m2:lo<=(lo+hi) / 2:=by lia
   dsimp only;rw[zyR (wV m1 h1) j 0]
   by_cases d:xs.getD ((lo+hi) / 2) 0<j
   ·rw[if_pos d]
    refine Gk xs j R fuel _ hi h1 m1 (by lia) (λk hk=>?_) b;rcases wA k ((lo+hi) / 2)with q | q
    ·exact XE (R k _ q (by lia)) d
    ·have:k=(lo+hi) / 2:=by lia
     rw[this];exact d
   ·rw[if_neg d]
    refine Gk xs j R fuel lo _ (by lia) m2 (by lia) a (λk hk hk'=>?_);rcases Vb hk with q | q
    ·rw[<- q];lia
    ·have:=R _ k q hk';lia
  ·rw[if_neg c]
   have:lo=hi:=by lia
   subst this;exact⟨h1,a,b⟩
theorem TU{xs:Array Nat}(R:kA xs)(j:Nat):WG xs j<=xs.size/\(∀k,k<WG xs j->xs.getD k 0<j)/\(∀k,WG xs j<=k->k<xs.size->j<=xs.getD k 0) :=
 Gk xs j R xs.size 0 xs.size (wo _) (Wm _) (by lia) (λk h=>absurd h (WI k)) (λk h h'=>absurd h' (by lia))
theorem Z8{xs:Array Nat}{i:Nat}(h:i<xs.size):xs[i]? = some (xs.getD i 0):=by simp[uR,h]
theorem Ma{t:Ws}(R:kA t.place)(D:t.dummies = #[])(j:Nat) :
  (∃i,i<t.place.size/\t.place.getD i 0=j/\t.slot j=.live i)\/((∀i,i<t.place.size->t.place.getD i 0≠j)/\t.slot j=.empty):=by
 obtain⟨h1,h2,h3⟩:=TU R j;unfold SetTable.slot;dsimp only;have hd:XN t.dummies j=false:=by rw[D];rfl
 rw[hd];rcases wA (WG t.place j) t.place.size with q | q
 ·rw[Z8 q]
  by_cases e:t.place.getD (WG t.place j) 0=j
  ·exact .inl ⟨_,q,e,by simp[e]⟩
  ·refine .inr ⟨λi hi he=>?_,by generalize t.place.getD (WG t.place j) 0=z at e;simp[e]⟩
   rcases wA i (WG t.place j)with a | a
   ·have:=h2 i a;lia
   ·rcases Vb a with b | b
    ·rw[<- b]at he;exact e he
    ·have:=R _ i b hi
     have:=h3 _ (wo _) q
     lia
 ·have:t.place[WG t.place j]? = none:=Vv q
  rw[this];refine .inr ⟨λi hi he=>?_,by simp⟩;have:=h2 i (by lia);lia
def g(x:Nat):Nat:=x*5+1
def it(n x:Nat):Nat:=match n with | 0=>x | n+1=>g (it n x)
def s:Nat->Nat | 0=>0 | n+1=>5*s n+1
theorem MU(n:Nat):5^n=4*s n+1:=by
 induction n with
 | zero=>rfl
 | succ n ih=>rw[WY,ih];show _=4*(5*s n+1)+1;lia
theorem zD4(n x:Nat):it n x=5^n*x+s n:=by
 induction n with
 | zero=>show x=5^0*x+0;simp
 | succ n ih =>
  show g (it n x)=5^(n+1)*x+(5*s n+1)
  rw[ih,WY];unfold g;rw[W3,X7 (5^n) 5 x];lia
theorem zCR(m n x:Nat):it (m+n) x=it m (it n x):=by
 induction m with
 | zero=>rw[QG];rfl
 | succ m ih=>rw[Nat.succ_add];show g (it (m+n) x)=g (it m (it n x));rw[ih]
theorem zEt(m n:Nat):s (m+n)=5^m*s n+s m:=by
 induction m with
 | zero=>simp[s]
 | succ m ih =>
  rw[Nat.succ_add]
  show 5*s (m+n)+1=5^(m+1)*s n+(5*s m+1)
  rw[ih,WY,W3,X7 (5^m) 5];lia
theorem zEg(k:Nat):∃o,s (2^k)=2^k*(2*o+1):=by
 induction k with
 | zero=>exact⟨0,rfl⟩
 | succ k ih =>
  obtain⟨o,ho⟩:=ih
  have e:s (2^(k+1))=2^(k+1)*((2*o+1)*(2*s (2^k)+1)):=by
   have:2^(k+1)=2^k+2^k:=by rw[WY];lia
   rw[this,zEt,MU];generalize hs:s (2^k)=S at *
   have h2:(2^k+2^k)*((2*o+1)*(2*S+1))=2*(2^k*(2*o+1))*(2*S+1):=by
    rw[<- Nat.two_mul,<- W3,W3 2]
   rw[h2,<- ho];generalize S*S=z at *;have:(4*S+1)*S=4*(S*S)+S:=by rw[ug,W3,uh]
   rw[this]
   have:2*S*(2*S+1)=4*(S*S)+2*S:=by
    rw[QX,Nat.mul_one,Nat.mul_mul_mul_comm]
   rw[this];lia
  refine⟨o*(2*s (2^k)+1)+s (2^k),?_⟩;rw[e]
  congr 1
  rw[ug,uh,W3]
  lia
theorem zEr(M c a:Nat):(4*(M*c)+1)*a+M*c=a+M*(c*(4*a+1)):=by
 rw[ug,uh,QX c,Nat.mul_one,QX M];have:4*(M*c)*a=M*(c*(4*a)):=by rw[V5 4,W3,W3]
 lia
theorem zEB(k:Nat):∀x y:Nat,∃n,n<2^k/\it n x % 2^k=y % 2^k:=by
 induction k with
 | zero=>intro x y;exact⟨0,by decide,by simp[Nat.mod_one]⟩
 | succ k ih =>
  intro x y;obtain⟨n,hn,e⟩:=ih x y;have hp:0<2^k:=Nat.pow_pos (by decide);have h2:2^(k+1)=2^k*2:=WY ..;obtain⟨o,ho⟩:=zEg k;generalize hM:2^k=M at *;rw[h2]
  by_cases c:it n x / M % 2=y / M % 2
  ·refine⟨n,by lia,?_⟩
   rw[xT,xT,e,c]
  ·refine⟨M+n,by lia,?_⟩
   rw[zCR,zD4,MU,ho];generalize it n x=a at *;rw[zEr,xT,xT,Nat.add_mul_mod_self_left,e,Nat.add_mul_div_left _ _ hp]
   have:(2*o+1)*(4*a+1) % 2=1:=by
    rw[ui];have h1:(2*o+1) % 2=1:=by lia
    have h2:(4*a+1) % 2=1:=by lia
    rw[h1,h2]
   congr 2
   lia
open SetTable (Probe leap runEnd bits turns)
variable{i j k mask n p:Nat}{t:Ws}{hs:List Int}{α:Type}{ow:Array (Option Nat)}
def iB(mask:Nat)(p:Probe):Probe :=
 if p.more > 0 then {p with j:=p.j+1,more:=p.more-1}else
 {p with j:=(leap mask p.i p.perturb).1,more:=runEnd mask (leap mask p.i p.perturb).1-(leap mask p.i p.perturb).1,i:=(leap mask p.i p.perturb).1,perturb:=(leap mask p.i p.perturb).2}
def way(mask:Nat)(p:Probe):Nat->Probe | 0=>p | n+1=>iB mask (way mask p n)
def iG(mask i b:Nat):Probe:={j:=i,more:=runEnd mask i-i,i:=i,perturb:=b,dummy:=none}
def start(mask:Nat)(h:Int):Probe:=iG mask (bits h % (mask+1)) (bits h)
def lp(mask i b:Nat):Nat->Nat × Nat | 0=>(i,b) | n+1=>leap mask (lp mask i b n).1 (lp mask i b n).2
theorem t9(mask:Nat)(p:Probe)(m:Nat):∀n,way mask p (m+n)=way mask (way mask p m) n
 | 0=>rfl
 | n+1=>by show iB mask (way mask p (m+n))=iB mask (way mask (way mask p m) n);rw[t9 mask p m n]
theorem UX(mask:Nat)(p:Probe):∀n,(way mask p n).dummy=p.dummy
 | 0=>rfl
 | n+1=>by
  show(iB mask (way mask p n)).dummy=p.dummy
  rw[<- UX mask p n];unfold iB;split<;>rfl
theorem rq(mask i b:Nat):∀n,n<=runEnd mask i-i->way mask (iG mask i b) n = {j:=i+n,more:=runEnd mask i-i-n,i:=i,perturb:=b,dummy:=none}
 | 0,_=>rfl
 | n+1,h=>by
  show iB mask (way mask (iG mask i b) n)=_
  rw[rq mask i b n (by lia)];unfold iB;dsimp only;rw[if_pos (by lia)]
  congr 1
theorem Es(mask i b:Nat):way mask (iG mask i b) (runEnd mask i-i+1)=iG mask (leap mask i b).1 (leap mask i b).2:=by
 show iB mask (way mask (iG mask i b) (runEnd mask i-i))=_
 rw[rq mask i b _ (wo _)];unfold iB;dsimp only;rw[if_neg (by lia)]
 rfl
theorem ZD(mask i:Nat):runEnd mask i-i<=9:=by unfold runEnd;split<;>lia
theorem Lq(mask i b:Nat):∀m,∃n,n<=10*m/\way mask (iG mask i b) n=iG mask (lp mask i b m).1 (lp mask i b m).2
 | 0=>⟨0,wo _,rfl⟩
 | m+1=>by
  obtain⟨n,hn,e⟩:=Lq mask i b m;have:=ZD mask (lp mask i b m).1;refine⟨n+(runEnd mask (lp mask i b m).1-(lp mask i b m).1+1),by lia,?_⟩;rw[t9,e,Es];rfl
theorem PV(mask i b:Nat):∀n,(lp mask i b n).2=b / 32^n
 | 0=>by simp[lp]
 | n+1=>by
  show(lp mask i b n).2 / 32=_
  rw[PV mask i b n,WY,xU]
theorem OR(mask i b c:Nat)(h:b / 32^c=0):∀n,(lp mask i b (c+1+n)).1=it n (lp mask i b (c+1)).1 % (mask+1)
 | 0=>by
  show(lp mask i b (c+1)).1=(lp mask i b (c+1)).1 % (mask+1)
  show _ % _=_ % _ % _
  rw[Nat.mod_mod]
 | n+1=>by
  show((lp mask i b (c+1+n)).1*5+1+(lp mask i b (c+1+n)).2 / 32) % (mask+1)=g (it n _) % _
  have:(lp mask i b (c+1+n)).2 / 32=0:=by
   rw[PV]
   have:b / 32^(c+1+n)=0:=by
    rw[WS,QV,<- xU,h,Nat.zero_div]
   rw[this]
  rw[this,OR mask i b c h n];unfold g;rw[XG,Nat.add_mod,ui,Nat.mod_mod,<- ui,<- Nat.add_mod]
theorem Rt(h:Int):bits h<2^64:=by unfold bits;lia
theorem Sj(hm:mask+1=2^k){b:Nat}(hb:b<2^64)(hj:j<=mask):∃m,m<=mask+14/\(lp mask i b m).1=j:=by
 have h0:b / 32^13=0:=Nat.div_eq_of_lt (wV hb (by decide));obtain⟨n,hn,e⟩:=zEB k (lp mask i b 14).1 j;refine⟨13+1+n,by lia,?_⟩;rw[OR mask i b 13 h0,hm,e,xp (by lia)]
theorem zwM(hm:mask+1=2^k){b:Nat}(hb:b<2^64)(hj:j<=mask):∃n,n<10*turns mask/\(way mask (iG mask i b) n).j=j:=by
 obtain⟨m,hm',e⟩:=Sj hm (i:=i) hb hj;obtain⟨n,hn,e'⟩:=Lq mask i b m;refine⟨n,by unfold turns;lia,?_⟩;rw[e'];exact e
theorem DX(h:i<=mask):i<=runEnd mask i/\runEnd mask i<=mask:=by unfold runEnd;split<;>lia
theorem Ou{mask:Nat}{p:Probe}(h:p.j+p.more<=mask):∀n,(way mask p n).j+(way mask p n).more<=mask
 | 0=>h
 | n+1=>by
  have ih:=Ou h n
  show(iB mask (way mask p n)).j+(iB mask (way mask p n)).more<=mask
  unfold iB
  split
  ·dsimp only;lia
  ·dsimp only
   have:(leap mask (way mask p n).i (way mask p n).perturb).1<=mask:=by
    unfold leap;dsimp only;exact VQ (qm _ (QE _))
   have:=DX this
   lia
theorem zzx(mask:Nat)(h:Int)(n:Nat):(way mask (start mask h) n).j<=mask:=by
 have h1:bits h % (mask+1)<=mask:=VQ (qm _ (QE _));have h2:=DX h1;have:=Ou (mask:=mask) (p:=start mask h) (by unfold start iG;dsimp only;lia) n
 lia
def In(t:Ws)(j:Nat):Prop:=∃i,i<t.place.size/\t.place.getD i 0=j
structure Tb(t:Ws)(hs:List Int):Prop where
 jk:kA t.place
 size:t.place.size=hs.length
 nU:t.dummies = #[]
 two:∃k,3<=k/\t.mask+1=2^k
 le:∀i,i<t.place.size->t.place.getD i 0<=t.mask
 room:t.place.size<=t.mask
 path:∀i,i<t.place.size->∃n,(way t.mask (start t.mask (hs.getD i 0)) n).j=t.place.getD i 0 /\ ∀m,m<n->In t (way t.mask (start t.mask (hs.getD i 0)) m).j
theorem zEb{P:Nat->Prop}(h:P n):∃m,m<=n/\P m /\ ∀k,k<m->¬ P k:=by
 induction n using uS with
 | _ n ih =>
  by_cases c:∃k,k<n/\P k
  ·obtain⟨k,hk,hp⟩:=c
   obtain⟨m,h1,h2,h3⟩:=ih k hk hp;exact⟨m,by lia,h2,h3⟩
  ·exact⟨n,wo _,h,λk hk hp=>c ⟨k,hk,hp⟩⟩
theorem B4{xs:Array Nat}(R:kA xs)(hi:i<xs.size)(hj:j<xs.size)(e:xs.getD i 0=xs.getD j 0):i=j:=by
 rcases WU i j with q | q | q
 ·have:=R i j q hj;lia
 ·exact q
 ·have:=R j i q hi;lia
theorem So{t:Ws}(R:kA t.place):∀j,(∀j',j'<=j->In t j')->∃i,i<t.place.size/\t.place.getD i 0=j/\j<=i
 | 0,h=>by obtain⟨i,hi,e⟩:=h 0 (wo _);exact⟨i,hi,e,Wm _⟩
 | j+1,h=>by
  obtain⟨i,hi,e,hle⟩:=So R j λj' hj'=>h j' (by lia)
  obtain⟨i',hi',e'⟩:=h (j+1) (wo _);refine⟨i',hi',e',?_⟩;rcases WU i i' with q | q | q
  ·lia
  ·subst q;lia
  ·have:=R i' i q hi;lia
theorem Tb.gap(b:Tb t hs):∃j,j<=t.mask /\ ¬ In t j:=by
 refine VX λc=>?_
 obtain⟨i,hi,e,hle⟩:=So b.jk t.place.size λj' hj'=>VX λd=>c ⟨j',Wa hj' b.room,d⟩
 lia
theorem Tb.free(b:Tb t hs)(h:Int):∃n,n<10*turns t.mask /\ ¬ In t (way t.mask (start t.mask h) n).j /\ ∀m,m<n->In t (way t.mask (start t.mask h) m).j:=by
 obtain⟨j,hj,hn⟩:=b.gap;obtain⟨k,_,hk⟩:=b.two;obtain⟨n,hn',e⟩:=zwM hk (i:=bits h % (t.mask+1)) (Rt h) hj;obtain⟨m,h1,h2,h3⟩:=zEb (P:=λn=>¬ In t (way t.mask (start t.mask h) n).j) (n:=n) (by show ¬ In t _;unfold start;rw[e];exact hn);exact⟨m,by lia,h2,λk hk=>VX (h3 k hk)⟩
theorem PH{t:Ws}(R:kA t.place)(D:t.dummies = #[])(hashAt:Nat->Int)(h:Int){p:Probe}(dm:p.dummy=none){n0:Nat}(hE:¬ In t (way t.mask p n0).j)(hF:∀m,m<n0->In t (way t.mask p m).j) :
  ∀fuel n,n<=n0->n0-n<fuel ->
   (∃m i,n<=m/\m<n0/\i<t.place.size/\t.place.getD i 0=(way t.mask p m).j/\hashAt i=h/\(∀k,n<=k->k<m->∀i',i'<t.place.size->t.place.getD i' 0=(way t.mask p k).j->hashAt i'≠h) /\
    xb t hashAt h fuel (way t.mask p n)=some (.candidate (way t.mask p m).j i (way t.mask p (m+1)))) \/
   ((∀k,n<=k->k<n0->∀i',i'<t.place.size->t.place.getD i' 0=(way t.mask p k).j->hashAt i'≠h) /\
    xb t hashAt h fuel (way t.mask p n)=some (.empty (way t.mask p n0).j none))
 | 0,n,_,hf=>absurd hf (WI _)
 | fuel+1,n,hn,hf=>by
  unfold xb;rcases Ma R D (way t.mask p n).j with⟨i,hi,e,es⟩ | ⟨no,es⟩
  ·rw[es]
   dsimp only
   have hlt:n<n0:=by
    rcases wA n n0 with q | q
    ·exact q
    ·have:n=n0:=by lia
     subst this;exact absurd ⟨i,hi,e⟩ hE
   by_cases c:hashAt i=h
   ·rw[if_pos (by simpa using c)]
    exact .inl ⟨n,i,wo _,hlt,hi,e,c,λk h1 h2=>absurd h1 (by lia),rfl⟩
   ·rw[if_neg (by simpa using c)]
    have here:∀i',i'<t.place.size->t.place.getD i' 0=(way t.mask p n).j->hashAt i'≠h:=λi' hi' e'=>by
     rw[B4 R hi' hi (e'.trans e.symm)];exact c
    rcases PH R D hashAt h dm hE hF fuel (n+1) hlt (by lia)with⟨m,i2,a1,a2,a3,a4,a5,a6,a7⟩ | ⟨a1,a2⟩
    ·refine .inl ⟨m,i2,by lia,a2,a3,a4,a5,λk h1 h2 i' hi' e'=>?_,a7⟩
     rcases Vb h1 with q | q
     ·subst q;exact here i' hi' e'
     ·exact a6 k q h2 i' hi' e'
    ·refine .inr ⟨λk h1 h2 i' hi' e'=>?_,a2⟩
     rcases Vb h1 with q | q
     ·subst q;exact here i' hi' e'
     ·exact a1 k q h2 i' hi' e'
  ·rw[es]
   dsimp only
   have:n=n0:=by
    rcases wA n n0 with q | q
    ·obtain⟨i,hi,e⟩:=hF n q
     exact absurd e (no i hi)
    ·lia
   subst this;refine .inr ⟨λk h1 h2=>absurd h1 (by lia),?_⟩;rw[UX,dm]
def eD{α : Type}(l:List α)(p:Nat)(x : α):List α:=l.take p++x::l.drop p
theorem zl{l:List α}(x : α)(hp:p<=l.length)(i:Nat):(eD l p x)[i]? = if i<p then l[i]? else if i=p then some x else l[i-1]?:=by
 unfold eD;have hl:(l.take p).length=p:=by rw[Wq];lia
 by_cases a:i<p
 ·rw[if_pos a,vI (by lia),xk a]
 ·rw[if_neg a,vi (by lia),hl]
  by_cases b:i=p
  ·rw[if_pos b,b,Vf];rfl
  ·rw[if_neg b]
   have:i-p=(i-1-p)+1:=by lia
   rw[this,Qm,Q0]
   congr 1;lia
theorem rg{l:List α}(x : α)(hp:p<=l.length):(eD l p x).length=l.length+1:=by
 unfold eD;rw[wR,Wq,vo,vR];lia
theorem rh(xs:Array α)(p:Nat)(x : α):(Wn xs p x).toList=eD xs.toList p x:=by
 unfold Wn eD;simp;exact WF (by simp)
theorem oo{xs:Array Nat}(x:Nat)(hp:p<=xs.size)(i:Nat):(Wn xs p x).getD i 0=if i<p then xs.getD i 0 else if i=p then x else xs.getD (i-1) 0:=by
 rw[vC,<- Wy,rh,zl x (by simpa using hp)]
 split
 ·rw[vC,<- Wy]
 ·split
  ·rfl
  ·rw[vC,<- Wy]
theorem Mq{xs:Array Nat}(x:Nat)(hp:p<=xs.size):(Wn xs p x).size=xs.size+1:=by
 rw[<- wK,rh,rg x (by simpa using hp),wK]
theorem zwA{l:List Int}(x:Int)(hp:p<=l.length)(i:Nat):(eD l p x).getD i 0=if i<p then l.getD i 0 else if i=p then x else l.getD (i-1) 0:=by
 rw[wa,zl x hp]
 split
 ·rw[wa]
 ·split
  ·rfl
  ·rw[wa]
theorem Tb.put(b:Tb t hs){h:Int}(hE:¬ In t (way t.mask (start t.mask h) n).j)(hF:∀m,m<n->In t (way t.mask (start t.mask h) m).j)(hr:t.place.size+1<=t.mask) :
  (t.put (way t.mask (start t.mask h) n).j).2<=hs.length/\Tb (t.put (way t.mask (start t.mask h) n).j).1 (eD hs (t.put (way t.mask (start t.mask h) n).j).2 h):=by
 generalize hj:(way t.mask (start t.mask h) n).j=j at *;have hjm:j<=t.mask:=by rw[<- hj];exact zzx t.mask h n
 obtain⟨q1,q2,q3⟩:=TU b.jk j;have hd:XN t.dummies j=false:=by rw[b.nU];rfl
 have e2:(t.put j).2=WG t.place j:=rfl;have ep:(t.put j).1.place=Wn t.place (WG t.place j) j:=rfl;have em:(t.put j).1.mask=t.mask:=rfl
 have edm:(t.put j).1.dummies = #[]:=by
  show(if XN t.dummies j=true then _ else t.dummies)=_
  rw[hd];exact b.nU
 rw[e2];generalize WG t.place j=p at *;have hp:p<=hs.length:=by rw[<- b.size];exact q1
 have inn:∀x,In t x->In (t.put j).1 x:=λx ⟨i,hi,e⟩=>by
  unfold In;rw[ep,Mq j q1];rcases wA i p with a | a
  ·exact⟨i,by lia,by rw[oo j q1,if_pos a];exact e⟩
  ·exact⟨i+1,by lia,by rw[oo j q1,if_neg (by lia),if_neg (by lia)];exact e⟩
 have ns:(t.put j).1.place.size=t.place.size+1:=by rw[ep,Mq j q1]
 have gt:∀k,p<=k->k<t.place.size->j<t.place.getD k 0:=λk h1 h2=>by
  have:=q3 k h1 h2;have:t.place.getD k 0≠j:=λe=>hE ⟨k,h2,e⟩
  lia
 refine⟨hp,⟨?_,?_,edm,em ▸ b.two,?_,?_,?_⟩⟩
 ·intro i k hik hk
  rw[ns]at hk;rw[ep,oo j q1,oo j q1]
  by_cases a:k<p
  ·rw[if_pos (by lia),if_pos a];exact b.jk i k hik (by lia)
  ·rw[if_neg a]
   by_cases c:k=p
   ·rw[if_pos c,if_pos (by lia)];exact q2 i (by lia)
   ·rw[if_neg c]
    by_cases d:i<p
    ·rw[if_pos d];exact XE (q2 i d) (gt (k-1) (by lia) (by lia))
    ·rw[if_neg d]
     by_cases f:i=p
     ·rw[if_pos f];exact gt (k-1) (by lia) (by lia)
     ·rw[if_neg f];exact b.jk (i-1) (k-1) (by lia) (by lia)
 ·rw[ns,rg h hp,b.size]
 ·intro i hi
  rw[ns]at hi;rw[ep,oo j q1,em]
  split
  ·exact b.le i (by lia)
  ·split
   ·exact hjm
   ·exact b.le (i-1) (by lia)
 ·rw[ns,em];exact hr
 ·intro i hi
  rw[ns]at hi;rw[ep,oo j q1,em,zwA h hp]
  split
  ·obtain⟨m,h1,h2⟩:=b.path i (by lia)
   exact⟨m,h1,λk hk=>inn _ (h2 k hk)⟩
  ·split
   ·exact⟨n,hj,λk hk=>inn _ (hF k hk)⟩
   ·obtain⟨m,h1,h2⟩:=b.path (i-1) (by lia)
    exact⟨m,h1,λk hk=>inn _ (h2 k hk)⟩
structure Ow(mask:Nat)(ow:Array (Option Nat))(hs:List Int):Prop where
 size:ow.size=mask+1
 cnt:ow.toList.countP Uh=hs.length
 inj:∀j j' k,ow.getD j none=some k->ow.getD j' none=some k->j=j'
 lt:∀j k,ow.getD j none=some k->k<hs.length
 has:∀k,k<hs.length->∃j,ow.getD j none=some k
 path:∀k j,ow.getD j none=some k->∃n,(way mask (start mask (hs.getD k 0)) n).j=j /\ ∀m,m<n->ow.getD (way mask (start mask (hs.getD k 0)) m).j none≠none
theorem NI(mask i b:Nat):∀m,lp mask i b (m+1)=lp mask (leap mask i b).1 (leap mask i b).2 m
 | 0=>rfl
 | m+1=>by
  show leap mask (lp mask i b (m+1)).1 (lp mask i b (m+1)).2=leap mask (lp mask (leap mask i b).1 (leap mask i b).2 m).1 _
  rw[NI mask i b m]
theorem DO(h:j<ow.size)(d e:Option Nat):ow.getD j d=ow.getD j e:=by simp[uR,h]
theorem Ox{mask:Nat}{ow:Array (Option Nat)}(hz:ow.size=mask+1):∀fuel i b,i<=mask->(∃m,m<fuel/\ow.getD (lp mask i b m).1 none=none/\(lp mask i b m).1<=mask) ->
  ∃j n,W0 mask ow fuel i b=some j/\(way mask (iG mask i b) n).j=j/\j<=mask/\ow.getD j none=none /\ ∀m,m<n->ow.getD (way mask (iG mask i b) m).j none≠none
 | 0,i,b,_,⟨m,h,_⟩=>absurd h (WI _)
 | fuel+1,i,b,hi,⟨m,hm,hn,hle⟩=>by
  unfold W0;have hr:=DX hi;cases hf:(wt (runEnd mask i+1-i)).find? λk=>(ow.getD (i+k) (some 0)).isNone with
  | some k =>
   rw[List.find?_range_eq_some]at hf;obtain⟨h1,h2,h3⟩:=hf;have h2:k<runEnd mask i+1-i:=by simpa using h2
   refine⟨i+k,k,rfl,?_,by lia,?_,λm hm=>?_⟩
   ·rw[rq mask i b k (by lia)]
   ·rw[DO (by lia) none (some 0)];simpa using h1
   ·rw[rq mask i b m (by lia)]
    have:=h3 m hm
    show ow.getD (i+m) none≠none
    rw[DO (by lia) none (some 0)];intro e;rw[e]at this;exact absurd this (by decide)
  | none =>
   rw[List.find?_range_eq_none]at hf
   have all:∀k,k<=runEnd mask i-i->ow.getD (i+k) none≠none:=λk hk e=>by
    have:=hf k (by lia);rw[DO (by lia) (some 0) none,e]at this;exact absurd this (by decide)
   cases m with
   | zero=>exact absurd hn (all 0 (Wm _))
   | succ m =>
    rw[NI]at hn hle;have hi':(leap mask i b).1<=mask:=by unfold leap;dsimp only;exact VQ (qm _ (QE _))
    obtain⟨j,n,e1,e2,e3,e4,e5⟩:=Ox hz fuel (leap mask i b).1 (leap mask i b).2 hi' ⟨m,by lia,hn,hle⟩;refine⟨j,runEnd mask i-i+1+n,e1,by rw[t9,Es];exact e2,e3,e4,λm' hm'=>?_⟩;rcases wA m' (runEnd mask i-i+1)with q | q
    ·rw[rq mask i b m' (by lia)];exact all m' (by lia)
    ·have:m'=runEnd mask i-i+1+(m'-(runEnd mask i-i+1)):=by lia
     rw[this,t9,Es];exact e5 _ (by lia)
theorem Ow.gap(o:Ow mask ow hs)(h:hs.length<=mask):∃j,j<=mask/\ow.getD j none=none:=by
 refine VX λc=>?_
 have:ow.toList.countP Uh=ow.toList.length:=List.countP_eq_length.mpr λa ha=>by
  obtain⟨j,hj,e⟩:=wX ha;rw[wK,o.size]at hj;cases a with
  | some _=>rfl
  | none =>
   refine absurd ⟨j,by lia,?_⟩ c;rw[vC,<- Wy,wc (by rw[wK,o.size];exact hj),e]
   rfl
 have h2:ow.toList.length=mask+1:=by rw[wK,o.size]
 have:=o.cnt
 lia
theorem zzS(h:j<ow.size)(v:Option Nat)(x:Nat):(ow.setIfInBounds j v).getD x none=if x=j then v else ow.getD x none:=by
 rw[vC,Array.getElem?_setIfInBounds]
 by_cases e:j=x
 ·subst e;rw[if_pos rfl,if_pos rfl,if_pos h];rfl
 ·rw[if_neg e,if_neg (λq=>e q.symm),vC]
theorem Ow.step(hm:mask+1=2^k)(o:Ow mask ow hs)(hl:hs.length<=mask)(h:Int) :
  ∃j,W0 mask ow (turns mask) (bits h % (mask+1)) (bits h)=some j/\Ow mask (ow.setIfInBounds j (some hs.length)) (hs++[h]):=by
 obtain⟨j0,hj0,e0⟩:=o.gap hl;obtain⟨m,hm',em⟩:=Sj hm (i:=bits h % (mask+1)) (Rt h) hj0;obtain⟨j,n,e1,e2,e3,e4,e5⟩:=Ox o.size (turns mask) (bits h % (mask+1)) (bits h) (VQ (qm _ (QE _))) ⟨m,by unfold turns;lia,by rw[em];exact e0,by rw[em];exact hj0⟩;have hjs:j<ow.size:=by rw[o.size];lia
 have G:=zzS hjs (some hs.length);have hlen:(hs++[h]).length=hs.length+1:=by simp
 have old:∀k,k<hs.length->(hs++[h]).getD k 0=hs.getD k 0:=λk hk=>by
  rw[wa,wa,vI hk]
 refine⟨j,e1,⟨by simpa using o.size,?_,?_,?_,?_,?_⟩⟩
 ·rw[Array.toList_setIfInBounds,List.countP_set (by simpa using hjs),o.cnt,hlen]
  have:ow.toList[j]'(by simpa using hjs)=none:=by
   rw[vC,vY hjs]at e4
   simpa using e4
  simp[this]
 ·intro x x' k h1 h2
  rw[G]at h1 h2
  split at h1
  ·split at h2
   ·rename_i a b;rw[a,b]
   ·have:=o.lt _ _ h2;have:=wM h1;lia
  ·split at h2
   ·have:=o.lt _ _ h1;have:=wM h2;lia
   ·exact o.inj _ _ _ h1 h2
 ·intro x k h1
  rw[G]at h1;rw[hlen]
  split at h1
  ·have:=wM h1;lia
  ·have:=o.lt _ _ h1;lia
 ·intro k hk
  rw[hlen]at hk;rcases wA k hs.length with q | q
  ·obtain⟨x,hx⟩:=o.has k q
   refine⟨x,?_⟩;rw[G,if_neg]
   ·exact hx
   ·intro e;rw[e,e4]at hx;cases hx
  ·refine⟨j,?_⟩
   rw[G,if_pos rfl];congr 1;lia
 ·intro k x h1
  rw[G]at h1
  have keep:∀y,ow.getD y none≠none->(ow.setIfInBounds j (some hs.length)).getD y none≠none:=λy hy=>by
   rw[G];split
   ·exact λz=>nomatch z
   ·exact hy
  split at h1
  ·rename_i ex
   have ek:k=hs.length:=(wM h1).symm;have:(hs++[h]).getD k 0=h:=by rw[ek,wa,vi (wo _),Vf];rfl
   rw[this,ex];exact⟨n,e2,λm hm=>keep _ (e5 m hm)⟩
  ·rw[old k (o.lt _ _ h1)]
   obtain⟨n',a1,a2⟩:=o.path k x h1;exact⟨n',a1,λm hm=>keep _ (a2 m hm)⟩
theorem Ow.nil(mask:Nat):Ow mask (uT (mask+1) none) []:=by
 have G:∀j,(uT (mask+1) (none:Option Nat)).getD j none=none:=λj=>by
  rw[vC,Array.getElem?_replicate];split<;>rfl
 refine⟨by simp,?_,λj j' k h=>?_,λj k h=>?_,λk h=>absurd h (WI _),λk j h=>?_⟩
 ·rw[Array.toList_replicate,List.countP_replicate];rfl
 all_goals(rw[G]at h;cases h)
theorem Yg{mask k:Nat}(hm:mask+1=2^k):∀(l:List Int)(ow:Array (Option Nat))(hs:List Int),Ow mask ow hs->hs.length+l.length<=mask+1 ->
  ∃ow',(l.foldl (init:=some (ow,hs.length)) λ(acc:Option (Array (Option Nat) × Nat)) h=>do
   let (owner,k) <- acc
   let j <- W0 mask owner (turns mask) (bits h % (mask+1)) (bits h)
   pure (owner.setIfInBounds j (some k),k+1))=some (ow',hs.length+l.length)/\Ow mask ow' (hs++l)
 | [],ow,hs,o,_=>⟨ow,rfl,by rw[Wh];exact o⟩
 | h::l,ow,hs,o,hl=>by
  rw[vo]at hl;obtain⟨j,e,o'⟩:=o.step hm (by lia) h;have hlen:(hs++[h]).length=hs.length+1:=by simp
  obtain⟨ow',e',o''⟩:=Yg hm l _ _ o' (by lia);refine⟨ow',?_,by rw[Vh]at o'';exact o''⟩;rw[uF]
  have:(do
   let (owner,k) <- some (ow,hs.length)
   let j <- W0 mask owner (turns mask) (bits h % (mask+1)) (bits h)
   pure (owner.setIfInBounds j (some k),k+1):Option (Array (Option Nat) × Nat))=some (ow.setIfInBounds j (some hs.length),hs.length+1):=by
   show(W0 mask ow (turns mask) (bits h % (mask+1)) (bits h) >>= _)=_
   rw[e];rfl
  rw[this,<- hlen,e',hlen,vo]
  congr 2;lia
theorem zDL(hm:mask+1=2^k){hs:Array Int}(hl:hs.size<=mask+1):∃ow,X8 mask hs=some ow/\Ow mask ow hs.toList:=by
 obtain⟨ow,e,o⟩:=Yg hm hs.toList _ [] (Ow.nil mask) (by simpa using hl);refine⟨ow,?_,by simpa using o⟩;unfold X8;rw[<- Array.foldl_toList];have:=congrArg (Uv (·.1)) e;exact this
def live(mask:Nat)(ow:Array (Option Nat)):List (Nat × Nat):=(wt (mask+1)).filterMap λj=>(ow.getD j none).map (j,·)
theorem pP(hz:ow.size=mask+1) : (j,k)∈live mask ow ↔ ow.getD j none=some k:=by
 unfold live;rw[qV]
 constructor
 ·rintro ⟨x,_,e⟩
  cases h:ow.getD x none with
  | none=>rw[h]at e;cases e
  | some y=>rw[h]at e;cases e;exact h
 ·intro h
  refine⟨j,?_,by rw[h];rfl⟩;rw[wH];rcases wA j (mask+1)with q | q
  ·exact q
  ·rw[vC,Vv (by lia)]at h;cases h
theorem Rr(o:Ow mask ow hs):(live mask ow).Pairwise λx y=>x.1<y.1/\x.2≠y.2:=by
 unfold live;rw[List.pairwise_filterMap];refine Us ?_ List.pairwise_lt_range;intro a b _ _ hab x hx y hy;cases h1:ow.getD a none with
 | none=>rw[h1]at hx;cases hx
 | some u =>
  cases h2:ow.getD b none with
  | none=>rw[h2]at hy;cases hy
  | some v =>
   rw[h1]at hx;rw[h2]at hy;cases hx;cases hy;refine⟨hab,λe=>?_⟩;have:u=v:=e;subst this;have:=o.inj _ _ _ h1 h2
   lia
theorem zum(o:Ow mask ow hs):((live mask ow).map (·.2)).Perm (wt hs.length):=by
 refine(List.perm_ext_iff_of_nodup ?_ W5).mpr λk=>?_
 ·show Q5 _ _
  rw[qw];exact(Rr o).imp λh=>h.2
 ·rw[wH,wU]
  constructor
  ·rintro ⟨⟨j,k'⟩,h,rfl⟩
   exact o.lt _ _ ((pP o.size).mp h)
  ·intro h
   obtain⟨j,hj⟩:=o.has k h;exact⟨(j,k),(pP o.size).mpr hj,rfl⟩
theorem ZI(k3:3<=k)(hm:mask+1=2^k)(finger moves:Nat)(led plain:Bool){hs:Array Int}(hl:hs.size<=mask) :
  ∃(t:Ws)(ord:Array Nat),Ui mask finger moves led plain hs=some (t,ord)/\t.mask=mask/\t.led=led/\t.plain=plain/\t.moves=moves/\ord.toList.Perm (wt hs.size)/\Tb t (ord.toList.map λk=>hs.toList.getD k 0):=by
 obtain⟨ow,e,o⟩:=zDL hm (hs:=hs) (by lia);have op:=zum o;rw[wK]at op;have ll:(live mask ow).length=hs.size:=by have:=op.length_eq;simpa using this
 refine⟨{mask,place:=((live mask ow).map (·.1)).toArray,dummies:=#[],finger,led,moves,plain},((live mask ow).map (·.2)).toArray,?_,rfl,rfl,rfl,rfl,by simpa using op,?_⟩
 ·unfold Ui
  rw[e];rfl
 ·have pz:(((live mask ow).map (·.1)).toArray).size=(live mask ow).length:=by simp
  have pg:∀i (h:i<(live mask ow).length),(((live mask ow).map (·.1)).toArray).getD i 0=((live mask ow)[i]).1:=λi h=>by
   rw[vC];simp[h]
  have inn:∀x,ow.getD x none≠none->In {mask,place:=((live mask ow).map (·.1)).toArray,dummies:=#[],finger,led,moves,plain} x:=λx hx=>by
   cases hy:ow.getD x none with
   | none=>exact absurd hy hx
   | some y =>
    obtain⟨i,hi,ei⟩:=wX ((pP o.size).mpr hy);exact⟨i,by show i<(((live mask ow).map (·.1)).toArray).size;rw[pz];exact hi,by show(((live mask ow).map (·.1)).toArray).getD i 0=x;rw[pg i hi,ei]⟩
  refine⟨?_,?_,rfl,⟨k,k3,hm⟩,?_,?_,?_⟩
  ·intro i j hij hj
   have hj:j<(live mask ow).length:=by rw[<- pz];exact hj
   show(((live mask ow).map (·.1)).toArray).getD i 0<(((live mask ow).map (·.1)).toArray).getD j 0
   rw[pg i (by lia),pg j hj];exact(We.mp (Rr o) i j (by lia) hj hij).1
  ·show(((live mask ow).map (·.1)).toArray).size=_
   rw[pz];simp
  ·intro i hi
   have hi:i<(live mask ow).length:=by rw[<- pz];exact hi
   show(((live mask ow).map (·.1)).toArray).getD i 0<=mask
   rw[pg i hi];have:=(pP o.size).mp (show(((live mask ow)[i]).1,((live mask ow)[i]).2)∈live mask ow from vK hi);rcases wA ((live mask ow)[i]).1 (mask+1)with q | q
   ·lia
   ·rw[vC,Vv (by rw[o.size];lia)]at this;cases this
  ·show(((live mask ow).map (·.1)).toArray).size<=mask
   rw[pz,ll];exact hl
  ·intro i hi
   have hi:i<(live mask ow).length:=by rw[<- pz];exact hi
   have hm':=(pP o.size).mp (show(((live mask ow)[i]).1,((live mask ow)[i]).2)∈live mask ow from vK hi)
   have eh:(((live mask ow).map (·.2)).toArray.toList.map λk=>hs.toList.getD k 0).getD i 0=hs.toList.getD ((live mask ow)[i]).2 0:=by
    rw[wa];simp[hi]
   obtain⟨n,a1,a2⟩:=o.path _ _ hm'
   show ∃n,(way mask (start mask (_)) n).j=(((live mask ow).map (·.1)).toArray).getD i 0/\_
   rw[pg i hi,eh];exact⟨n,a1,λm hm=>inn _ (a2 m hm)⟩
theorem U1(n:Nat):∀(fuel size:Nat),∃m,Wl n fuel size=size*2^m/\(n<size*2^fuel->n<Wl n fuel size)/\(Wl n fuel size<=size\/Wl n fuel size<=2*n)
 | 0,size=>⟨0,by simp[Wl],λh=>by simpa [Wl] using h,.inl (by simp[Wl])⟩
 | fuel+1,size=>by
  unfold Wl
  by_cases c:size<=n
  ·rw[if_pos c]
   obtain⟨m,h1,h2,h3⟩:=U1 n fuel (size*2);refine⟨m+1,?_,λh=>h2 ?_,?_⟩
   ·rw[h1,WY,V5 (2^m) 2,W3]
   ·rw[WY,V5 (2^fuel) 2,<- W3]at h;exact h
   ·rcases h3 with h3 | h3<;>right<;>lia
  ·rw[if_neg c]
   exact⟨0,by simp,λ_=>by lia,.inl (wo _)⟩
theorem zEJ(h1:1<=n)(h:n<=4000):∃k,3<=k/\qq (4*n)-1+1=2^k/\4*n<=qq (4*n)-1/\qq (4*n)<=8*n:=by
 obtain⟨m,e1,e2,e3⟩:=U1 (4*n) 64 8;have e0:qq (4*n)=Wl (4*n) 64 8:=rfl
 have lt := e2 (by have : (8 * 2 ^ 64 : Nat) = 147573952589676412928 := by decide
                   lia)
 rw[e0];refine⟨m+3,by lia,?_,by lia,by lia⟩;rw[XO (by lia),e1,QV,V5]
section
variable{prog:wI}{w:wJ}{K:Type}[DecidableEq K]{knd:KeyKind prog w K}{U:we->List K->Prop}{A:vb}{E:wg->wl->Prop}{s:wl}
variable{a x:we}{t:Ws}{h:wG}{α:Type}{o:Obj}{ep:Nat}
def Ent(knd:KeyKind prog w K)(U:we->List K->Prop)(h:wG)(e:Int × wg)(k:List K):Prop:=∃a,e.2=.ref a/\vH knd h k a/\e.1=vf knd k/\U a k
theorem zoQ(n:Nat){v:wg}(h:carriedByValue v=true):qA n v=pure false:=by
 cases v with
 | ref a=>simp[carriedByValue]at h
 | _=>first | rfl | simp[qA] | (unfold qA;rfl)
theorem OM{k:List K}(hx:vH knd s.heap k x){Q:Bool->wl->Prop}(q:Q false s):wx (model prog w) A (qA 8 (.ref x)) Q E s:=by
 have hT:=hx.typeIs;obtain⟨o,items,n,ho,hc,hd,hi⟩:=hx;unfold qA;refine wf (wpAny_typeOf hT ?_);dsimp only;rw[if_pos (by decide)];refine wf (wp ?_);simp only[Wv,ve,if_false];refine wf (Wg ho hd ?_);refine wf ?_
 show wx _ _ (forIn items _ _) _ _ s
 rw[<- Vz];refine qc _ (λdw r s'=>r.1=none/\s'=s /\ ∀v∈dw,carriedByValue v=true) _ ?_ ?_ _ _ ⟨rfl,rfl,hi.byValue⟩
 ·rintro v dw r s' ⟨hr,rfl,hall⟩
  rw[zoQ _ (hall v wz)];refine wf (wp ?_);simp only[ve,if_false];exact wp ⟨rfl,rfl,λu hu'=>hall u (wy _ hu')⟩
 ·rintro ⟨r1,r2⟩ s' ⟨hr,rfl,_⟩
  simp only at hr;subst hr;exact wp q
theorem ZS{k:List K}(hx:vH knd s.heap k x):∀(l:List wg),(∀v∈l,∃y k',v=.ref y/\vH knd s.heap k' y)->∀{Q:Bool->wl->Prop},Q false s->wx (model prog w) A (searchCouldBeSeen (.ref x) l) Q E s:=by
 intro l hl Q q;unfold searchCouldBeSeen;refine wf ?_;refine qc _ (λdw r s'=>r.1=none/\s'=s /\ ∀v∈dw,∃y k',v=.ref y/\vH knd s.heap k' y) _ ?_ ?_ _ _ ⟨rfl,rfl,hl⟩
 ·rintro v dw r s' ⟨hr,rfl,hall⟩
  obtain⟨y,k',rfl,hy⟩:=hall v wz;have rst:∀v∈dw,∃y k',v=.ref y/\vH knd s'.heap k' y:=λu hu'=>hall u (wy _ hu')
  dsimp only
  split
  ·exact wp ⟨rfl,rfl,rst⟩
  ·refine wf (wpAny_eqIsQuiet_tuple hx ?_)
   simp only[Wv,ve,if_false];refine wf (wpAny_eqIsQuiet_tuple hy ?_);simp only[Wv,ve,if_false];refine wf (OM hx ?_);simp only[Wv,ve,if_false];refine wf (OM hy ?_);simp only[Wv,ve,if_false];exact wp ⟨rfl,rfl,rst⟩
 ·rintro ⟨r1,r2⟩ s' ⟨hr,rfl,_⟩
  simp only at hr;subst hr;exact wp q
theorem zzY(R:kA t.place)(D:t.dummies = #[]){i j:Nat}(hi:i<t.place.size)(e:t.place.getD i 0=j):t.slot j=.live i:=by
 rcases Ma R D j with⟨i',h1,h2,h3⟩ | ⟨no,_⟩
 ·rw[h3,B4 R h1 hi (h2.trans e.symm)]
 ·exact absurd e (no i hi)
theorem Ent.inj{e:Int × wg}{k k':List K}(a:Ent knd U h e k)(b:Ent knd U h e k'):k=k':=by
 obtain⟨x,h1,h2,_⟩:=a;obtain⟨y,h3,h4,_⟩:=b;rw[h1]at h3;cases h3;exact h2.inj h4
theorem Tb.fits{hs:List Int}(b:Tb t hs):t.fits hs.length=true:=by
 unfold SetTable.fits Uj;rw[b.nU,b.size];have:=b.room;rw[b.size]at this
 simpa using this
theorem Tb.YV{hs:List Int}(b:Tb t hs):t.gaveWay=false:=by
 obtain⟨k',h3,e⟩:=b.two;unfold SetTable.gaveWay;have:2^k'=2*2^(k'-1):=by rw[<- Nat.pow_succ'];congr 1;lia
 have:t.mask % 2=1:=by lia
 rw[this];rfl
theorem U7{a xa:we}{k:List K}{o:Obj}{es:Array (Int × wg)}{ep:Nat}{t:Ws}(hu:A.units<WD)(hx:vH knd s.heap k xa)
  (ho:s.heap.get? a=some o) (hd:o.data=.set es ep t) (b:Tb t (es.toList.map (·.1))) (he:∀i (h:i<es.size),∃k',Ent knd U s.heap es[i] k') (n0:Nat) (hE:¬ In t (way t.mask (start t.mask (vf knd k)) n0).j) (hF:∀m,m<n0->In t (way t.mask (start t.mask (vf knd k)) m).j) (hf0:n0<10*Xb t.mask)
  {Q:SetFound->wl->Prop} (yes:(∃i,∃h:i<es.size,Ent knd U s.heap es[i] k)->Q (.there none) s) (no:(∀i (h:i<es.size),¬ Ent knd U s.heap es[i] k)->Q (.free (way t.mask (start t.mask (vf knd k)) n0).j false) s) :
  ∀(fuel n:Nat)(st:Option SetTable.Probe),n<=n0->n0-n<fuel->st.getD (t.probeStart (vf knd k))=way t.mask (start t.mask (vf knd k)) n ->
   (∀m,m<n->∀i (h:i<es.size),t.place.getD i 0=(way t.mask (start t.mask (vf knd k)) m).j->¬ Ent knd U s.heap es[i] k) ->
   wx (model prog w) A (setSearchFrom a (.ref xa) (vf knd k) true fuel st) Q E s
 | 0,n,st,_,hlt,_,_=>absurd hlt (WI _)
 | fuel+1,n,st,hn,hlt,hst,hno=>by
  have hsz:t.place.size=es.size:=by rw[b.size,wm,wK]
  have hfit:t.fits es.size=true:=by have:=b.fits;rwa[wm,wK]at this
  unfold setSearchFrom;refine wf (VT ho hd hfit ?_);dsimp only;rw[b.YV,hst];simp only[ve,if_false];have hp:=PH b.jk b.nU (λi=>(es[i]?.map (·.1)).getD 0) (vf knd k) (p:=start t.mask (vf knd k)) rfl hE hF (10*Xb t.mask) n hn (by lia);rcases hp with⟨m,i,m1,m2,i1,i2,i3,i4,e⟩ | ⟨a1,e⟩
  ·generalize hP:t.probe _ (vf knd k) (way t.mask (start t.mask (vf knd k)) n)=P
   have eP:=hP.symm.trans e;rw[eP];clear eP hP P e;dsimp only;have ies:i<es.size:=by rw[<- hsz];exact i1
   obtain⟨k',a',e1,e2,e3,e4⟩:=he i ies;have eg:es[i]? = some es[i]:=vY ies;have hent:Ent knd U s.heap es[i] k':=⟨a',e1,e2,e3,e4⟩
   have next:k'≠k->wx (model prog w) A (setSearchFrom a (.ref xa) (vf knd k) true fuel (some (way t.mask (start t.mask (vf knd k)) (m+1)))) Q E s:=λc=>by
    refine U7 hu hx ho hd b he n0 hE hF hf0 yes no fuel (m+1) _ m2 (by lia) rfl λm' hm' i' hi' ep' hent'=>?_
    rcases wA m' n with q | q
    ·exact hno m' q i' hi' ep' hent'
    ·rcases Vb (VQ hm')with q' | q'
     ·subst q'
      have:i'=i:=B4 b.jk (by rw[hsz];exact hi') i1 (ep'.trans i2.symm);subst this;exact c (hent.inj hent')
     ·refine i4 m' q q' i' (by rw[hsz];exact hi') ep' ?_
      show(es[i']?.map (·.1)).getD 0=_
      rw[vY hi'];obtain⟨_,_,_,e5,_⟩:=hent';exact e5
   have hsl:t.slot (way t.mask (start t.mask (vf knd k)) m).j=.live i:=zzY b.jk b.nU i1 i2;have hsm:t.sameMemory t.moves t.mask=some true:=by unfold SetTable.sameMemory;rw[if_pos (by simp)]
   have unseen:∀v∈(es.filter λx=>x.1 == vf knd k).toList.map (λx=>x.2),∃y k',v=.ref y/\vH knd s.heap k' y:=λv hv=>by
    obtain⟨e0,h0,rfl⟩:=wU.mp hv;rw[Array.toList_filter,vg]at h0;obtain⟨j,hj,ej⟩:=wX h0.1;obtain⟨k2,y2,f1,f2,_⟩:=he j (by simpa using hj);refine⟨y2,k2,?_,f2⟩;rw[<- ej,<- f1,Array.getElem_toList]
   have eg':es[i]? = some (es[i].1,.ref a'):=by rw[eg,<- e1]
   clear eg;generalize es[i].1=h' at *;have tail:k'=k->Q (.there none) s:=λc=>yes ⟨i,ies,c ▸ hent⟩
   cases hl:t.led
   ·simp only[QN,if_true]
    refine wf (ZS hx _ unseen ?_);simp only[ve,if_false];rw[eg'];dsimp only;refine wf (Wk (wpAny_eqBool_tuple hu e2 hx ?_));refine wf (VT ho hd hfit ?_);dsimp only
    by_cases c:k'=k
    ·rw[decide_eq_true c]
     exact wp (tail c)
    ·rw[decide_eq_false c,hsm]
     simp only[QT,ve,if_false,if_true];rw[hsl];dsimp only;rw[eg'];dsimp only;refine wf (wpAny_isSame_ref_self ?_);refine wf (wp ?_);simp only[if_true];exact next c
   ·simp only[Wv,ve,if_false]
    rw[eg'];dsimp only;refine wf (Wk (wpAny_eqBool_tuple hu e2 hx ?_));refine wf (VT ho hd hfit ?_);dsimp only
    by_cases c:k'=k
    ·rw[decide_eq_true c]
     exact wp (tail c)
    ·rw[decide_eq_false c,hsm]
     simp only[QT,ve,if_false,if_true];rw[hsl];dsimp only;rw[eg'];dsimp only;refine wf (wpAny_isSame_ref_self ?_);refine wf (wp ?_);simp only[if_true];exact next c
  ·generalize hP:t.probe _ (vf knd k) (way t.mask (start t.mask (vf knd k)) n)=P
   have eP:=hP.symm.trans e;rw[eP];dsimp only;refine wp (no λi hi hent=>?_);have hi':i<t.place.size:=by rw[hsz];exact hi
   obtain⟨m,p1,p2⟩:=b.path i hi'
   have hh:(es.toList.map (·.1)).getD i 0=vf knd k:=by
    obtain⟨_,_,_,e3,_⟩:=hent;rw[wa,wu,Wy,vY hi];exact e3
   rw[hh]at p1 p2;rcases wA m n0 with q | q
   ·rcases wA m n with q' | q'
    ·exact hno m q' i hi p1.symm hent
    ·refine a1 m q' q i hi' p1.symm ?_
     show(es[i]?.map (·.1)).getD 0=_
     rw[vY hi];obtain⟨_,_,_,e3,_⟩:=hent;exact e3
   ·rcases Vb q with q' | q'
    ·subst q';exact hE ⟨i,hi',p1.symm⟩
    ·exact hE (p2 n0 q')
theorem zxo(l:List α)(p:Nat)(x : α):(eD l p x).Perm (x::l):=by
 unfold eD;refine List.perm_middle.trans (List.Perm.cons x ?_);rw[xY]
theorem tR{g:wG}{k:List K}(x:vH knd h k a)(e:∀o,h.get? a=some o->g.get? a=some o):vH knd g k a:=by
 obtain⟨o,its,n,h1,r⟩:=x;exact⟨o,its,n,e o h1,r⟩
theorem O6{g:wG}{k:List K}{d:we}{es:Array (Int × wg)}(x:vH knd h k a)(ho:h.get? d=some o)(hd:o.data=.set es ep t)(hs:vv d h g):vH knd g k a:=by
 refine tR x λu eu=>(hs.2 a λad=>?_).trans eu
 obtain⟨u',_,_,e1,_,e2,_⟩:=x;rw[ad,ho]at e1;cases e1;rw[hd]at e2;cases e2
def gv(knd:KeyKind prog w K)(U:we->List K->Prop)(h:wG)(es:List (Int × wg))(ks:List (List K)):Prop:=es.length=ks.length /\ ∀(i:Nat)(e:Int × wg)(k:List K),es[i]? = some e->ks[i]? = some k->Ent knd U h e k
def TS(knd:KeyKind prog w K)(U:we->List K->Prop)(h:wG)(a:we)(led:Bool)(ks:List (List K)):Prop :=
 ∃o es ep t,h.get? a=some o/\o.ExactSet/\o.data=.set es ep t/\Tb t (es.toList.map (·.1))/\es.size*5<t.mask*3/\(t.mask<=7\/t.mask<=8*es.size)/\t.led=led/\t.plain=true/\gv knd U h es.toList ks/\ks.Nodup
theorem zwE(hv:∀k v,knd.is k v=true->∃i t,v=.int i t){k:List K}(hx:vH knd s.heap k x){Q:Bool->wl->Prop}(q:Q true s):wx (model prog w) A (hashByValue 8 (.ref x)) Q E s:=by
 have hT:=hx.typeIs;obtain⟨o,items,n,ho,hc,hd,hi⟩:=hx
 have hints:∀{ks:List K}{vs:List wg},ItemsAre knd ks vs->∀v∈vs,∃i t,v=.int i t:=λh=>by
  induction h with
  | nil=>intro v hv;simp at hv
  | cons h1 _ ih =>
   intro v hm;rcases wF.mp hm with rfl | hm
   ·exact hv _ _ h1
   ·exact ih v hm
 unfold hashByValue;refine wf (qU hT qx.lookup ?_);dsimp only;refine wf (Wg ho hd ?_);refine wf ?_
 show wx _ _ (forIn items _ _) _ _ s
 rw[<- Vz];refine qc _ (λdw r s'=>r.1=none/\s'=s /\ ∀v∈dw,∃i t,v=.int i t) _ ?_ ?_ _ _ ⟨rfl,rfl,hints hi⟩
 ·rintro v dw r s' ⟨hr,rfl,hall⟩
  obtain⟨i,t,rfl⟩:=hall v wz
  show wx _ _ (pure true >>= _) _ _ _
  refine wf (wp ?_);simp only[Wv,ve,if_false];exact wp ⟨rfl,rfl,λu hu'=>hall u (wy _ hu')⟩
 ·rintro ⟨r1,r2⟩ s' ⟨hr,rfl,_⟩
  simp only at hr;subst hr;exact wp q
theorem zy0{β:Type}(f : α -> β)(l:List α)(p:Nat)(x : α):(eD l p x).map f=eD (l.map f) p (f x):=by
 unfold eD;rw[vA,vd,Xp,Xo]
theorem LI{α : Type}(d : α)(es:Array α):∀l:List Nat,(∀i∈l,i<es.size)->l.filterMap (λi=>es[i]?)=l.map λi=>es.toList.getD i d
 | [],_=>rfl
 | i::l,h=>by
  have hi:=h i (wz ..);rw[qK,vY hi,vd,LI d es l λj hj=>h j (wy _ hj)];dsimp only;rw[wa,Wy,vY hi]
  rfl
theorem zwI(d : α)(l:List α):(wt l.length).map (λi=>l.getD i d)=l:=by
 refine WN (by simp) λi h1 h2=>?_
 rw[Vp,List.getElem_range,wa,wc h2]
 rfl
theorem gv.keeps{h':wG}{es:List (Int × wg)}{ks:List (List K)}{d:we}{es0:Array (Int × wg)}(x:gv knd U h es ks)(ho:h.get? d=some o)(hd:o.data=.set es0 ep t)(hs:vv d h h'):gv knd U h' es ks :=
 ⟨x.1,λi e k h1 h2=>by obtain⟨a,e1,e2,e3⟩:=x.2 i e k h1 h2;exact⟨a,e1,O6 e2 ho hd hs,e3⟩⟩
theorem gv.ins{es:List (Int × wg)}{ks:List (List K)}(x:gv knd U h es ks){p:Nat}(hp:p<=ks.length){e:Int × wg}{k:List K}(c:Ent knd U h e k):gv knd U h (eD es p e) (eD ks p k):=by
 have hp':p<=es.length:=by rw[x.1];exact hp
 refine⟨by rw[rg e hp',rg k hp,x.1],λi e' k' h1 h2=>?_⟩;rw[zl e hp']at h1;rw[zl k hp]at h2
 split at h1
 ·rename_i a;rw[if_pos a]at h2;exact x.2 i e' k' h1 h2
 ·rename_i a;rw[if_neg a]at h2
  split at h1
  ·rename_i b;rw[if_pos b]at h2
   cases h1;cases h2;exact c
  ·rename_i b;rw[if_neg b]at h2;exact x.2 (i-1) e' k' h1 h2
theorem gv.ord{es:List (Int × wg)}{ks:List (List K)}(x:gv knd U h es ks){l:List Nat}(hl:∀i∈l,i<es.length):gv knd U h (l.map λi=>es.getD i (0,.none)) (l.map λi=>ks.getD i []):=by
 refine⟨by simp,λi e' k' h1 h2=>?_⟩;rw[wu]at h1 h2;cases hi:l[i]? with
 | none=>rw[hi]at h1;cases h1
 | some j =>
  rw[hi]at h1 h2;cases h1;cases h2;have hj:j<es.length:=hl j (Qz hi);have hj':j<ks.length:=by rw[<- x.1];exact hj
  refine x.2 j _ _ ?_ ?_
  ·dsimp only;rw[wa,wc hj];rfl
  ·dsimp only;rw[wa,wc hj'];rfl
theorem LF{es:Array (Int × wg)}(ho:h.get? a=some o)(hd:o.data=.set es ep t)(es':Array (Int × wg))(t':Ws) :
  (h.update a (xi es' t')).get? a=some {o with data:=.set es' (ep+1) t'}:=by
 have:=VB (xi es' t') ho (by rw[putSet_of es' t' hd];rfl);rw[putSet_of es' t' hd]at this;exact this
theorem zxQ{es:Array (Int × wg)}{ks:List (List K)}(ho:s.heap.get? a=some o)(hex:o.ExactSet)(hd:o.data=.set es ep t)(b:Tb t (es.toList.map (·.1)))(hpl:t.plain=true)
  (hk:gv knd U s.heap es.toList ks) (hnd:ks.Nodup) (h1:1<=es.size) (hz:es.size<=1000) {Q:Unit->wl->Prop} (q:∀h' ks',vv a s.heap h'->TS knd U h' a t.led ks'->ks'.Perm ks->Q () {s with heap:=h'}) :
  wx (model prog w) A (setRelay a (Xc es.size)) Q E s:=by
 have hfit:t.fits es.size=true:=by have:=b.fits;rwa[wm,wK]at this
 have hg:Xc es.size=4*es.size:=by unfold Xc;rw[if_neg (by lia),V5]
 obtain⟨k2,k3,s1,s2,s3⟩:=zEJ (n:=es.size) h1 (by lia);unfold setRelay;rw[hg];refine wf (VT ho hd hfit ?_);dsimp only;rw[if_neg (by rw[Vw];lia)];obtain⟨t2,ord,e2,m2,l2,p2,_,op,b2⟩:=ZI k3 s1 t.finger (t.movedTo (qq (4*es.size)-1)) t.led t.plain (hs:=es.map (·.1)) (by rw[u8];lia);rw[u8]at op;have olt:∀i∈ord.toList,i<es.size:=λi hi=>wH.mp (op.mem_iff.mp hi)
 have e2':t.relaid (es.map (·.1)) (4*es.size)=some (t2,ord):=e2;rw[e2']
 have fe:(ord.filterMap (λi=>es[i]?)).toList=ord.toList.map λi=>es.toList.getD i (0,.none):=by
  rw[Array.toList_filterMap];exact LI _ es _ olt
 have fz:(ord.filterMap (λi=>es[i]?)).size=es.size:=by
  rw[<- wK,fe,wm,op.length_eq,vx]
 refine wf ?_
 show wx _ _ (if((ord.filterMap (λi=>es[i]?)).size != es.size)=true then(unsupported "internal:set-table-lost-an-element" >>= λ_=>pure (ord.filterMap (λi=>es[i]?),t2))else pure (ord.filterMap (λi=>es[i]?),t2)) _ _ _
 rw[if_neg (by rw[fz];simp)];refine wp ?_;refine wpAny_storeSet_of ho hd ?_ (by rw[fz,Vw];lia);have hsb:=qL s.heap a (xi (ord.filterMap (λi=>es[i]?)) t2);have hkk:gv knd U s.heap (ord.filterMap (λi=>es[i]?)).toList (ord.toList.map λi=>ks.getD i []):=by rw[fe];exact hk.ord λi hi=>by rw[wK];exact olt i hi
 have pm:(ord.toList.map λi=>ks.getD i []).Perm ks:=by
  have:=op.map (λi=>ks.getD i []);have hl:es.size=ks.length:=by rw[<- wK];exact hk.1
  rw[hl,zwI]at this;exact this
 refine q _ (ord.toList.map λi=>ks.getD i []) hsb ⟨_,_,_,t2,LF ho hd _ t2,hex,rfl,?_,?_,?_,l2,p2.trans hpl,hkk.keeps ho hd hsb,pm.nodup_iff.mpr hnd⟩ pm
 ·rw[fe,WM]
  have:(ord.toList.map ((λx:Int × wg=>x.1) ∘ λi=>es.toList.getD i (0,.none)))=ord.toList.map λk=>(es.map (·.1)).toList.getD k 0:=by
   refine qg λi hi=>?_
   have:=olt i hi
   show(es.toList.getD i (0,.none)).1=_
   rw[wa,wa,Array.toList_map,wu,Wy,vY this]
   rfl
  rw[this];exact b2
 ·rw[fz,m2];lia
 ·right;rw[fz,m2];lia
theorem zCG(hv:∀k v,knd.is k v=true->∃i t,v=.int i t){xa:we}{k:List K}{led:Bool}{ks:List (List K)}(hu:A.units<WD)(hS:TS knd U s.heap a led ks)(hx:vH knd s.heap k xa)(hU:U xa k)(hz:ks.length+1<=1000)
  {Q:Bool->wl->Prop} (q:∀h' ks',vv a s.heap h'->TS knd U h' a led ks'->(k∈ks->ks'=ks)->(k ∉ ks->ks'.Perm (k::ks))->∀b,Q b {s with heap:=h'}) :
  wx (model prog w) A (setAddHashed a (.ref xa) (vf knd k)) Q E s:=by
 obtain⟨o,es,ep,t,ho,hex,hd,b,hfew,hmask,hled,hpl,⟨hkl,hke⟩,hnd⟩:=hS;rw[wK]at hkl;have hfit:t.fits es.size=true:=by have:=b.fits;rwa[wm,wK]at this
 have hsz:t.place.size=es.size:=by rw[b.size,wm,wK]
 have hent:∀i (h:i<es.size),Ent knd U s.heap es[i] (ks[i]'(by lia)):=λi h=>hke i _ _ (by rw[Wy,vY h]) (wc _)
 unfold setAddHashed setAddHashedIn;refine Wk (wf (VT ho hd hfit ?_));dsimp only;rw[show byScan (.ref xa) es=false from rfl];simp only[ve,if_false];obtain⟨n0,hf0,hE,hF⟩:=b.free (vf knd k);have hmm:t.mask<=8000:=by lia
 refine wf (U7 hu hx ho hd b (λi h=>⟨_,hent i h⟩) n0 hE hF hf0 (λhy=>?yes) (λhn=>?no) 100000 0 none (Wm _) (by unfold Xb at hf0;lia) rfl (λm hm=>absurd hm (WI _)))
 case yes =>
  dsimp only;obtain⟨i,hi,he⟩:=hy;have hk:k∈ks:=by rw[he.inj (hent i hi)];exact vK _
  exact wp (q s.heap ks (X9 a s.heap) ⟨o,es,ep,t,ho,hex,hd,b,hfew,hmask,hled,hpl,⟨by rw[wK];exact hkl,hke⟩,hnd⟩ (λ_=>rfl) (λh=>absurd hk h) _)
 case no =>
  dsimp only
  have hk:k ∉ ks:=λhm=>by
   obtain⟨i,hi,e⟩:=wX hm;exact hn i (by lia) (e ▸ hent i (by lia))
  refine wf (VT ho hd hfit ?_);dsimp only;obtain⟨k8,k3,kk⟩:=b.two
  have m7:7<=t.mask:=by
   have:2^3<=2^k8:=Xg (by decide) k3
   lia
  obtain⟨hp,tb⟩:=b.put hE hF (by rw[hsz];lia);rw[wm,wK,hkl]at hp;have q1:(t.put (way t.mask (start t.mask (vf knd k)) n0).j).1.plain=t.plain:=rfl;have q2:(t.put (way t.mask (start t.mask (vf knd k)) n0).j).1.led=t.led:=rfl;have q3:(t.put (way t.mask (start t.mask (vf knd k)) n0).j).1.mask=t.mask:=rfl;generalize (t.put (way t.mask (start t.mask (vf knd k)) n0).j).2=p at *;generalize (t.put (way t.mask (start t.mask (vf knd k)) n0).j).1=t1 at *;rw[if_pos (q1.trans hpl)];refine wf (zwE hv hx ?_);simp only[if_true];have en:Ent knd U s.heap (vf knd k,.ref xa) k:=⟨xa,rfl,hx,rfl,hU⟩
  have hkk:gv knd U s.heap (Wn es p (vf knd k,.ref xa)).toList (eD ks p k):=by
   rw[rh];exact gv.ins ⟨by rw[wK];exact hkl,hke⟩ hp en
  have tb':Tb t1 ((Wn es p (vf knd k,.ref xa)).toList.map (·.1)):=by
   rw[rh,zy0];exact tb
  have z1:(Wn es p (vf knd k,.ref xa)).size=es.size+1:=by
   rw[<- wK,rh,rg _ (by rw[wK,hkl];exact hp),wK]
  have pm:(eD ks p k).Perm (k::ks):=zxo ks p k;have nd:(eD ks p k).Nodup:=pm.nodup_iff.mpr (WW.mpr ⟨hk,hnd⟩);refine wf (wpAny_storeSet_of ho hd ?_ (by rw[z1,Vw];lia));have hsb:=qL s.heap a (xi (Wn es p (vf knd k,.ref xa)) t1);have ho1:=LF ho hd (Wn es p (vf knd k,.ref xa)) t1
  have pz:t1.fill=es.size+1:=by
   unfold Uj;rw[tb'.nU,tb'.size,wm,wK,z1];rfl
  split
  ·refine wf ?_
   have:=zxQ (A:=A) (E:=E) (knd:=knd) (s:={s with heap:=s.heap.update a (xi (Wn es p (vf knd k,.ref xa)) t1)}) (ks:=eD ks p k) ho1 hex rfl tb' (q1.trans hpl) (hkk.keeps ho hd hsb) nd (by rw[z1];lia) (by rw[z1];lia)
    (Q:=λ_ s'=>wx (model prog w) A (pure true) Q E s') λh' ks' sb ts pm'=>wp (q h' ks' (hsb.trans sb) (by rw[q2,hled]at ts;exact ts) (λh=>absurd h hk) (λ_=>pm'.trans pm) _)
   rw[z1]at this;exact this
  ·rename_i c
   have c:¬ t1.tooFull=true:=by simpa using c
   unfold SetTable.tooFull at c;rw[pz]at c;refine wp (q _ (eD ks p k) hsb ⟨_,_,_,t1,ho1,hex,rfl,tb',?_,?_,q2.trans hled,q1.trans hpl,hkk.keeps ho hd hsb,nd⟩ (λh=>absurd h hk) (λ_=>pm) _)
   ·rw[z1]
    have:¬ t1.mask*3<=(es.size+1)*5:=by simpa using c
    lia
   ·rw[z1,q3];lia
end
section
variable{prog:wI}{w:wJ}{K:Type}[DecidableEq K]{knd:KeyKind prog w K}{U:we->List K->Prop}
theorem TS.same{h g:wG}{S:we}{led:Bool}{ks:List (List K)}(x:TS knd U h S led ks)(e:∀o,h.get? S=some o->g.get? S=some o)(f:∀k a,vH knd h k a->vH knd g k a):TS knd U g S led ks:=by
 obtain⟨o,es,ep,t,c1,c2,c3,c4,c5,c6,c7,c8,⟨d1,d2⟩,c9⟩:=x;refine⟨o,es,ep,t,e o c1,c2,c3,c4,c5,c6,c7,c8,⟨d1,λi y k y1 y2=>?_⟩,c9⟩;obtain⟨a,z1,z2,z3⟩:=d2 i y k y1 y2;exact⟨a,z1,f k a z2,z3⟩
theorem TS.new{h:wG}{S:we}{led:Bool}(e:h.get? S=some {cls:=.type "set",dict:=none,data:=.set #[] 0 (.fresh 0 0 led)}):TS knd U h S led [] :=
 ⟨_,#[],0,_,e,⟨rfl,rfl,rfl⟩,rfl,⟨λi j _ hj=>absurd hj (WI _),rfl,rfl,⟨3,wo _,rfl⟩,λi hi=>absurd hi (WI _),Wm _,λi hi=>absurd hi (WI _)⟩,(by show 0*5<7*3;decide),.inl (wo _),rfl,rfl,⟨rfl,λi y k y1=>by simp at y1⟩,List.nodup_nil⟩
variable{A:vb}{R:Result->wl->Prop}{I:we}{fp wr:List we}{G:Array GenState->Array GenState->Prop}{n:Nat}{P:Nat->wg->Prop}{St:Nat->wl->Prop}
theorem zEN(hv:∀k v,knd.is k v=true->∃i t,v=.int i t)(W:WalksS prog w A.in1 I fp wr G n P St){S:we}(hSf:S ∉ fp)(hu:A.units+1<WD){led:Bool}{key:Nat->List K}{ad:Nat->we}
  (hval:∀i v,P i v->v=.ref (ad i)) (hI:∀i s a k,St i s->vH knd s.heap k a->a ∉ wr) (hn:n<=999) (hU:∀j,j<n->U (ad j) (key j)) :
  ∀(c i:Nat)(s:wl)(ks:List (List K)),n-i=c->i<=n->St i s->(∀j,j<n->vH knd s.heap (key j) (ad j))->TS knd U s.heap S led ks->(∀x,x∈ks ↔ ∃j,j<i/\key j=x)->ks.length<=i ->
   (∀s' ks',Moved (S::wr) G s s'->(∀k a,vH knd s.heap k a->vH knd s'.heap k a)->TS knd U s'.heap S led ks'->(∀x,x∈ks' ↔ ∃j,j<n/\key j=x)->R (.ok (.ret .none)) s') ->
   codeAny (model prog w) A (.builtin "set.update.loop" ⟨[.ref S,.ref I],[]⟩) R s:=by
 have nw:S ∉ wr:=λx=>hSf (W.sub _ x)
 intro c
 induction c with
 | zero =>
  intro i s ks ec ei st ht hs hx hl r;obtain rfl:i=n:=by lia
  refine qr Qd ?_;rw[VY VA _];refine wf (m:=VR (.ref I)) (W.done s _ _ st λs' mv=>?_);have f:∀k a,vH knd s.heap k a->vH knd s'.heap k a:=λk a x=>tR x λo eo=>mv.heap a o (hI i s a k st x) eo
  exact wp (r s' ks (mv.mono λ_ q=>.tail _ q) f (hs.same (λo eo=>mv.heap S o nw eo) f) hx)
 | succ c ih =>
  intro i s ks ec ei st ht hs hx hl r;have lt:i<n:=by lia
  refine qr Qd ?_;rw[VY VA _];refine wf (m:=VR (.ref I)) (W.item i s _ _ lt st λv s' pv st' mv=>?_);obtain rfl:=hval i v pv;have f:∀k a,vH knd s.heap k a->vH knd s'.heap k a:=λk a x=>tR x λo eo=>mv.heap a o (hI i s a k st x) eo
  have hs':=hs.same (λo eo=>mv.heap S o nw eo) f;refine wf (m:=holding [Value.ref (ad i)] (setAdd S (.ref (ad i)))) (Wk ?_);unfold setAdd;refine Wk (wf (wpAny_pyHash_tuple (by exact hu) (f _ _ (ht i lt)) ?_));refine zCG hv (s:={s' with toks:=s'.toks+((key i).length+1)}) (by exact hu) hs' (f _ _ (ht i lt)) (hU i lt) (by lia) λh2 ks2 sb ts2 y1 y2 b=>?_
  have so:=hs';obtain⟨o9,_,_,_,g1,_,g2,_⟩:=so;have f2:∀k a,vH knd s'.heap k a->vH knd h2 k a:=λk a x=>O6 x g1 g2 sb
  have mE:∀x,x∈ks2 ↔ ∃j,j<i+1/\key j=x:=λx=>by
   have old:x∈ks2 ↔ x=key i\/x∈ks:=by
    by_cases d:key i∈ks
    ·rw[y1 d];exact⟨.inr,λq=>q.elim (λe=>e ▸ d) id⟩
    ·rw[(y2 d).mem_iff,wF]
   rw[old,hx]
   constructor
   ·rintro (rfl | ⟨j,j1,j2⟩)
    ·exact⟨i,by lia,rfl⟩
    ·exact⟨j,by lia,j2⟩
   ·rintro ⟨j,j1,j2⟩
    rcases Vb (VQ j1)with e | e
    ·subst e;exact .inl j2.symm
    ·exact .inr ⟨j,e,j2⟩
  have len2:ks2.length<=i+1:=by
   by_cases d:key i∈ks
   ·rw[y1 d];lia
   ·rw[(y2 d).length_eq,vo];lia
  refine wp ⟨plainId_quiet VA _,ih (i+1) _ ks2 (by lia) lt (W.frame _ s' _ _ st' (WP _ _) λz hz o e=>?_) (λj hj=>f2 _ _ (f _ _ (ht j hj))) ts2 mE len2 λs3 ks3 mv3 f3 ts3 m3=>?_⟩
  ·rw[sb.2 z (λq=>hSf (q ▸ hz))];exact e
  ·refine r s3 ks3 (Moved.trans W.gtrans ((mv.mono λ_ q=>.tail _ q).then_heap (WP _ _) λz o hz e=>?_) mv3) (λk a x=>f3 k a (f2 k a (f k a x))) ts3 m3
   rw[sb.2 z (λq=>hz (q ▸ .head _))];exact e
end
def iO(led:Bool):Obj:={cls:=.type "set",dict:=none,data:=.set #[] 0 (.fresh 0 0 led)}
def fX(w:wJ):Bool:=!(w.params.followText "set-order")
section
variable{prog:wI}{w:wJ}{K:Type}[DecidableEq K]{knd:KeyKind prog w K}{U:we->List K->Prop}{A:vb}{E:wg->wl->Prop}{s:wl}
theorem zBE(x:wg){Q:wg->wl->Prop}(q:Q (.ref s.heap.objs.size) {s with heap:=s.heap.push (iO (fX w))}) :
  codeAny (model prog w) A (.call (.builtin "set.__new__") ⟨[.type "set",x],[]⟩) (wants Q E) s:=by
 refine codeAny_of_tree ?_;refine wf (m:=checkBuiltinCall "set.__new__" ⟨[.type "set",x],[]⟩) (wpAny_of_eq (F.newCall_set_1 x) (wp ?_));refine⟨plainId_quiet uU _,qr F.entry_set_new ?_⟩;rw[VY uU _];unfold Builtin.«set.__new__» Uk;have sub:=sub_set_self;obtain⟨z1,z2,z3,z4,z5⟩:=s;dsimp only
 wp_walk
 refine wpAny_askSetting (wp ?_);dsimp only;simp only[newObj];exact wf (wpAny_alloc (wp (wp q)))
end
end TB
namespace TB
open PySem PySem.W PyProof.Rows
section
variable{n:Nat}(h1:1<=n)
include h1
end
section
variable{prog:wI}{w:wJ}{A:vb}{E:wg->wl->Prop}{s:wl}
end
structure sJ(w:wJ)(h:wG)(a:we)(es:Array (Int × wg))(ep:Nat)(t:Ws):Prop where
 at':∃o,h.get? a=some o/\o.ExactSet/\o.data=.set es ep t
 fits:t.fits es.size=true
 size:t.place.size=es.size
 jk:kA t.place
 plain:t.plain=true
 led:t.led=fX w
 bN:es.size<=4000
theorem sJ.same{w:wJ}{h g:wG}{a:we}{es:Array (Int × wg)}{ep:Nat}{t:Ws}(x:sJ w h a es ep t)(e:∀o,h.get? a=some o->g.get? a=some o):sJ w g a es ep t :=
 ⟨let ⟨o,h1,r⟩:=x.at';⟨o,e o h1,r⟩,x.fits,x.size,x.jk,x.plain,x.led,x.bN⟩
section
variable{prog:wI}{w:wJ}{A:vb}{E:wg->wl->Prop}{s:wl}{a:we}{es:Array (Int × wg)}{ep:Nat}{t:Ws}
end
section
variable{prog:wI}{w:wJ}{A:vb}{E:wg->wl->Prop}{s:wl}{a it:we}{es:Array (Int × wg)}{ep:Nat}{t:Ws}{i:Nat}
end
section
variable{prog:wI}{w:wJ}{A:vb}{E:wg->wl->Prop}{s:wl}
end
end TB
namespace L2
open PySem PySem.Spec PyProof.Rows GM
def mS(w:wJ)(a:we)(ws:List V):HO:=.ext λh=>∃es ep t,TB.sJ w h a es ep t/\aT ws (es.toList.map (·.2))
def CG(K:wb)(H:Hp)(v:V)(k:List Int):Prop:=∃q,v=.ref q/\aU K H q (k.map V.int)
theorem items_int{P:wI}{w:wJ} : ∀{us:List wg}{ns:List Int},IntsAre us ns->ItemsAre (intKind P w) ns us
 | _,_,.nil=>.nil
 | _,_,.cons n t r=>.cons (by show QU n (Value.int n t)=true;simp[QU]) (items_int r)
theorem zxc{P:wI}{w:wJ}(k:Int)(v:wg)(h:(intKind P w).is k v=true):∃i t,v=.int i t:=by
 have h:QU k v=true:=h;cases v with
 | int i t=>exact⟨i,t,rfl⟩
 | _=>exact absurd h (by simp[QU])
theorem Inv.key{X:Cx}{pins:List (we × Obj)}{σ : List (Option V)}{H:Hp}{s:wl}(I:Inv X pins σ H s){q:we}{k:List Int}(h:aU X.K H q (k.map V.int)):vH (intKind X.prog X.w) s.heap k q:=by
 obtain⟨its,r,⟨o,e,hc,n,hd⟩,_⟩:=I.tuple h;exact⟨o,its.toArray,n,e,hc,hd,items_int (sZ r)⟩
theorem ND:∀{ws:List V}{us:List wg},aT ws us->∀{i:Nat}{q:we},ws[i]? = some (.ref q)->us[i]? = some (.ref q)
 | _,_,.nil,i,q,h=>by simp at h
 | _,_,.cons r1 r2,0,q,h=>by
  simp only[xx,Qp]at h ⊢;subst h;exact r1
 | _,_,.cons r1 r2,i+1,q,h=>by
  simp only[Qm]at h ⊢;exact ND r2 h
def Ae:wg->V
 | .ref a=>.ref a
 | _=>.a_
theorem Me:∀(us:List wg),(∀u∈us,∃a,u=.ref a)->aT (us.map Ae) us
 | [],_=>.nil
 | u::us,h=>by
  obtain⟨a,rfl⟩:=h u (wz ..);exact .cons rfl (Me us λu hu=>h u (wy _ hu))
theorem zqx(es:List (Int × wg))(h:∀e∈es,∃a,e.2=.ref a):aT (es.map λe=>Ae e.2) (es.map (·.2)):=by
 have:=Me (es.map (·.2)) λu hu=>by
  obtain⟨e,he,rfl⟩:=wU.mp hu;exact h e he
 rwa[WM]at this
theorem nN{α : Type}[DecidableEq α]:∀{ks l:List α},ks.Nodup->(∀x∈ks,x∈l)->ks.length<=l.length
 | [],l,_,_=>Wm _
 | k::ks,l,h,hs=>by
  rw[WW]at h;have hk:=hs k (wz ..);have:=nN (l:=l.erase k) h.2 λx hx=>(Xk (λe=>h.1 (by rw[<- e];exact hx))).mpr (hs x (wy _ hx))
  rw[xq hk]at this;have:=qt hk;rw[vo]
  lia
def BR(w:wJ):List V->Hp->VK->Prop:=λxs H Q=>∃(p:we)(ws:List V),xs=[.ref p]/\H p=some (mS w p ws)/\Q (.int (ws.length:Int)) H
theorem Om{X:Cx} : aK X (.builtin "len") (BR X.w):=by
 intro pins s σ H xs us Q I r h;obtain⟨p,ws,rfl,hp,q⟩:=h;obtain⟨u,rfl,rx⟩:=gY r;cases rx;obtain⟨⟨es,ep,t,y,r'⟩,_,_⟩:=I.aI p _ hp;obtain⟨o,h1,h2,h3⟩:=y.at';have hl:ws.length=es.size:=by have:=r'.length;simpa using this
 have:=y.bN;exact PySem.call_len_set h1 h2 h3 y.fits (by lia) ⟨.int (ws.length:Int),H,I.tok _,⟨s.toks+1,by rw[hl]⟩,q⟩
end L2
namespace TB
open PySem PySem.W PyProof.Rows MeetsSeq
section
variable{prog:wI}{w:wJ}{A:vb}{s:wl}{R:Result->wl->Prop}
end
end TB
namespace L2
open PySem PySem.Spec PyProof.Rows GM
section
variable{K:wb}{w:wJ}{H H':Hp}{Q:VK}{v:V}{p l:we}{xs ys:List Rat}{us ws:List V}
theorem Sv{r:Rat} : Is K H v (N r) ↔ CG K H v [r.num,(r.den:Int)]:=nG
theorem O3{r s:Rat}(h:([r.num,(r.den:Int)]:List Int)=[s.num,(s.den:Int)]):r=s:=by
 simp only[uO,and_true]at h;exact u6 h.1 (by lia)
theorem UJ:∀(ks:List (List Int)),(∀k∈ks,∃r:Rat,k=[r.num,(r.den:Int)])->∃ys:List Rat,ks=ys.map λr=>[r.num,(r.den:Int)]
 | [],_=>⟨[],rfl⟩
 | k::ks,h=>by
  obtain⟨r,rfl⟩:=h k (wz ..);obtain⟨ys,rfl⟩:=UJ ks λk hk=>h k (wy _ hk)
  exact⟨r::ys,rfl⟩
theorem PM:∀{ws:List V}{ys:List Rat},ws.length=ys.length->(∀(i:Nat)(v:V)(r:Rat),ws[i]? = some v->ys[i]? = some r->Is K H v (N r))->ak K H ws (ys.map N)
 | [],[],_,_=>.nil
 | [],_::_,h,_=>absurd h (by simp)
 | _::_,[],h,_=>absurd h (by simp)
 | v::ws,y::ys,h,hh=>.cons (hh 0 v y rfl rfl) (PM (by simpa using h) λi v r h1 h2=>hh (i+1) v r (by simpa using h1) (by simpa using h2))
end
end L2
namespace TB
open PySem
section
variable{prog:wI}{w:wJ}{K:Type}[DecidableEq K]{knd:KeyKind prog w K}{U:we->List K->Prop}{A:vb}{E:wg->wl->Prop}{s:wl}
set_option maxHeartbeats 3200000 in
theorem YQ(hv:∀k v,knd.is k v=true->∃i t,v=.int i t){l:we}{its:List wg}{key:Nat->List K}{ad:Nat->we}(hh:A.handled=none)(hu:A.units+64<WD)(hl:s.heap.IsTuple l its.toArray)
  (hi:∀(i:Nat) v,its[i]? = some v->v=.ref (ad i)) (hk:∀i,i<its.length->vH knd s.heap (key i) (ad i)) (hn:its.length<=999) (hU:∀j,j<its.length->U (ad j) (key j)) {Q:wg->wl->Prop}
  (q:∀(g:wG)(tk:Nat)(ks:List (List K)),TS knd U g s.heap.objs.size (fX w) ks->(∀x,x∈ks ↔ ∃j,j<its.length/\key j=x)->(∀b o,s.heap.get? b=some o->g.get? b=some o)->Q (.ref s.heap.objs.size) {s with heap:=g,toks:=tk}) :
  wx (model prog w) A (call (.type "set") [.ref l]) Q E s:=by
 obtain⟨c1,c2,mro⟩:=qb.mro;have f1:=qb.made;have f2:=qb.sub;have f3:=qb.notType;have f4:=qb.canCreate;have f5:=F.typeCall_set_1 (.ref l);refine wpAny_call (codeAny_of_tree (show wx _ _ (callAny (.type "set") _) _ _ _ from ?_));refine wp ⟨Code.quiet_builtin _ (by decide +kernel),qr F.entry_type_call ?_⟩;rw[Around.under_plain (weight_type_call_type "set" [.ref l] []) rfl]
 repeat(any_goals(first | assumption | wp_step))
 have nd:=zBE (prog:=prog) (w:=w) (A:=A.in1) (E:=E) (s:=s) (.ref l) (Q:=λv s1=>v=.ref s.heap.objs.size/\s1 = {s with heap:=s.heap.push (iO (fX w))}) ⟨rfl,rfl⟩;refine codeAny_mono nd λr s1 hr=>?_
 cases r with
 | error e=>exact hr
 | ok fl =>
  cases fl with
  | ret obj =>
   obtain⟨rfl,rfl⟩:=hr;have gS:(s.heap.push (iO (fX w))).get? s.heap.objs.size=some (iO (fX w)):=wN _ rfl;have tS:Shared.TypeIs {s with heap:=s.heap.push (iO (fX w))} (.ref s.heap.objs.size) "set":=⟨_,gS,rfl⟩;have g1:=qb.init.lookup;have g2:=qb.init.bind (.ref s.heap.objs.size)
   repeat(any_goals(first | assumption | wp_step))
   refine codeAny_mono (codeAny_call_builtin (R:=wants (λv s2=>v=.none /\ ∃g tk ks,s2 = {s with heap:=g,toks:=tk}/\TS knd U g s.heap.objs.size (fX w) ks/\(∀x,x∈ks ↔ ∃j,j<its.length/\key j=x) /\ ∀b o,s.heap.get? b=some o->g.get? b=some o) E)
    qb.init.plain F.entry_set_init (check_set_init_1 tS ?_)) λr2 s2 hr2=>?_
   ·obtain⟨ol,e1,e2,nl,e3⟩:=hl
    obtain⟨y1,y2,y3,y4⟩:=ol;dsimp only at e2 e3;subst e2;subst e3;have gl:(s.heap.push (iO (fX w))).get? l=some {cls:=.type "tuple",dict:=y2,data:=.seq its.toArray nl,slots:=y4}:=wn _ e1;have n1:=F.sub_tuple_set;have n2:=F.sub_tuple_frozenset;have n3:(Value.type "tuple" == Value.type "dict")=false:=by decide
    have il:(s.heap.push (iO (fX w))).IsTuple l its.toArray:=⟨_,gl,rfl,nl,rfl⟩;unfold Builtin.«set.__init__» noKeywords u9;generalize hPI:pyIter=PI
    wp_walk
    subst hPI;refine Vc il ?_;refine wf (wpAny_runValue ?_);have ls:l<s.heap.objs.size:=wD e1;have zs:(s.heap.push (iO (fX w))).objs.size=s.heap.objs.size+1:=V1 ..;have ne:l≠(s.heap.push (iO (fX w))).objs.size:=by rw[zs];exact wQ (VO ls)
    have nf:s.heap.objs.size ∉ [(s.heap.push (iO (fX w))).objs.size,l]:=by
     rw[zs];intro hm;rcases wF.mp hm with e | hm
     ·exact absurd e (wQ (Nat.lt_succ_self _))
     ·rcases wF.mp hm with e | hm
      ·exact absurd e (vn ls)
      ·cases hm
    have kp:∀b o,s.heap.get? b=some o->((s.heap.push (iO (fX w))).push {cls:=.type "tuple_iterator",data:=.fields #[.ref l,.int 0 0]}).get? b=some o:=λb o e=>wn _ (wn _ e)
    refine zEN hv ((Walks.tuple (by simp[hh]) _ l ne its.toArray).toS) (S:=s.heap.objs.size) nf (by show A.units+1+1+1<_;lia) (led:=fX w) (key:=key) (ad:=ad)
     (λi v hp=>hi i v (by simpa using hp)) ?hI (by simpa using hn) (λj hj=>hU j (by simpa using hj)) (its.toArray.size-0) 0 _ [] rfl (Wm _) ⟨⟨_,wN _ rfl,rfl,rfl⟩,il.at λo e=>wn _ e⟩
     (λj hj=>tR (hk j (by simpa using hj)) λo eo=>kp _ o eo) (TS.new (wn _ gS)) (λx=>⟨λh=>absurd h WA,λ⟨j,j1,_⟩=>absurd j1 (WI _)⟩) (wo _) ?fin
    case hI =>
     intro i s9 a9 k9 st9 x9 hm;obtain⟨⟨o8,u1,u2,_⟩,_⟩:=st9;obtain⟨o9,_,_,v1,v2,_⟩:=x9;rcases wF.mp hm with e | hm
     ·subst e
      rw[u1]at v1;cases v1;rw[u2]at v2;exact absurd (Value.type.inj v2) (by decide)
     ·cases hm
    case fin =>
     intro s9 ks9 mv f9 ts9 m9;obtain⟨g,x1,x2,x3,x4⟩:=s9;obtain rfl:x1=s.gens:=mv.gens;obtain rfl:x2=s.drawn:=mv.drawn;obtain rfl:x4=s.os:=mv.os;refine wp (wp ⟨rfl,g,x3,ks9,rfl,ts9,by simpa using m9,λb o e=>?_⟩);have lb:b<s.heap.objs.size:=wD e;refine mv.heap b o (λhm=>?_) (kp b o e);rcases wF.mp hm with e' | hm
     ·exact absurd e' (wQ lb)
     ·rcases wF.mp hm with e' | hm
      ·rw[zs]at e';exact absurd e' (wQ (VO lb))
      ·cases hm
   ·cases r2 with
    | error e=>exact hr2
    | ok fl2 =>
     cases fl2 with
     | ret v =>
      obtain⟨rfl,g,tk,ks,rfl,a1,a2,a3⟩:=hr2
      repeat(any_goals(first | assumption | wp_step))
      exact q g tk ks a1 a2 a3
     | _=>exact hr2.elim
  | _=>exact hr.elim
end
end TB
namespace L2
open PySem PySem.Spec PyProof.Rows GM
def tU(K:wb)(w:wJ):List V->Hp->VK->Prop:=λxs H Q=>∃(p:we)(vs:List V)(key:Nat->List Int),xs=[.ref p]/\aU K H p vs/\vs.length<=999/\(∀j v,vs[j]? = some v->CG K H v (key j)) /\
 ∀(l:we)(ws:List V)(ks:List (List Int)),H l=none->ws.length=ks.length->(∀(i:Nat)(v:V)(k:List Int),ws[i]? = some v->ks[i]? = some k->CG K H v k)->ks.Nodup->(∀x,x∈ks ↔ ∃j,j<vs.length/\key j=x) ->
  Q (.ref l) (upd H l (mS w l ws))
theorem Mr{X:Cx}(hu:X.A.units+64<WD)(hc:X.calm=true):aK X (.type "set") (tU X.K X.w):=by
 intro pins s σ H xs us Q I r h;obtain⟨p,vs,key,rfl,hq,hn,hk,q⟩:=h;obtain⟨u,rfl,rx⟩:=gY r;cases rx;obtain⟨its,r',pl,hz⟩:=I.tuple hq;have hlen:=r'.length
 have hx:∀j:Nat,∃ad:we,∀v,vs[j]? = some v->v=.ref ad/\aU X.K H ad ((key j).map V.int):=λj=>by
  cases e:vs[j]? with
  | none=>exact⟨0,λv h=>by cases h⟩
  | some v =>
   obtain⟨ad,h1,h2⟩:=hk j v e;exact⟨ad,λv' h=>by cases h;exact⟨h1,h2⟩⟩
 obtain⟨ad,had⟩:∃ad:Nat->we,∀j v,vs[j]? = some v->v=.ref (ad j)/\aU X.K H (ad j) ((key j).map V.int):=⟨λj=>(hx j).choose,λj=>(hx j).choose_spec⟩;have hg:∀j,j<its.length->∃v,vs[j]? = some v:=λj hj=>⟨vs[j]'(by lia),wc _⟩
 refine TB.YQ (knd:=intKind X.prog X.w) (U:=λa k=>aU X.K H a (k.map V.int)) zxc (key:=key) (ad:=ad) (I.ok.hd hc) hu (let ⟨o,e,hc,n,hd⟩:=pl;⟨o,e,hc,n,hd⟩) (λj v hv=>?_) (λj hj=>?_) (by lia) (λj hj=>?_) λg tk ks hS hm kp=>?_
 ·obtain⟨v',hv'⟩:=hg j (by rcases wA j its.length with h | h;exact h;rw[wL h]at hv;cases hv)
  obtain⟨rfl,_⟩:=had j v' hv';have:=ND r' hv';rw[hv]at this;exact wM this
 ·obtain⟨v',hv'⟩:=hg j hj
  exact I.key (had j v' hv').2
 ·obtain⟨v',hv'⟩:=hg j hj
  exact(had j v' hv').2
 ·obtain⟨o,es,ep,t,e1,e2,e3,e4,e5,e6,e7,e8,e9,e10⟩:=hS
  obtain⟨f1,f2⟩:=e9
  have kl:ks.length<=999:=Wa (nN e10 (l:=(wt its.length).map key) λx hx=>by
   obtain⟨j,h1,h2⟩:=(hm x).mp hx;exact wU.mpr ⟨j,wH.mpr h1,h2⟩) (by rw[wm,vx];lia)
  have hz':es.size=ks.length:=by rw[<- f1,wK]
  have hr:∀e∈es.toList,∃a,e.2=.ref a:=λe he=>by
   obtain⟨i,hi⟩:=x5.mp he;obtain⟨k,hk'⟩:∃k,ks[i]? = some k:=⟨_,wc (by rw[<- f1];exact(Wt.mp hi).1)⟩;obtain⟨a,h1,_⟩:=f2 i e k hi hk';exact⟨a,h1⟩
  refine⟨.ref s.heap.objs.size,_,I.laid (t':=tk) kp (wo _) (show dQ X.prog X.w _ _ _ (mS X.w s.heap.objs.size (es.toList.map λe=>Ae e.2))from⟨⟨es,ep,t,⟨⟨o,e1,e2,e3⟩,?_,?_,e4.jk,e8,e7,by lia⟩,?_⟩,⟨o,e1⟩,?_⟩),rfl,
   q _ _ ks (I.aI.fresh (wo _)) (by rw[wm];exact f1) (λi v k hv hk'=>?_) e10 λx=>by rw[hlen];exact hm x⟩
  ·have:=e4.fits
   rwa[wm,wK]at this
  ·rw[e4.size,wm,wK]
  ·exact zqx _ hr
  ·rintro h1 h2 ⟨es',ep',t',a1,a2⟩ hh
   exact⟨es',ep',t',a1.same hh,a2⟩
  ·rw[wu]at hv
   cases e:es.toList[i]? with
   | none=>rw[e]at hv;cases hv
   | some x =>
    rw[e]at hv;cases hv;obtain⟨a,h1,_,_,h2⟩:=f2 i x k e hk';exact⟨a,by show Ae x.2=_;rw[h1];rfl,h2⟩
section
variable{K:wb}{w:wJ}{H H':Hp}{Q:VK}{v:V}{p l:we}{xs ys:List Rat}{us ws:List V}
theorem UM(h:Is K H v (TN xs))(hn:xs.length<=999)(q:∀(l:we)(H':Hp)(ws:List V)(ys:List Rat),H l=none->ah H H'->H' l=some (mS w l ws)->ak K H' ws (ys.map N)->ys.Nodup->(∀y,y∈ys ↔ y∈xs)->Q (.ref l) H'):tU K w [v] H Q:=by
 obtain⟨p,vs,rfl,hs,t⟩:=bX.mp h;have hl:=t.length;rw[wm]at hl;refine⟨p,vs,λj=>[(xs.getD j 0).num,((xs.getD j 0).den:Int)],rfl,hs,by lia,λj v hv=>Sv.mp (dD t hv).2,λl ws ks h1 h2 h3 h4 h5=>?_⟩
 obtain⟨ys,rfl⟩:=UJ ks λk hk=>by
  obtain⟨j,_,e⟩:=(h5 k).mp hk;exact⟨_,e.symm⟩
 have S:ah H (upd H l (mS w l ws)):=ah.upd h1;rw[wm]at h2;refine q l _ ws ys h1 S cX (PM h2 λi v r hv hr=>(Sv.mpr (h3 i v _ hv (by rw[wu,hr];rfl))).by S) ?_ λy=>?_
 ·unfold List.Nodup at h4 ⊢
  rw[qw]at h4;exact h4.imp λ{a b} h e=>h (by rw[e])
 ·have:=h5 [y.num,(y.den:Int)]
  constructor
  ·intro hy
   obtain⟨j,hj,e⟩:=this.mp (wU.mpr ⟨y,hy,rfl⟩);rw[<- O3 e];exact getD_mem (by lia)
  ·intro hy
   obtain⟨j,hj,e⟩:=wX hy;obtain⟨r,hr,er⟩:=wU.mp (this.mpr ⟨j,by lia,by show [(xs.getD j 0).num,((xs.getD j 0).den:Int)]=_;rw[wa,wc hj,Qw,e]⟩);rw[<- O3 er];exact hr
end
end L2
namespace GM
section
variable(rs:List Int)(us ts:List (List Int))(ps cs:List Int)
end
section
variable{rs:List Int}{us ts:List (List Int)}{ps cs:List Int}
end
section
variable(rs:List Int)(us ts:List (List Int))(ps cs:List Int)
end
section
variable{rs:List Int}{us ts:List (List Int)}{ps cs:List Int}{f:Nat}{g:List Nat}{acc:List (List Nat)}
end
section
variable(rs:List Int)(us ts:List (List Int))(ps:List Int)(cm:List (List Int))
end
section
variable{rs:List Int}{us ts:List (List Int)}{ps:List Int}{cm:List (List Int)}
end
end GM
namespace L2
open PySem PySem.Spec PyProof.Rows GM
section
variable{K:wb}{H H':Hp}{Q:VK}{v:V}{rs ps:List Int}{us ts cm rows:List (List Int)}{m:Int}{ws:List (List Nat)}
end
theorem zCX{i:Nat}{te:TE}{ti:pV}{D:cv}{σ : L2.St}{H:Hp}(h:∃x,σ[i]? = some (some x)/\te σ H λy H1=>ti x y H1 λz H2=>D.nx (σ.set i (some z)) H2):KW i te ti D σ H:=h
theorem zAe{v:V}{P:V->Prop}{o:Option (Option V)}(h:o=some (some v))(q:P v):∃x,o=some (some x)/\P x:=⟨v,h,q⟩
theorem zDv{f:Int->Int->Int}{m n:Int}{H:Hp}{Q:VK}(q:Q (.int (f m n)) H):OZ f (.int m) (.int n) H Q:=⟨m,n,rfl,rfl,q⟩
end L2
namespace TB
open PySem PySem.W PyProof.Rows
inductive ee{α β : Type}(R : α -> β -> Prop):List α -> List β -> Prop
 | nil:ee R [] []
 | cons {a : α} {b : β} {l:List α} {m:List β} : R a b->ee R l m->ee R (a::l) (b::m)
structure HV(prog:wI)(w:wJ)(K:Type)[DecidableEq K] where
 is:wG->K->wg->Prop
 hash:K->Int
 draws:K->Nat
 deep:Nat
 inj:∀{h:wG}{v:wg}{x y:K},is h x v->is h y v->x=y
 keeps:∀{h h':wG}{k:K}{v:wg}{d:we}{o:Obj}{es ep},is h k v->h.get? d=some o->o.data=.dict es ep->vv d h h'->is h' k v
 pyHash:∀{A:vb}{E:wg->wl->Prop}{s:wl}{k:K}{v:wg}{Q:Int->wl->Prop},A.units+deep<WD->is s.heap k v->Q (hash k) {s with toks:=s.toks+draws k}->wx (model prog w) A (PySem.pyHash v) Q E s
 eqBool:∀{A:vb}{E:wg->wl->Prop}{s:wl}{x y:K}{u v:wg}{Q:Bool->wl->Prop},A.units+deep<WD->is s.heap x u->is s.heap y v->Q (decide (x=y)) s->wx (model prog w) A (PySem.eqBool u v) Q E s
 quiet:∀{A:vb}{E:wg->wl->Prop}{s:wl}{k:K}{v:wg}{Q:Bool->wl->Prop}(n:Nat),deep<=n->is s.heap k v->Q true s->wx (model prog w) A (eqIsQuiet n v) Q E s
section
variable{prog:wI}{w:wJ}{A:vb}{E:wg->wl->Prop}{s:wl}
variable{a:we}
theorem P0{o:Obj}{items:Array wg}{n:Nat}{hs:List (Int × Nat)}{Q:Int->wl->Prop}(hu:A.units<WD)(ho:s.heap.get? a=some o)(hc:o.cls=.type "tuple")(hd:o.data=.seq items n)
  (hi:ee (λv (x:Int × Nat)=>∀(E:wg->wl->Prop)(Q:Int->wl->Prop)(s':wl),s'.heap=s.heap->Q x.1 {s' with toks:=s'.toks+x.2}->wx (model prog w) A.in1 (pyHash v) Q E s') items.toList hs)
  (h:Q (reduceHash (vZ (hs.map (·.1)))) {s with toks:=s.toks+((hs.map (·.2)).sum+1)}) :
  wx (model prog w) A (pyHash (.ref a)) Q E s:=by
 have hT:s.TypeIs (.ref a) "tuple":=⟨o,ho,hc⟩;unfold pyHash
 first | unfold pyHashByItsType | skip
 first | refine wf (wpAny_cRoomFor_or (.inr hu) ?_) | skip
 refine wf (qU hT qx.lookup ?_)
 show wx _ _ (if(some (Value.builtin "tuple.__hash__") == some Value.none)=true then _ else _) Q E s
 rw[if_neg (by rw[beq_builtin_none];exact vF)];refine wf (qU hT qx.lookup ?_)
 show wx _ _ (callSpecialIfBoundUnlessNone? (.ref a) "__hash__" _ >>= _) Q E s
 refine wf (wpAny_callSpecialIfBoundUnlessNone?_slot hT qx (Wd qx hT F.entry_tuple_hash ?_ (F.args_tuple_hash_1 _)))
 show wx _ _ (Q4 (.ref a) >>= _) _ _ s
 refine wf (wpAny_tupleItemsOf ho hd ?_);refine wf ?_;rw[<- Vz]
 refine qc _
  (λdw (b:Array Int) s'=>∃done left,hs=done++left/\ee (λv (x:Int × Nat)=>∀(E:wg->wl->Prop)(Q:Int->wl->Prop)(s':wl),s'.heap=s.heap->Q x.1 {s' with toks:=s'.toks+x.2}->wx (model prog w) A.in1 (pyHash v) Q E s') dw left/\b.toList=done.map (·.1)/\s' = {s with toks:=s.toks+(done.map (·.2)).sum})
  _ ?_ ?_ _ _ ⟨[],hs,rfl,hi,rfl,rfl⟩
 ·rintro x dw b s' ⟨done,left,rfl,hl,hb,rfl⟩
  cases hl with
  | @cons _ k _ ks' h1 hl' =>
   refine wf (h1 _ _ _ rfl ?_)
   first
    | exact wp ⟨done++[k],ks',by simp,hl',by simp[hb],by simp[WS]⟩
    | exact wf (wp (wp ⟨done++[k],ks',by simp,hl',by simp[hb],by simp[WS]⟩))
 ·rintro b s' ⟨done,left,rfl,hl,hb,rfl⟩
  cases hl;rw[Wh]at h
  show wx _ _ (retInt (vZ b.toList)) _ _ _
  rw[hb];refine wpAny_ret_mkInt ?_
  show wx _ _ (if(decide (-(2:Int)^63<=vZ (done.map (·.1)))&&decide (vZ (done.map (·.1))<2^63))=true then _ else _) Q E _
  unfold reduceHash at h
  by_cases hr:(decide (-(2:Int)^63<=vZ (done.map (·.1)))&&decide (vZ (done.map (·.1))<2^63))=true
  ·rw[if_pos hr]
   rw[if_pos hr]at h;exact wp (by simpa [WS] using h)
  ·rw[if_neg hr]
   rw[if_neg hr]at h;exact wf (wpAny_rule (wp (by simpa [WS] using h)))
theorem zCu{b:we}{oa ob:Obj}{xs ys:Array wg}{na nb:Nat}{bs:List Bool}{P:PySem.Fin->wl->Prop}(hoa:s.heap.get? a=some oa)(hda:oa.data=.seq xs na)(hob:s.heap.get? b=some ob)(hcb:ob.cls=.type "tuple")(hdb:ob.data=.seq ys nb)
  (hi:ee (λ(p:wg × wg)(c:Bool)=>∀(E:wg->wl->Prop)(Q:Bool->wl->Prop),Q c s->wx (model prog w) A (eqBool p.1 p.2) Q E s) (xs.toList.zip ys.toList) bs)
  (h:P (.done (.ret (.bool (bs.all id&&xs.size == ys.size)))) s) :
  wx (model prog w) A (Builtin.«tuple.__eq__» ⟨[.ref a,.ref b],[]⟩) P E s:=by
 have hTb:s.TypeIs (.ref b) "tuple":=⟨ob,hob,hcb⟩
 show wx _ _ (isInstance (.ref b) (.type "tuple") >>= _) _ _ s
 refine wf (Vr hTb isSubtype_tuple_tuple ?_);simp only[Wv,ve,if_false];refine wf (wpAny_tupleItemsOf hoa hda ?_);refine wf (wpAny_tupleItemsOf hob hdb ?_);refine wf ?_
 refine qc _
  (λdw r s'=>r.1=none/\s'=s /\ ∃cs,ee (λ(p:wg × wg)(c:Bool)=>∀(E:wg->wl->Prop)(Q:Bool->wl->Prop),Q c s->wx (model prog w) A (eqBool p.1 p.2) Q E s) dw cs/\bs.all id=cs.all id)
  _ ?_ ?_ _ _ ⟨rfl,rfl,bs,hi,rfl⟩
 ·rintro ⟨u,v⟩ dw r s' ⟨hr,rfl,cs,hcs,hall⟩
  cases hcs with
  | @cons _ c _ cs' h1 h2 =>
   refine wf (h1 _ _ ?_);cases c with
   | true =>
    simp only[Wv,ve,if_false];exact wp ⟨rfl,rfl,cs',h2,by rw[hall];simp⟩
   | false =>
    simp only[QN,if_true];have hf:bs.all id=false:=by rw[hall];simp
    rw[hf,Ww]at h;exact wf (wp (wp (wp h)))
 ·rintro ⟨r1,r2⟩ s' ⟨hr,rfl,cs,hcs,hall⟩
  simp only at hr;subst hr;refine wp ?_;cases hcs;rw[hall]at h;have h':P (.done (.ret (.bool (xs.size == ys.size)))) s':=by simpa using h
  exact h'
theorem Pt{o:Obj}{items:Array wg}{n m:Nat}{Q:Bool->wl->Prop}(ho:s.heap.get? a=some o)(hc:o.cls=.type "tuple")(hd:o.data=.seq items n)
  (hi:∀v∈items.toList,∀(E:wg->wl->Prop)(Q:Bool->wl->Prop),Q true s->wx (model prog w) A (eqIsQuiet m v) Q E s) (h:Q true s):wx (model prog w) A (eqIsQuiet (m+1) (.ref a)) Q E s:=by
 have hT:s.TypeIs (.ref a) "tuple":=⟨o,ho,hc⟩;unfold eqIsQuiet;refine wf (qU hT xF.lookup ?_)
 show wx _ _ (isInstance (.ref a) (.type "tuple") >>= _) _ _ s
 refine wf (Vr hT isSubtype_tuple_tuple ?_);simp only[Wv,ve,if_false];refine wf (Wg ho hd ?_);refine wf ?_
 show wx _ _ (forIn items _ _) _ _ s
 rw[<- Vz];refine qc _ (λdw r s'=>r.1=none/\s'=s /\ ∀v∈dw,v∈items.toList) _ ?_ ?_ _ _ ⟨rfl,rfl,λ_ h=>h⟩
 ·rintro v dw r s' ⟨hr,rfl,hall⟩
  refine wf (hi v (hall v wz) _ _ ?_);simp only[Wv,ve,if_false];exact wp ⟨rfl,rfl,λu hu'=>hall u (wy _ hu')⟩
 ·rintro ⟨r1,r2⟩ s' ⟨hr,rfl,_⟩
  simp only at hr;subst hr;exact wp h
theorem OE{b:we}{oa ob:Obj}{xs ys:Array wg}{na nb:Nat}{bs:List Bool}{Q:Bool->wl->Prop}(hu:A.units<WD)(hoa:s.heap.get? a=some oa)(hca:oa.cls=.type "tuple")(hda:oa.data=.seq xs na)(hob:s.heap.get? b=some ob)(hcb:ob.cls=.type "tuple")(hdb:ob.data=.seq ys nb)
  (he:a=b->(bs.all id&&xs.size == ys.size)=true)
  (hi:ee (λ(p:wg × wg)(c:Bool)=>∀(E:wg->wl->Prop)(Q:Bool->wl->Prop),Q c s->wx (model prog w) A.in1 (eqBool p.1 p.2) Q E s) (xs.toList.zip ys.toList) bs)
  (h:Q (bs.all id&&xs.size == ys.size) s):wx (model prog w) A (eqBool (.ref a) (.ref b)) Q E s:=by
 unfold eqBool
 try with_reducible refine Wk ?_
 show wx _ _ (if(Value.ref a == Value.ref b)=true then _ else _) Q E s
 by_cases hab:(Value.ref a == Value.ref b)=true
 ·rw[if_pos hab]
  have e:a=b:=by have:=eq_of_beq hab;injection this
  rw[he e]at h;exact wf (wpAny_rule (wp h))
 ·rw[if_neg hab]
  have ta:s.TypeIs (.ref a) "tuple":=⟨oa,hoa,hca⟩;have tb:s.TypeIs (.ref b) "tuple":=⟨ob,hob,hcb⟩
  exact wf (wpAny_richCompare_same_room (op:=.Eq) ta tb xF
   (Wd xF ta F.entry_tuple_eq (zCu hoa hda hob hcb hdb hi ⟨_,rfl,(λe=>nomatch e),Wo h⟩) (F.args_tuple_eq_2 _ _)) hu)
end
def kJ(R:List wg->Prop)(h:wG)(v:wg):Prop:=∃a o items n,v=.ref a/\h.get? a=some o/\o.cls=.type "tuple"/\o.data=.seq items n/\R items.toList
theorem kJ.inj{R S:List wg->Prop}{h:wG}{v:wg}(x:kJ R h v)(y:kJ S h v):∃l,R l/\S l:=by
 obtain⟨a,o,items,n,rfl,ho,_,hd,hi⟩:=x;obtain⟨a',o',items',n',e,ho',_,hd',hi'⟩:=y;cases e;obtain rfl:o=o':=wM (ho.symm.trans ho');rw[hd]at hd'
 injection hd' with h1 _
 subst h1;exact⟨_,hi,hi'⟩
theorem kJ.keeps{R S:List wg->Prop}{h h':wG}{v:wg}{d:we}{o:Obj}{es ep}(x:kJ R h v)(ho:h.get? d=some o)(hd:o.data=.dict es ep)(hs:vv d h h')(r:∀l,R l->S l):kJ S h' v:=by
 obtain⟨a,o',items,n,rfl,ho',hc,hd',hi⟩:=x
 have hne:a≠d:=by
  rintro rfl;obtain rfl:o'=o:=wM (ho'.symm.trans ho);rw[hd]at hd';exact nomatch hd'
 exact⟨a,o',items,n,rfl,(hs.2 a hne).trans ho',hc,hd',r _ hi⟩
def fT(prog:wI)(w:wJ):HV prog w Int where
 is:=λ_ k v=>∃t,v=.int k t
 hash:=hashInt
 draws:=λ_=>1
 deep:=0
 inj:=λ⟨t,e⟩ ⟨u,f⟩=>by subst e;injection f
 keeps:=λh _ _ _=>h
 pyHash:=λ_ ⟨t,e⟩ h=>by subst e;exact wpAny_pyHash_int h
 eqBool:=λ_ ⟨t,e⟩ ⟨u,f⟩ h=>by subst e f;exact wpAny_eqBool_int h
 quiet:=λn _ ⟨t,e⟩ h=>by subst e;rw[eqIsQuiet_byValue n rfl];exact wp h
section
variable{prog:wI}{w:wJ}{K:Type}[DecidableEq K](e:HV prog w K)
theorem Yo{A:vb}{s:wl}(hu:A.in1.units+e.deep<WD):∀{ks:List K}{vs:List wg},ee (e.is s.heap) ks vs ->
  ee (λv (x:Int × Nat)=>∀(E:wg->wl->Prop)(Q:Int->wl->Prop)(s':wl),s'.heap=s.heap->Q x.1 {s' with toks:=s'.toks+x.2}->wx (model prog w) A.in1 (pyHash v) Q E s') vs (ks.map λk=>(e.hash k,e.draws k))
 | _,_,.nil=>.nil
 | _,_,.cons h t=>.cons (λE Q s' he q=>e.pyHash hu (he ▸ h) q) (Yo hu t)
theorem Tn{A:vb}{s:wl}(hu:A.in1.units+e.deep<WD):∀{ks js:List K}{us vs:List wg},ee (e.is s.heap) ks us->ee (e.is s.heap) js vs ->
  ∃bs,ee (λ(p:wg × wg)(c:Bool)=>∀(E:wg->wl->Prop)(Q:Bool->wl->Prop),Q c s->wx (model prog w) A.in1 (eqBool p.1 p.2) Q E s) (us.zip vs) bs/\(bs.all id&&us.length == vs.length)=decide (ks=js)
 | _,_,_,_,.nil,.nil=>⟨[],.nil,by simp⟩
 | _,_,_,_,.nil,.cons _ _=>⟨[],.nil,by simp⟩
 | _,_,_,_,.cons _ _,.nil=>⟨[],.nil,by simp⟩
 | k::ks,j::js,_,_,.cons h t,.cons h' t'=>by
  obtain⟨bs,b1,b2⟩:=Tn hu t t';refine⟨decide (k=j)::bs,.cons (λE Q q=>e.eqBool hu h h' q) b1,?_⟩;rw[Xn,Bool.and_assoc,vo,vo,show ∀a b:Nat,(a+1 == b+1)=(a == b)from λa b=>by simp,b2]
  by_cases h1:k=j<;>by_cases h2:ks=js<;>simp[h1,h2]
theorem Gj{h:wG} : ∀{ks js:List K}{vs:List wg},ee (e.is h) ks vs->ee (e.is h) js vs->ks=js
 | _,_,_,.nil,.nil=>rfl
 | _,_,_,.cons h t,.cons h' t'=>by rw[e.inj h h',Gj t t']
theorem N1{α β : Type}{R S : α -> β -> Prop}(f:∀a b,R a b->S a b):∀{l:List α}{m:List β},ee R l m->ee S l m
 | _,_,.nil=>.nil
 | _,_,.cons h t=>.cons (f _ _ h) (N1 f t)
theorem RA{α β : Type}{R : α -> β -> Prop} : ∀{l:List α}{m:List β},ee R l m->∀y∈m,∃x,R x y
 | _,_,.nil,y,hy=>by cases hy
 | _,_,.cons h t,y,hy=>by
  rcases wF.mp hy with rfl | hy
  ·exact⟨_,h⟩
  ·exact RA t y hy
def gh:HV prog w (List K) where
 is:=λh ks v=>kJ (ee (e.is h) ks) h v
 hash:=λks=>reduceHash (vZ ((ks.map λk=>(e.hash k,e.draws k)).map (·.1)))
 draws:=λks=>((ks.map λk=>(e.hash k,e.draws k)).map (·.2)).sum+1
 deep:=e.deep+1
 inj:=λx y=>by
  obtain⟨l,h1,h2⟩:=x.inj y;exact Gj e h1 h2
 keeps:=λx ho hd hs=>x.keeps ho hd hs λl h=>N1 (λa b r=>e.keeps r ho hd hs) h
 pyHash:=λ{A E s k v Q} hu x h=>by
  obtain⟨a,o,items,n,rfl,ho,hc,hd,hi⟩:=x;exact P0 (by lia) ho hc hd (Yo e (show A.units+1+e.deep<WD by lia) hi) h
 eqBool:=λ{A E s x y u v Q} hu hx hy h=>by
  have hj:u=v->x=y:=λev=>by
   subst ev;obtain⟨l,h1,h2⟩:=hx.inj hy;exact Gj e h1 h2
  obtain⟨a,o,items,n,rfl,ho,hc,hd,hi⟩:=hx;obtain⟨a',o',items',n',rfl,ho',hc',hd',hi'⟩:=hy;obtain⟨bs,b1,b2⟩:=Tn e (A:=A) (show A.units+1+e.deep<WD by lia) hi hi';have b3:(bs.all id&&items.size == items'.size)=decide (x=y):=by rw[<- b2];rfl
  refine OE (by lia) ho hc hd ho' hc' hd' (λea=>?_) b1 (by rw[b3];exact h);rw[b3];exact decide_eq_true (hj (by rw[ea]))
 quiet:=λ{A E s k v Q} n hn x h=>by
  obtain⟨a,o,items,m,rfl,ho,hc,hd,hi⟩:=x;obtain⟨j,rfl⟩:∃j,n=j+1:=⟨n-1,by lia⟩
  exact Pt ho hc hd (λu hu E Q q=>by
   obtain⟨x,hx⟩:=RA hi u hu;exact e.quiet j (by lia) hx q) h
end
section
variable{prog:wI}{w:wJ}{J K:Type}[DecidableEq J][DecidableEq K](d:HV prog w J)(e:HV prog w K)
def Two(h:wG)(k:J × K)(l:List wg):Prop:=∃u v,l=[u,v]/\d.is h k.1 u/\e.is h k.2 v
def Rn:HV prog w (J × K) where
 is:=λh k v=>kJ (Two d e h k) h v
 hash:=λk=>reduceHash (vZ ([(d.hash k.1,d.draws k.1),(e.hash k.2,e.draws k.2)].map (·.1)))
 draws:=λk=>([(d.hash k.1,d.draws k.1),(e.hash k.2,e.draws k.2)].map (·.2)).sum+1
 deep:=max d.deep e.deep+1
 inj:=λ{h v x y} hx hy=>by
  obtain⟨l,⟨u,v,rfl,h1,h2⟩,u',v',e',h3,h4⟩:=hx.inj hy;cases e';exact VH (d.inj h1 h3) (e.inj h2 h4)
 keeps:=λx ho hd hs=>x.keeps ho hd hs λl ⟨u,v,r,h1,h2⟩=>⟨u,v,r,d.keeps h1 ho hd hs,e.keeps h2 ho hd hs⟩
 pyHash:=λ{A E s k v Q} hu x h=>by
  obtain⟨a,o,items,n,rfl,ho,hc,hd,u,v,hl,h1,h2⟩:=x
  exact P0 (by lia) ho hc hd (by
   rw[hl];exact .cons (λE Q s' he q=>d.pyHash (show A.units+1+d.deep<WD by lia) (he ▸ h1) q) (.cons (λE Q s' he q=>e.pyHash (show A.units+1+e.deep<WD by lia) (he ▸ h2) q) .nil)) h
 eqBool:=λ{A E s x y u v Q} hu hx hy h=>by
  have hj:u=v->x=y:=λev=>by
   subst ev;obtain⟨l,⟨u,v,rfl,h1,h2⟩,u',v',e',h3,h4⟩:=hx.inj hy;cases e';exact VH (d.inj h1 h3) (e.inj h2 h4)
  obtain⟨a,o,items,n,rfl,ho,hc,hd,u,v,hl,h1,h2⟩:=hx;obtain⟨a',o',items',n',rfl,ho',hc',hd',u',v',hl',h1',h2'⟩:=hy
  have b3:([decide (x.1=y.1),decide (x.2=y.2)].all id&&items.size == items'.size)=decide (x=y):=by
   rw[<- wK,<- wK,hl,hl'];obtain⟨x1,x2⟩:=x;obtain⟨y1,y2⟩:=y
   by_cases h1:x1=y1<;>by_cases h2:x2=y2<;>simp[h1,h2]
  refine OE (bs:=[decide (x.1=y.1),decide (x.2=y.2)]) (by lia) ho hc hd ho' hc' hd' (λea=>?_) ?_ (by rw[b3];exact h)
  ·rw[b3]
   exact decide_eq_true (hj (by rw[ea]))
  ·rw[hl,hl']
   exact .cons (λE Q q=>d.eqBool (show A.units+1+d.deep<WD by lia) h1 h1' q) (.cons (λE Q q=>e.eqBool (show A.units+1+e.deep<WD by lia) h2 h2' q) .nil)
 quiet:=λ{A E s k v Q} n hn x h=>by
  obtain⟨a,o,items,m,rfl,ho,hc,hd,u,v,hl,h1,h2⟩:=x;obtain⟨j,rfl⟩:∃j,n=j+1:=⟨n-1,by lia⟩
  exact Pt ho hc hd (λu hu E Q q=>by
   rw[hl]at hu;rcases wF.mp hu with rfl | hu
   ·exact d.quiet j (by lia) h1 q
   ·rw[w6]at hu
    subst hu;exact e.quiet j (by lia) h2 q) h
end
abbrev SK:=List Int × List (List Int)
def j6(prog:wI)(w:wJ):HV prog w SK:=Rn (gh (fT prog w)) (gh (gh (fT prog w)))
def Z2(prog:wI)(w:wJ):HeapKind prog w SK where
 is:=λh k a=>(j6 prog w).is h k (.ref a)
 hash:=(j6 prog w).hash
 draws:=(j6 prog w).draws
 room:=λA=>A.units+3<WD
 inj:=λx y=>(j6 prog w).inj x y
 keeps:=λx ho hd hs=>(j6 prog w).keeps x ho hd hs
 pyHash:=λhu hk h=>(j6 prog w).pyHash hu hk h
 eqBool:=λhu hx hy h=>(j6 prog w).eqBool hu hx hy h
 quiet:=λhk h=>(j6 prog w).quiet 8 (by show 3<=8;decide) hk h
end TB
namespace L2
open PySem PySem.Spec PyProof.Rows GM
open TB (SK Z2 j6 gh fT Rn ee)
theorem Rw{P:wI}{w:wJ}{h:wG} : ∀{us:List wg}{ns:List Int},IntsAre us ns->ee ((fT P w).is h) ns us
 | _,_,.nil=>.nil
 | _,_,.cons n t r=>.cons ⟨t,rfl⟩ (Rw r)
section
variable{X:Cx}{pins:List (we × Obj)}{σ : St}{H:Hp}{s:wl}
theorem Inv.Zb(I:Inv X pins σ H s){v:V}{u:wg}{k:List Int}(h:Is X.K H v (TZ k))(r:bj v u):(gh (fT X.prog X.w)).is s.heap k u:=by
 obtain⟨q,rfl,hs⟩:=p9.mp h;obtain⟨its,r',⟨o,e,hc,n,hd⟩,_⟩:=I.tuple hs;cases (show u=Value.ref q from r);exact⟨q,o,its.toArray,n,rfl,e,hc,hd,Rw (sZ r')⟩
end
def zES(l:List (Int × Nat)):Int:=reduceHash (vZ (l.map (·.1)))
def zDW(ks:List Int):Int:=zES (ks.map λk=>(hashInt k,1))
section
variable{X:Cx}{pins:List (we × Obj)}{σ : St}{H:Hp}{s:wl}{a b:we}{xs:List (SK × we × Int)}{ps:List Int}{cm:List (List Int)}{A:vb}{E:wg->wl->Prop}
end
section
variable{X:Cx}{pos pos':Pos}{i o value:Expr}{ty td tv:TE}
end
section
variable{K:wb}{H H':Hp}{Q:VK}{D:cv}{σ : St}{td ty tv:TE}{a b:we}{xs:List (SK × we × Int)}{ps:List Int}{cm:List (List Int)}{n:Int}
end
section
variable{X:Cx}{N':List Str}{scope:Scope}{cl:List (Str × we)}{src:List (Option Nat)}{elt tgt iter:Expr}{ifs:List Expr}{pos:Pos}{wi:TI}{g:TG}{tt:TT}{te:TE}
end
end L2
namespace TB
open PySem PySem.Spec PyProof.Rows
def dP(prog:wI)(w:wJ):HeapKind prog w (List Int) where
 is:=λh k a=>(gh (fT prog w)).is h k (.ref a)
 hash:=(gh (fT prog w)).hash
 draws:=(gh (fT prog w)).draws
 room:=λA=>A.units+1<WD
 inj:=λx y=>(gh (fT prog w)).inj x y
 keeps:=λx ho hd hs=>(gh (fT prog w)).keeps x ho hd hs
 pyHash:=λhu hk h=>(gh (fT prog w)).pyHash hu hk h
 eqBool:=λhu hx hy h=>(gh (fT prog w)).eqBool hu hx hy h
 quiet:=λhk h=>(gh (fT prog w)).quiet 8 (by show 1<=8;decide) hk h
section
variable{prog:wI}{w:wJ}{K:Type}[DecidableEq K]{knd:HeapKind prog w K}{A:vb}{E:wg->wl->Prop}{s:wl}
end
end TB
namespace L2
open PySem PySem.Spec PyProof.Rows GM
open TB (dP gh fT)
abbrev NE:=List Int × we × we
def rM(x:NE)(e:DictEntry):Prop:=e=⟨zDW x.1,.ref x.2.1,.ref x.2.2⟩
def ie(a:we)(ep:Nat)(xs:List NE):HO:=.ext λh=>xs.length<=1000/\(a == sysModules)=false/\(xs.map (·.1)).Nodup /\ ∃o es,h.get? a=some o/\o.ExactDict/\o.data=.dict es ep/\Paired rM xs es.toList
def yB(K:wb)(H:Hp)(xs:List NE):Prop:=∀x∈xs,Is K H (.ref x.2.1) (TZ x.1)
def l8(xs:List NE)(k:List Int):Option we:=(xs.find? λx=>decide (x.1=k)).map (·.2.2)
theorem zA8{P:wI}{w:wJ}{H:Hp}{h:wG}{a:we}{ep:Nat}{xs:List NE}(z:xs.length<=1000)(hd:(a == sysModules)=false)(nd:(xs.map (·.1)).Nodup){o:Obj}{es:Array DictEntry}(ho:h.get? a=some o)(hx:o.ExactDict)(hda:o.data=.dict es ep)(r:Paired rM xs es.toList) :
  dQ P w H h a (ie a ep xs):=⟨⟨z,hd,nd,o,es,ho,hx,hda,r⟩,⟨o,ho⟩,λh1 h2 ⟨z,hd,nd,o,es,ho,q⟩ k=>⟨z,hd,nd,o,es,k _ ho,q⟩⟩
def i_(xs:List NE):List (List Int × we × wg):=xs.map λx=>(x.1,x.2.1,.ref x.2.2)
theorem zD6{P:wI}{w:wJ}{xs:List NE}{es:List DictEntry}(r:Paired rM xs es):es=(i_ xs).map (entryOfKey (dP P w)):=by
 induction r with
 | nil=>rfl
 | @cons x e xs es hx r ih =>
  show e::es=_::(i_ xs).map (entryOfKey (dP P w))
  rw[<- ih,show e=_ from hx]
  rfl
theorem PZ{P:wI}{w:wJ} : ∀xs:List NE,Paired rM xs ((i_ xs).map (entryOfKey (dP P w)))
 | []=>.nil
 | x::xs=>.cons rfl (PZ xs)
theorem zCs(xs:List NE)(k:List Int):(atKey (i_ xs) k).map (·.2)=(l8 xs k).map Value.ref:=by
 induction xs with
 | nil=>rfl
 | cons x xs ih =>
  unfold atKey l8 i_ at *;rw[vd,uV,uV]
  by_cases e:x.1=k
  ·simp[e]
  ·simp only[e,decide_false]
   exact ih
section
variable{X:Cx}{pins:List (we × Obj)}{σ : St}{H:Hp}{s:wl}{a b q:we}{ep:Nat}{xs:List NE}{k:List Int}{A:vb}{E:wg->wl->Prop}
theorem Inv.nK(I:Inv X pins σ H s)(h:Is X.K H (.ref b) (TZ k)):(dP X.prog X.w).is s.heap k b:=I.Zb h rfl
theorem Inv.Ku(I:Inv X pins σ H s)(e:H a=some (ie a ep xs)):xs.length<=1000/\(a == sysModules)=false/\(xs.map (·.1)).Nodup /\ ∃o es,s.heap.get? a=some o/\o.ExactDict/\o.data=.dict es ep/\Paired rM xs es.toList :=
 (show dQ X.prog X.w H s.heap a (ie a ep xs)from I.aI a _ e).1
end
section
variable{X:Cx}{o e f:Expr}{apos cpos pos:Pos}{td ty tx:TE}{tg:Expr}
end
section
variable{K:wb}{H H':Hp}{Q:VK}{D:cv}{σ : St}{td ty tx te:TE}{g:TG}{tt:TT}{a b q:we}{ep:Nat}{xs:List NE}{k:List Int}{src:List (Option Nat)}
end
section
variable{X:Cx}{N':List Str}{scope:Scope}{cl:List (Str × we)}{src:List (Option Nat)}{elt tgt iter:Expr}{ifs:List Expr}{pos:Pos}{wi:TI}{g:TG}{tt:TT}{te:TE}
end
end L2
namespace TB
open PySem PySem.W PyProof.Rows
theorem Ss:entryFor table "dict.update.loop"=some Builtin.«dict.update.loop»:=entryFor_of_tree (by kernel_rfl)
theorem yq:plainId "dict.update.loop"=true:=by decide +kernel
theorem zuR:typeLookup (.type "zip") "keys"=pure none:=am_miss_of_fast (by decide +kernel)
theorem zlN:typeLookup (.type "zip") "__getattr__"=pure none:=by rw[typeLookup_type,builtinLookup_eq_fast];kernel_rfl
theorem zhs:entryFor table "zip.__getattribute__"=some Builtin.«object.__getattribute__» :=
 entryFor_alias (id':="object.__getattribute__") (by kernel_rfl) (by decide +kernel) (by decide +kernel) (by kernel_rfl)
theorem ztz(a:we)(fs:Array wg)(sl:Array (Option wg))(name:Str)(u:Tok)(hmiss:typeLookup (.type "zip") name=pure none)(hname:(["__module__","__name__","__qualname__","__doc__","__annotations__"]:List Str).contains name=false)(hsz:name.length+100<=w8:=by size_fits) :
  Meets (Builtin.«object.__getattribute__» ⟨[.ref a,.str name u],[]⟩) (λA R s=>s.heap.get? a=some {cls:=.type "zip",dict:=none,data:=.fields fs,slots:=sl}/\raisesAttr (.ref a) name A R s) :=
 Meets.of_wp λprog w A R s hs=>by
  obtain⟨hp,g,d,tk,os⟩:=s;obtain⟨hx,hs⟩:=hs;have hT:(⟨hp,g,d,tk,os⟩:wl).TypeIs (.ref a) "zip":=⟨_,hx,rfl⟩;unfold Builtin.«object.__getattribute__»
  repeat(any_goals(first | assumption | wp_step))
  simp only[hname,ve,if_false]
  repeat(any_goals(first | assumption | wp_step))
  exact wpAny_raiseAttrError hs.1 hs.2 (attrMsg_fits (by decide +kernel) hsz)
section
variable{prog:wI}{w:wJ}{A:vb}{E:wg->wl->Prop}{s:wl}
theorem zBo{a:we}{fs:Array wg}{sl:Array (Option wg)}{Q:Option wg->wl->Prop}
  (hx:s.heap.get? a=some {cls:=.type "zip",dict:=none,data:=.fields fs,slots:=sl}) (hA:A.handled=none)
  (q:∀h' tk,(∀b ob,s.heap.get? b=some ob->h'.get? b=some ob)->Q none {s with heap:=h',toks:=tk}) :
  wx (model prog w) A (getAttr? (.ref a) "keys") Q E s:=by
 obtain⟨hp,g,d,tk,os⟩:=s;have hT:∀tk',(⟨hp,g,d,tk',os⟩:wl).TypeIs (.ref a) "zip":=λ_=>⟨_,hx,rfl⟩
 have f1:=sub_AttributeError;have f3:=qu.lookup;have f4:=qu.bind (.ref a);have f5:=zlN;unfold getAttr? getAttrBy? getAttrBy
 repeat(any_goals(first | assumption | exact hT _ | ((with_reducible show wx _ _ (call (Value.builtin "zip.__getattribute__") _ _) _ _ _);refine call_meets qu (hT _) zhs (PySem.F.args_zip_getattribute_2 _ _) (ztz a fs sl "keys" _ zuR (by decide +kernel)) ⟨hx,hA,λh' tk' e hx'=>?_⟩) | wp_step))
 obtain⟨t',u',he⟩:=hx'.there
 show wx _ _ (getattributeRaised _ _ _ _ _ _ _) _ _ _
 unfold getattributeRaised
 repeat(any_goals(first | assumption | wp_step))
 exact q _ _ hx'.keeps
theorem zzQ{p:we}{x y:wg}(h:Wz s.heap p x y){Q:List wg->wl->Prop}(q:Q [x,y] s):wx (model prog w) A (xV (.ref p)) Q E s:=by
 have hT:s.TypeIs (.ref p) "tuple":=⟨_,h,rfl⟩;unfold xV;refine wf (wpAny_typeOf hT ?_);rw[if_pos (by decide)];refine wf (Wg h rfl ?_);exact wp q
abbrev lS(h:wG)(z TI TO p:we)(f:Bool):Prop :=
 h.get? z=some {cls:=.type "zip",dict:=none,data:=.fields #[VS p,.bool f,.bool false,.ref TI,.ref TO],slots:=#[]}
end
section
variable{prog:wI}{w:wJ}{A:vb}{E:wg->wl->Prop}{s:wl}{z TI TO i1 i2 p:we}{f:Bool}{f1 f2:List we}{n1 n2 k:Nat}{P1 P2:Nat->wg->Prop}{S1 S2:Nat->wG->Prop}{a b:wg}
variable{op:Obj}
theorem YD{Q:Bool->wl->Prop}(hz:lS s.heap z TI TO p f)(hp:s.heap.get? p=some op)
  (q:∀g,lS g z TI TO p true->vv z s.heap g->Q false {s with heap:=g}):wx (model prog w) A (vG (.ref z)) Q E s:=by
 unfold vG;refine wf (vD hz rfl (x:=VS p) rfl ?_)
 show wx _ _ (loadIfAlive ((p:Int).toNat) >>= _) _ _ _
 rw[wP];refine wf (kdx_alive hp ?_);simp only[Option.isNone_some,ve,if_false];refine wf (vD hz rfl (x:=.bool f) rfl ?_);cases f with
 | true =>
  rw[if_neg (show ¬ ((Value.bool true != Value.bool true)=true)from vF)];exact wp (q _ hz (X9 _ _))
 | false =>
  rw[if_pos (show(Value.bool false != Value.bool true)=true from rfl)];refine wf (Vd hz (by simp) λg hg sb=>?_);exact wp (q g hg sb)
theorem zEX{Q:wg->wl->Prop}(D1:Draws prog w A i1 f1 n1 P1 S1)(D2:Draws prog w A i2 f2 n2 P2 S2)(ap:L2.ZA z TI TO i1 i2 f1 f2)(hz:lS s.heap z TI TO p f)(hi:Wz s.heap TI (.ref i1) (.ref i2))(hp:s.heap.get? p=some op)
  (h1:S1 k s.heap) (h2:S2 k s.heap) (l1:k<n1) (l2:k<n2)
  (fin:∀x y h' tk,P1 k x->P2 k y->lS h' z TI TO p true->S1 (k+1) h'->S2 (k+1) h'->Wz h' s.heap.objs.size x y ->
   (∀c o,c≠z->c≠i1->c≠i2->s.heap.get? c=some o->h'.get? c=some o)->Q (.ref s.heap.objs.size) {s with heap:=h',toks:=tk}) :
  wx (model prog w) A (Builtin.«zip.__next__» ⟨[.ref z],[]⟩) (λr s'=>∃v,r=.done (.ret v)/\Q v s') E s:=by
 show wx _ _ (field (.ref z) 2 >>= _) _ _ _;refine wf (vD hz rfl (x:=.bool false) rfl ?_)
 show wx _ _ (field (.ref z) 3 >>= _) _ _ _;refine wf (vD hz rfl (x:=.ref TI) rfl ?_)
 refine wf (Wg hi rfl ?_);show wx _ _ (vG (.ref z) >>= _) _ _ _
 refine wf (YD hz hp λg0 hz0 sb0=>?_);have sb0:vv z s.heap g0:=sb0;simp only[ve,if_false];refine wf ?_;rw[<- Vz];simp only[qR,QR];have h1a:S1 k g0:=D1.frame _ _ _ h1 λc hc o e=>sb0.extBut c o (λq=>ap.b1 (q ▸ hc)) e
 have h2a:S2 k g0:=D2.frame _ _ _ h2 λc hc o e=>sb0.extBut c o (λq=>ap.b2 (q ▸ hc)) e
 refine wf (wf (Wk ?_))
 show wx _ _ (vJ (.ref i1) >>= _) _ _ _
 refine wf (D1.item k _ _ _ l1 h1a λx g1 t1 px h1b sb1=>wp ?_);have sb1:vv i1 g0 g1:=sb1;have h2b:S2 k g1:=D2.frame _ _ _ h2a λc hc o e=>sb1.extBut c o (λq=>ap.b5 (q ▸ hc)) e
 refine wp ?_;refine wf (wf (Wk ?_))
 show wx _ _ (vJ (.ref i2) >>= _) _ _ _
 refine wf (D2.item k _ _ _ l2 h2b λy g2 t2 py h2c sb2=>wp ?_);have sb2:vv i2 g1 g2:=sb2;have h1c:S1 (k+1) g2:=D1.frame _ _ _ h1b λc hc o e=>sb2.extBut c o (λq=>ap.b6 (q ▸ hc)) e
 refine wp (wp ?_);refine wf (wpAny_newTuple (hsz:=by show 2<=w8;rw[Vw];decide) ?_);have hsz:g2.objs.size=s.heap.objs.size:=by rw[sb2.1,sb1.1,sb0.1]
 have kept:∀c o,c≠z->c≠i1->c≠i2->s.heap.get? c=some o->g2.get? c=some o:=λc o c1 c3 c4 e=>sb2.extBut _ _ c4 (sb1.extBut _ _ c3 (sb0.extBut _ _ c1 e))
 have zz:lS g2 z TI TO p true:=sb2.extBut _ _ ap.a4.symm (sb1.extBut _ _ ap.a3.symm hz0);refine wp ⟨_,rfl,?_⟩
 show Q (.ref g2.objs.size) _
 have new:Wz (g2.push {cls:=.type "tuple",data:=.seq #[x,y]}) g2.objs.size x y:=wN _ rfl;rw[hsz]at new ⊢;exact fin x y _ _ px py (wn _ zz) (D1.frame _ _ _ h1c λc hc o e=>wn _ e) (D2.frame _ _ _ h2c λc hc o e=>wn _ e) new λc o c1 c3 c4 e=>wn _ (kept c o c1 c3 c4 e)
theorem zD5{Q:Fin->wl->Prop}(D1:Draws prog w A i1 f1 n1 P1 S1)(ap:L2.ZA z TI TO i1 i2 f1 f2)(hz:lS s.heap z TI TO p f)(hi:Wz s.heap TI (.ref i1) (.ref i2))(hp:s.heap.get? p=some op)(h1:S1 n1 s.heap)
  (fin:∀h' e tk,(∀c o,c≠z->c≠i1->s.heap.get? c=some o->h'.get? c=some o)->(∃o,h'.get? e=some o/\o.cls=.type "StopIteration")->E (.ref e) {s with heap:=h',toks:=tk}) :
  wx (model prog w) A (Builtin.«zip.__next__» ⟨[.ref z],[]⟩) Q E s:=by
 show wx _ _ (field (.ref z) 2 >>= _) _ _ _;refine wf (vD hz rfl (x:=.bool false) rfl ?_)
 show wx _ _ (field (.ref z) 3 >>= _) _ _ _;refine wf (vD hz rfl (x:=.ref TI) rfl ?_)
 refine wf (Wg hi rfl ?_);show wx _ _ (vG (.ref z) >>= _) _ _ _
 refine wf (YD hz hp λg0 hz0 sb0=>?_);have sb0:vv z s.heap g0:=sb0;simp only[ve,if_false];refine wf ?_;rw[<- Vz];simp only[qR,QR];have h1a:S1 n1 g0:=D1.frame _ _ _ h1 λc hc o e=>sb0.extBut c o (λq=>ap.b1 (q ▸ hc)) e
 refine wf (wf (Wk ?_))
 show wx _ _ (vJ (.ref i1) >>= _) _ _ _
 exact wf (D1.done _ _ _ h1a λg1 e sb1 he=>fin g1 e _ (λc o c1 c3 q=>sb1 _ _ c3 (sb0.extBut _ _ c1 q)) he)
end
theorem oS{prog:wI}{w:wJ}{h h':wG}{k:List Int}{a:we}(x:(dP prog w).is h k a)(e:∀o,h.get? a=some o->h'.get? a=some o):(dP prog w).is h' k a:=by
 obtain⟨a',o,items,n,ea,ho,hc,hd,r⟩:=x;cases ea;exact⟨a,o,items,n,rfl,e o ho,hc,hd,r⟩
def jW(base:we)(h h':wG):Prop:=∀b o,b<base->h.get? b=some o->h'.get? b=some o
theorem jW.trans{base:we}{h h' h'':wG}(x:jW base h h')(y:jW base h' h''):jW base h h'':=λb o hb e=>y b o hb (x b o hb e)
structure ZB(base z TI TO i1 i2 d a b:we):Prop where
 ap:L2.ZA z TI TO i1 i2 [i1,a] [i2,b]
 na:a≠i1
 nb:b≠i2
 bz:base<=z
 bO:base<=TO
 b1:base<=i1
 b2:base<=i2
 bd:base<=d
 dz:d≠z
 dI:d≠TI
 dO:d≠TO
 d1:d≠i1
 d2:d≠i2
 la:a<base
 lb:b<base
def md(z TI TO i1 i2 d a b:we)(its jts:Array wg)(i:Nat)(h:wG):Prop:=Wz h TI (.ref i1) (.ref i2)/\(h.IsTupleIter i1 a i/\h.IsTuple a its)/\(h.IsTupleIter i2 b i/\h.IsTuple b jts) /\
 ((∃x y,IsZip h z TI TO .none/\Wz h TO x y) \/ ∃p f op,lS h z TI TO p f/\h.get? p=some op/\p≠z/\p≠i1/\p≠i2/\p≠d)
section
variable{prog:wI}{w:wJ}{A:vb}{E:wg->wl->Prop}{s:wl}{base z TI TO i1 i2 d a b:we}{its jts:Array wg}{i:Nat}
theorem jH(hh:A.handled=none)(it l:we)(hne:l≠it)(items:Array wg):Draws prog w A it [it,l] items.size (λi v=>items[i]? = some v) (λi h=>h.IsTupleIter it l i/\h.IsTuple l items):=L2.oR true hh it l hne items
theorem zEP(B:ZB base z TI TO i1 i2 d a b)(hh:A.in1.handled=none)(st:md z TI TO i1 i2 d a b its jts i s.heap)(hd:d<s.heap.objs.size){x y:wg}(hx:its[i]? = some x)(hy:jts[i]? = some y){Q:Option wg->wl->Prop}
  (q:∀(h':wG) tk,Wz h' s.heap.objs.size x y->md z TI TO i1 i2 d a b its jts (i+1) h'->(∀c o,c≠z->c≠TO->c≠i1->c≠i2->s.heap.get? c=some o->h'.get? c=some o)->Q (some (.ref s.heap.objs.size)) {s with heap:=h',toks:=tk}) :
  wx (model prog w) A (VR (.ref z)) Q E s:=by
 obtain⟨hi,s1,s2,hz⟩:=st
 have lt1:i<its.size:=by
  rcases wA i its.size with z | z
  ·exact z
  ·rw[Vv z]at hx;cases hx
 have lt2:i<jts.size:=by
  rcases wA i jts.size with z | z
  ·exact z
  ·rw[Vv z]at hy;cases hy
 have ap:=B.ap;unfold VR;rcases hz with⟨x0,y0,hz,ho⟩ | ⟨p,f,op,hz,hp,p1,p2,p3,p4⟩
 ·have hT:s.TypeIs (.ref z) "zip":=⟨_,hz,rfl⟩
  have ltz:=wD hz
  refine wf (VL (wpAny_callSpecial?_slot (name:=vW "__next__") hT Wp (Wd Wp hT qa
   (L2.Kx (jH (A:=A.in1) hh i1 a B.na its) (jH (A:=A.in1) hh i2 b B.nb jts) ap hz hi ho s1 s2 lt1 lt2 λv1 v2 h1 tk e1 e2 hz1 ho1 st1 st2 hT1 hk=>wp ?_) (VP _))))
  rw[hx]at e1;cases e1;rw[hy]at e2;cases e2;have l1:i1<s.heap.objs.size:=by obtain⟨o,e,_⟩:=s1.1;exact wD e
  have l2:i2<s.heap.objs.size:=by obtain⟨o,e,_⟩:=s2.1;exact wD e
  exact q h1 tk hT1 ⟨hk _ _ ap.a1 ap.a5 ap.a6 ap.a7 hi,st1,st2,.inr ⟨s.heap.objs.size,false,_,hz1,hT1,vn ltz,vn l1,vn l2,vn hd⟩⟩ hk
 ·have hT:s.TypeIs (.ref z) "zip":=⟨_,hz,rfl⟩
  refine wf (VL (wpAny_callSpecial?_slot (name:=vW "__next__") hT Wp (Wd Wp hT qa
   (zEX (jH (A:=A.in1) hh i1 a B.na its) (jH (A:=A.in1) hh i2 b B.nb jts) ap hz hi hp s1 s2 lt1 lt2 λv1 v2 h1 tk e1 e2 hz1 st1 st2 hT1 hk=>wp ?_) (VP _))))
  rw[hx]at e1;cases e1;rw[hy]at e2;cases e2;exact q h1 tk hT1 ⟨hk _ _ ap.a1 ap.a6 ap.a7 hi,st1,st2,.inr ⟨p,true,op,hz1,hk _ _ p1 p2 p3 hp,p1,p2,p3,p4⟩⟩ λc o c1 _ c3 c4 e=>hk c o c1 c3 c4 e
theorem zE2(B:ZB base z TI TO i1 i2 d a b)(hh:A.in1.handled=none)(st:md z TI TO i1 i2 d a b its jts its.size s.heap){Q:Option wg->wl->Prop}
  (q:∀(h':wG) tk,(∀c o,c≠z->c≠TO->c≠i1->c≠i2->s.heap.get? c=some o->h'.get? c=some o)->Q none {s with heap:=h',toks:=tk}) :
  wx (model prog w) A (VR (.ref z)) Q E s:=by
 obtain⟨hi,s1,s2,hz⟩:=st;have ap:=B.ap;unfold VR;rcases hz with⟨x0,y0,hz,ho⟩ | ⟨p,f,op,hz,hp,p1,p2,p3,p4⟩
 ·have hT:s.TypeIs (.ref z) "zip":=⟨_,hz,rfl⟩
  refine wf (VL (wpAny_callSpecial?_slot (name:=vW "__next__") hT Wp (Wd Wp hT qa
   (L2.KH (k:=its.size) (jH (A:=A.in1) hh i1 a B.na its) (jH (A:=A.in1) hh i2 b B.nb jts) ap hz hi ho s1 s2 (.inl rfl) λh' y tk hk hx'=>?_) (VP _))))
  obtain⟨o,ho',hcl⟩:=hx';exact wf (Vr (T:="StopIteration") (b:=true) ⟨o,ho',hcl⟩ isSubtype_stop (wp (q h' tk hk)))
 ·have hT:s.TypeIs (.ref z) "zip":=⟨_,hz,rfl⟩
  refine wf (VL (wpAny_callSpecial?_slot (name:=vW "__next__") hT Wp (Wd Wp hT qa
   (zD5 (jH (A:=A.in1) hh i1 a B.na its) ap hz hi hp s1 λh' y tk hk hx'=>?_) (VP _))))
  obtain⟨o,ho',hcl⟩:=hx';exact wf (Vr (T:="StopIteration") (b:=true) ⟨o,ho',hcl⟩ isSubtype_stop (wp (q h' tk λc o c1 _ c3 _ e=>hk c o c1 c3 e)))
end
theorem md.but{base z TI TO i1 i2 d a b:we}{its jts:Array wg}{i:Nat}{h g:wG}(st:md z TI TO i1 i2 d a b its jts i h)(B:ZB base z TI TO i1 i2 d a b)(sb:vv d h g):md z TI TO i1 i2 d a b its jts i g:=by
 obtain⟨hi,s1,s2,hz⟩:=st;have da:a≠d:=wQ (wV B.la B.bd);have db:b≠d:=wQ (wV B.lb B.bd);refine⟨sb.extBut _ _ B.dI.symm hi,⟨s1.1.at λo e=>sb.extBut _ _ B.d1.symm e,s1.2.at λo e=>sb.extBut _ _ da e⟩,⟨s2.1.at λo e=>sb.extBut _ _ B.d2.symm e,s2.2.at λo e=>sb.extBut _ _ db e⟩,?_⟩;rcases hz with⟨x0,y0,hz,ho⟩ | ⟨p,f,op,hz,hp,p1,p2,p3,p4⟩
 ·exact .inl ⟨x0,y0,sb.extBut _ _ B.dz.symm hz,sb.extBut _ _ B.dO.symm ho⟩
 ·exact .inr ⟨p,f,op,sb.extBut _ _ B.dz.symm hz,sb.extBut _ _ p4 hp,p1,p2,p3,p4⟩
section
variable{prog:wI}{w:wJ}{A:vb}{R:Result->wl->Prop}{base z TI TO i1 i2 d a b:we}{its jts:Array wg}{key:Nat->List Int}{ka:Nat->we}{val:Nat->wg}
theorem Zn(B:ZB base z TI TO i1 i2 d a b)(hh:A.in1.in1.handled=none)(hu:A.in1.units+1<WD)(hl:jts.size=its.size)(hn:its.size<=999)(hx:∀i,i<its.size->its[i]? = some (.ref (ka i)))(hy:∀i,i<its.size->jts[i]? = some (val i))
  (lk:∀i,i<its.size->ka i<base) (hk:∀i j,i<its.size->j<its.size->key i=key j->i=j) :
  ∀(c i:Nat)(s:wl),its.size-i=c->i<=its.size->md z TI TO i1 i2 d a b its jts i s.heap->(∀j,j<its.size->(dP prog w).is s.heap (key j) (ka j))->s.heap.DictOfH (dP prog w) d ((wt i).map λj=>(key j,ka j,val j)) ->
   (∀(g:wG)(tk:Nat),jW base s.heap g->g.DictOfH (dP prog w) d ((wt its.size).map λj=>(key j,ka j,val j))->R (.ok (.ret .none)) {s with heap:=g,toks:=tk}) ->
   codeAny (model prog w) A (.builtin "dict.update.loop" ⟨[.ref d,.ref z,VS i,.none],[]⟩) R s:=by
 have lift:∀{h h':wG}{xs:List (List Int × we × wg)},h.DictOfH (dP prog w) d xs->(∀x∈xs,x.2.1<base)->jW base h h'->(∀o,h.get? d=some o->h'.get? d=some o)->h'.DictOfH (dP prog w) d xs:=λx hb bl hd=>by
  obtain⟨o,es,ep,ho,hc,hda,he,his,hn⟩:=x;exact⟨o,es,ep,hd o ho,hc,hda,he,λx hx=>oS (his x hx) λo e=>bl _ o (hb x hx) e,hn⟩
 have lo:∀{h h':wG},(∀c o,c≠z->c≠TO->c≠i1->c≠i2->h.get? c=some o->h'.get? c=some o)->jW base h h':=λhk c o hc e=>hk c o (wQ (wV hc B.bz)) (wQ (wV hc B.bO)) (wQ (wV hc B.b1)) (wQ (wV hc B.b2)) e
 intro c
 induction c with
 | zero =>
  intro i s ec ei st ht hs r;obtain rfl:i=its.size:=by omega
  refine qr Ss ?_;rw[VY yq _];refine wf (m:=VR (.ref z)) (zE2 B hh st λh' tk hk'=>?_);refine wf (wp ?_);refine wp (r h' tk (lo hk') (lift hs (λx hx=>?_) (lo hk') λo e=>hk' d o B.dz B.dO B.d1 B.d2 e));obtain⟨j,hj,rfl⟩:=wU.mp hx;exact lk j (wH.mp hj)
 | succ c ih =>
  intro i s ec ei st ht hs r;have lt:i<its.size:=by omega
  have hdl:d<s.heap.objs.size:=by obtain⟨o,_,_,ho,_⟩:=hs;exact wD ho
  refine qr Ss ?_;rw[VY yq _];refine wf (m:=VR (.ref z)) (zEP B hh st hdl (hx i lt) (hy i lt) λh' tk hp st' hk'=>?_);have bl:=lo hk'
  have hs':h'.DictOfH (dP prog w) d ((wt i).map λj=>(key j,ka j,val j)):=lift hs (λx hx=>by
   obtain⟨j,hj,rfl⟩:=wU.mp hx;have:=wH.mp hj;exact lk j (by omega)) bl λo e=>hk' d o B.dz B.dO B.d1 B.d2 e
  have ht':∀j,j<its.size->(dP prog w).is h' (key j) (ka j):=λj hj=>oS (ht j hj) λo e=>bl _ o (lk j hj) e
  refine wf (Wk (wf (wpAny_tryCatch (zzQ hp ?_))));refine Wk (wpAny_dictSet_heap (knd:=dP prog w) (k:=key i) hu (ht' i lt) hs' (λh2 hd2 sb=>?_) (by rw[wm,vx,Vw];omega))
  have e2:storedH ((wt i).map λj=>(key j,ka j,val j)) (key i) (ka i) (val i)=(wt (i+1)).map λj=>(key j,ka j,val j):=by
   rw[storedH_new,QF,vA]
   ·rfl
   ·cases e:atKey ((wt i).map λj=>(key j,ka j,val j)) (key i)with
    | none=>rfl
    | some p =>
     unfold atKey at e;rw[Vs]at e;obtain⟨y,hy',_⟩:=e;have hm:=xj hy';have hp':=uW hy';obtain⟨j,hj,rfl⟩:=wU.mp hm;have hj:=wH.mp hj;have:=hk j i (by omega) lt (of_decide_eq_true hp');omega
  rw[e2]at hd2;have sb:vv d h' h2:=sb;refine wp ⟨plainId_quiet yq _,?_⟩;have bl2:jW base h' h2:=λc o hc e=>sb.extBut c o (wQ (wV hc B.bd)) e
  have:=ih (i+1) {s with heap:=h2,toks:=tk+(dP prog w).draws (key i)} (by omega) lt (st'.but B sb) (λj hj=>oS (ht' j hj) λo e=>bl2 _ o (lk j hj) e) hd2 λg tk' bl3 dd=>r g tk' (bl.trans (bl2.trans bl3)) dd
  exact this
end
section
variable{prog:wI}{w:wJ}{A:vb}{E:wg->wl->Prop}{s:wl}{base z TI TO i1 i2 a b:we}{its jts:Array wg}{key:Nat->List Int}{ka:Nat->we}{val:Nat->wg}{x0 y0:wg}
theorem YR(B:ZB base z TI TO i1 i2 s.heap.objs.size a b)(hh:A.handled=none)(hu:A.units+3<WD)(hl:jts.size=its.size)(hn:its.size<=999)(hx:∀i,i<its.size->its[i]? = some (.ref (ka i)))(hy:∀i,i<its.size->jts[i]? = some (val i))
  (lk:∀i,i<its.size->ka i<base) (hk:∀i j,i<its.size->j<its.size->key i=key j->i=j) (hz:IsZip s.heap z TI TO .none) (hi:Wz s.heap TI (.ref i1) (.ref i2)) (ho:Wz s.heap TO x0 y0) (s1:s.heap.IsTupleIter i1 a 0) (t1:s.heap.IsTuple a its) (s2:s.heap.IsTupleIter i2 b 0) (t2:s.heap.IsTuple b jts)
  (hK:∀j,j<its.size->(dP prog w).is s.heap (key j) (ka j)) {Q:wg->wl->Prop}
  (q:∀(g:wG)(tk:Nat),jW base s.heap g->g.DictOfH (dP prog w) s.heap.objs.size ((wt its.size).map λj=>(key j,ka j,val j))->Q (.ref s.heap.objs.size) {s with heap:=g,toks:=tk}) :
  wx (model prog w) A (call (.type "dict") [.ref z]) Q E s:=by
 refine callType_codes (Q₁:=λobj s₁=>obj=.ref s.heap.objs.size/\s₁ = {s with heap:=s.heap.push {cls:=.type "dict",data:=.dict #[]}}) PySem.F.kt_called_dict (PySem.F.kt_typeCall_dict_1 _) PySem.F.entry_dict_init (kt_code_dict_new _ ⟨rfl,rfl⟩) ?_;rintro obj s₁ ⟨rfl,rfl⟩;have hnew:(s.heap.push {cls:=.type "dict",data:=.dict #[]}).DictOfH (dP prog w) s.heap.objs.size []:=Heap.DictOfH.new s.heap;have hz':IsZip (s.heap.push {cls:=.type "dict",data:=.dict #[]}) z TI TO .none:=wn _ hz;refine⟨hnew.typeIs,PySem.F.args_dict_init_2 _ _,?_⟩;unfold Builtin.«dict.__init__»;refine wf ?_;unfold Builtin.Dict.selfAndRest;refine wf (wpAny_notOrdered_dict hnew.typeIs ?_)
 show wx _ _ (pure (s.heap.objs.size,[Value.ref z])) _ _ _
 refine wp ?_
 show wx _ _ (xy "dict.__init__" s.heap.objs.size (.ref z) [] .none) _ _ _
 unfold xy;refine wf (wpAny_typeOf (T:="zip") ⟨_,hz',rfl⟩ ?_);rw[if_pos (by decide)];refine wf (zBo hz' (by exact hh) λh1 tk1 kp1=>?_);simp only[Option.isNone_none,if_true];refine wf (wpAny_rule ?_);have kp0:∀b o,s.heap.get? b=some o->h1.get? b=some o:=λb o e=>kp1 b o (wn _ e)
 have dn:h1.DictOfH (dP prog w) s.heap.objs.size []:=by
  obtain⟨o,es,ep,ho,hc,hda,he,his,hn⟩:=hnew;exact⟨o,es,ep,kp1 _ _ ho,hc,hda,he,(λx hx=>by cases hx),hn⟩
 refine wf (wpAny_pyIter_zip (kp0 _ _ hz) ?_);refine wp ⟨plainId_quiet yq _,?_⟩;refine Zn B (by exact hh) (show A.units+1+1+1<WD by omega) hl hn hx hy lk hk (its.size-0) 0 _ rfl (Wm _) ⟨kp0 _ _ hi,⟨s1.at λo e=>kp0 _ o e,t1.at λo e=>kp0 _ o e⟩,⟨s2.at λo e=>kp0 _ o e,t2.at λo e=>kp0 _ o e⟩,.inl ⟨x0,y0,kp0 _ _ hz,kp0 _ _ ho⟩⟩ (λj hj=>oS (hK j hj) λo e=>kp0 _ o e) dn λg tk bl dd=>?_
 exact⟨rfl,q g tk (λc o hc e=>bl c o hc (kp0 c o e)) dd⟩
end
end TB
namespace L2
open PySem PySem.Spec PyProof.Rows GM
open TB (dP gh fT)
theorem zzv:vN "dict"=some (.type "dict"):=by decide +kernel
def gJ(ks:List (List Int))(us ws:List we):List NE:=(wt us.length).map λj=>(ks.getD j [],us.getD j 0,ws.getD j 0)
def U2(K:wb)(vs:List V)(H1:Hp)(Q:VK):Prop:=∃(a b:we)(ks:List (List Int))(us ws:List we),vs=[.ref a,.ref b]/\aU K H1 a (us.map V.ref)/\aU K H1 b (ws.map V.ref)/\us.length=ws.length/\us.length<=999/\ak K H1 (us.map V.ref) (ks.map TZ)/\ks.Nodup /\
 ∀D ep,H1 D=none->Q (.ref D) (upd H1 D (ie D ep (gJ ks us ws)))
def UR(K:wb)(ta:TA):TE:=λσ H Q=>ta σ H λvs H1=>U2 K vs H1 Q
theorem zEH{n d a b:Nat}(la:a<n)(lb:b<n)(hd:n+5<=d):TB.ZB n (n+4) (n+2) (n+3) n (n+1) d a b where
 ap:=Yh la lb
 na:=wQ la
 nb:=wQ (VO lb)
 bz:=WP _ 4
 bO:=WP _ 3
 b1:=wo _
 b2:=WP _ 1
 bd:=by show n<=d;omega
 dz:=vn (by omega)
 dI:=vn (by omega)
 dO:=vn (by omega)
 d1:=vn (by omega)
 d2:=vn (by omega)
 la:=la
 lb:=lb
theorem zxg{ks:List (List Int)}{us ws:List we}(h:ks.length=us.length):(gJ ks us ws).map (·.1)=ks:=by
 unfold gJ;rw[WM];refine List.ext_getElem? λj=>?_
 rw[wu];rcases wA j us.length with z | z
 ·rw[vM z,wc (by omega:j<ks.length)]
  show some (ks.getD j [])=_
  rw[wa,wc (by omega:j<ks.length)]
  rfl
 ·rw[wL (by simpa using z),wL (by omega)]
  rfl
section
variable{X:Cx}{o i:Expr}{pos:Pos}{td ty:TE}
theorem DB:∀{ws:List V}{us:List wg},aT ws us->∀{i:Nat}{q:we},ws[i]? = some (.ref q)->us[i]? = some (.ref q)
 | _,_,.nil,i,q,h=>by simp at h
 | _,_,.cons r1 r2,0,q,h=>by
  simp only[xx,Qp]at h ⊢;subst h;exact r1
 | _,_,.cons r1 r2,i+1,q,h=>by
  simp only[Qm]at h ⊢;exact DB r2 h
theorem zx7{l m:Expr}{ta:TA}{p p2 pos2:Pos}(hc:X.calm=true)(hu:X.A.units+4<WD)(hg:Gl X "dict")(hm:X.mg "dict"=none)(hg2:Gl X "zip")(hm2:X.mg "zip"=none)(ha:PA X [l,m] ta)(hs:w5 [l,m] X.env=[(false,eval l X.env),(false,eval m X.env)]:=by rfl)(hs2:w5 [m] X.env=[(false,eval m X.env)]:=by rfl)
   (hs3:w5 [Expr.Call (.Name "zip" p2) [l,m] [] pos2] X.env=[(false,eval (.Call (.Name "zip" p2) [l,m] [] pos2) X.env)]:=by rfl):PE X (.Call (.Name "dict" p) [.Call (.Name "zip" p2) [l,m] [] pos2] [] pos) (UR X.K ta):=by
 intro pins s σ H Q I h;refine Call_ (gW I hg hm zzv ?_);refine vB ?_ hs3 rfl;rw[hs3]
 show wx _ _ (spliced ((false,eval _ X.env)::backTo pos [])) _ _ s
 refine QY ?_;refine Call_ (gW I hg2 hm2 Df (vB (aJ (ha pos2 pins s σ H _ I h) λus s1 ⟨vs,H1,I1,r1,q1⟩=>?_) (by rw[hs,hs2]) (by rw[hs2];rfl)));obtain⟨a,b,ks,us',ws,rfl,hq1,hq2,hl,hn,hk,nd,q⟩:=q1;obtain⟨u,v,rfl,ru,rv⟩:=mF r1;cases ru;cases rv;obtain⟨its,ri,p1⟩:=I1.je (t:=true) hq1;obtain⟨jts,rj,p2⟩:=I1.je (t:=true) hq2;have p1:s1.heap.IsTuple a its.toArray:=p1;have p2:s1.heap.IsTuple b jts.toArray:=p2;have la:a<s1.heap.objs.size:=by obtain⟨o,e,_⟩:=p1;exact wD e
 have lb:b<s1.heap.objs.size:=by obtain⟨o,e,_⟩:=p2;exact wD e
 have li:=ri.length;have lj:=rj.length;have lk:=hk.length;simp only[wm]at li lj lk;refine Nm p1 p2 λh' hz hi ho t1 t2 kp=>?_
 refine Q8 ?_;have hd:s1.heap.objs.size+5<=h'.objs.size:=wD hz
 have hx:∀j,j<its.toArray.size->its.toArray[j]? = some (Value.ref (us'.getD j 0)):=λj hj=>by
   have hj:j<us'.length:=by simpa [li] using hj
   have:=DB ri (show(us'.map V.ref)[j]? = some (V.ref (us'.getD j 0)) by rw[wu,wa,wc hj];rfl)
   simpa using this
 have hy:∀j,j<its.toArray.size->jts.toArray[j]? = some (Value.ref (ws.getD j 0)):=λj hj=>by
   have hj : j < ws.length := by have : j < us'.length := by simpa [li] using hj
                                 omega
   have:=DB rj (show(ws.map V.ref)[j]? = some (V.ref (ws.getD j 0)) by rw[wu,wa,wc hj];rfl)
   simpa using this
 have hK:∀j,j<its.toArray.size->(dP X.prog X.w).is s1.heap (ks.getD j []) (us'.getD j 0):=λj hj=>by
   have hj:j<us'.length:=by simpa [li] using hj
   have:=(jq hk (i:=j) (x:=.ref (us'.getD j 0)) (by rw[wu,wa,wc hj];rfl)).2
   have ek:(ks.map TZ).getD j .none=TZ (ks.getD j []):=by
     rw[wa,wu,wa,wc (by omega:j<ks.length)]
     rfl
   rw[ek]at this;exact I1.nK this
 refine TB.YR (zEH la lb hd) (I1.ok.hd hc) (by omega) (by simp only[wO];omega) (by simp only[wO];omega) hx hy (λj hj=>?_) (λi j hi' hj e=>?_) hz hi ho t1 (p1.at λo e=>kp _ o e) t2 (p2.at λo e=>kp _ o e) (λj hj=>TB.oS (hK j hj) λo e=>kp _ o e) λg tk bl dd=>?_
 . obtain⟨a',o,items,n,ea,ho',_⟩:=hK j hj
   cases ea;exact wD ho'
 . have hi' : i < ks.length := by have : i < its.length := by simpa using hi'
                                  omega
   have hj : j < ks.length := by have : j < its.length := by simpa using hj
                                 omega
   rw[wa,wa,wc hi',wc hj]at e;have pw:=We.mp nd;rcases WU i j with z | z | z
   . exact absurd e (pw i j hi' hj z)
   . exact z
   . exact absurd e.symm (pw j i hj hi' z)
 . obtain⟨o,es,ep,ho',hxd,hda,he,his,hnd⟩:=dd
   refine⟨.ref h'.objs.size,_,I1.laid (t':=tk) (a:=h'.objs.size) (o:=ie h'.objs.size ep (gJ ks us' ws)) (λc o e=>bl c o (wD e) (kp c o e)) (by omega) (zA8 ?_ (beq_eq_false_iff_ne.mpr (WE (wQ ?_))) ?_ ho' hxd hda ?_),rfl,q _ ep (I1.aI.fresh (by omega))⟩
   . unfold gJ;rw[wm,vx];omega
   . exact wV I1.big (by omega)
   . rw[zxg (by omega)];exact nd
   . rw[he]
     have:((wt its.toArray.size).map λj=>(ks.getD j [],us'.getD j 0,Value.ref (ws.getD j 0)))=i_ (gJ ks us' ws):=by
       unfold i_ gJ;rw[WM,wO,<- li]
       rfl
     rw[this];exact PZ _
def F7(K:wb)(td ty:TE):TE:=λσ H Q=>td σ H λx H1=>ty σ H1 λy H2=>∃a b ep xs k l,x=.ref a/\y=.ref b/\H2 a=some (ie a ep xs)/\yB K H2 xs/\Is K H2 (.ref b) (TZ k)/\l8 xs k=some l/\Q (.ref l) H2
theorem zDA{pins:List (we × Obj)}{σ : St}{H:Hp}{s:wl}{a b l:we}{ep:Nat}{xs:List NE}{k:List Int}{A:vb}{E:wg->wl->Prop}{Q:wg->wl->Prop}(hu:A.units+4<WD)(I:Inv X pins σ H s)(e:H a=some (ie a ep xs))(hk:yB X.K H xs)(hb:Is X.K H (.ref b) (TZ k))(hl:l8 xs k=some l)(h:∀s',Inv X pins σ H s'->Q (.ref l) s') :
  wx (model X.prog X.w) A (getItem (.ref a) (.ref b)) Q E s:=by
 obtain⟨z,hd,nd,o,es,ho,hx,hda,r⟩:=I.Ku e;have zk:(i_ xs).map (·.1)=xs.map (·.1):=by unfold i_;rw[WM];rfl
 have dd:s.heap.DictOfH (dP X.prog X.w) a (i_ xs):=⟨o,es,ep,ho,hx,hda,zD6 r,λx hx=>by
  obtain⟨y,hy,rfl⟩:=wU.mp hx;exact I.nK (hk y hy),by rw[zk];exact nd⟩
 have lk:=zCs xs k;rw[hl]at lk;cases e2:atKey (i_ xs) k with
 | none=>rw[e2]at lk;cases lk
 | some p =>
  rw[e2]at lk;have:p.2=Value.ref l:=wM lk;obtain⟨p1,p2⟩:=p;have:p2=Value.ref l:=this;subst this;exact wpAny_getItem_heap (knd:=dP X.prog X.w) (show A.units+1+1<WD by omega) (I.nK hb) dd e2 (h _ (I.tok _))
theorem zzk(hu:X.A.units+4<WD)(ho:PE X o td)(hi:PE X i ty)(hs:Ry i):PE X (.Subscript o i pos) (F7 X.K td ty):=by
 intro pins s σ H Q I h;refine zBu PySem.F.slot_dict_getitem.lookup hs (aJ (ho pins s σ H _ I h) λu s1 ⟨x,H1,I1,rx,q1⟩=>aJ (hi pins s1 σ H1 _ I1 q1) λiv s2 ⟨y,H2,I2,ry,a,b,ep,xs,k,l,ex,ey,e,hk,hb,hl,q2⟩=>?_);subst ex ey;obtain rfl:u=Value.ref a:=rx;obtain rfl:iv=Value.ref b:=ry;obtain⟨_,_,_,od,es,g1,g2,_,_⟩:=I2.Ku e;exact⟨⟨od,g1,g2.1⟩,zDA hu I2 e hk hb hl λs3 I3=>⟨.ref l,H2,I3,rfl,q2⟩⟩
end
section
variable{K:wb}{σ : St}{H:Hp}{Q:VK}{td ty:TE}{ta:TA}
theorem zx0(h:ta σ H λvs H1=>U2 K vs H1 Q):UR K ta σ H Q:=h
theorem zxW(h:td σ H λx H1=>ty σ H1 λy H2=>∃a b ep xs k l,x=.ref a/\y=.ref b/\H2 a=some (ie a ep xs)/\yB K H2 xs/\Is K H2 (.ref b) (TZ k)/\l8 xs k=some l/\Q (.ref l) H2):F7 K td ty σ H Q:=h
end
end L2
namespace G
open PySem PySem.Spec PyProof.Rows L2 GM
local macro_rules | `(tactic| walk_at "sc")=>`(tactic| exact ⟨rfl,rfl,rfl,by decide +kernel,rfl,by decide +kernel,by decide +kernel⟩)
def top(i:Nat):w9:=Vx.main.body.getD i (.Pass ⟨0,0,0,0⟩)
abbrev B7:w9:=top 10
abbrev EC:List Str:=["thing"]
abbrev yp:=EC
theorem ztE:aP EC yp (aC B7):=by walk_at "sc"
abbrev EJ:w9:=top 11
abbrev zev:List Str:=["least","most","thing"]
abbrev Ao:=zev
theorem Zl:aP zev Ao (aC EJ):=by walk_at "sc"
abbrev Fx:w9:=top 12
abbrev KJ:List Str:=["one","other","rest"]
abbrev t_:List Str:=["one","other"]
theorem tm:aP KJ t_ (aC Fx):=by walk_at "sc"
abbrev GL:w9:=top 13
abbrev Fs:List Str:=["thing"]
abbrev tI:=Fs
theorem zrh:aP Fs tI (aC GL):=by walk_at "sc"
abbrev FO:w9:=top 14
abbrev OJ:List Str:=["one","other","shared","top","divisor"]
abbrev zd:List Str:=["one","other"]
theorem tD:aP OJ zd (aC FO):=by walk_at "sc"
abbrev GA:w9:=top 15
abbrev F_:List Str:=["one","other"]
abbrev AZ:=F_
theorem zzz:aP F_ AZ (aC GA):=by walk_at "sc"
abbrev Fb:w9:=top 16
abbrev SJ:List Str:=["one","other","first","second"]
abbrev tJ:List Str:=["one","other"]
theorem GF:aP SJ tJ (aC Fb):=by walk_at "sc"
abbrev F6:w9:=top 17
abbrev Lf:List Str:=["one","other","turned"]
abbrev tX:List Str:=["one","other"]
theorem Rp:aP Lf tX (aC F6):=by walk_at "sc"
abbrev DY:w9:=top 18
abbrev Gi:List Str:=["one","other"]
abbrev yI:=Gi
theorem zAD:aP Gi yI (aC DY):=by walk_at "sc"
abbrev EX:w9:=top 23
abbrev EN:List Str:=["a"]
abbrev yN:=EN
theorem zrt:aP EN yN (aC EX):=by walk_at "sc"
abbrev Fz:w9:=top 24
abbrev Dw:List Str:=["b"]
abbrev yt:=Dw
theorem zrL:aP Dw yt (aC Fz):=by walk_at "sc"
abbrev FR:w9:=top 25
abbrev Dl:List Str:=["a","b"]
abbrev Ap:=Dl
theorem zqj:aP Dl Ap (aC FR):=by walk_at "sc"
abbrev FU:w9:=top 26
abbrev EF:List Str:=["thing"]
abbrev w_:=EF
theorem zt7:aP EF w_ (aC FU):=by walk_at "sc"
abbrev Fg:w9:=top 27
abbrev Gx:List Str:=["rule"]
abbrev zA:=Gx
theorem zBr:aP Gx zA (aC Fg):=by walk_at "sc"
abbrev Fn:w9:=top 28
abbrev OF:List Str:=["rule","many","factor","shift","done"]
abbrev zc:List Str:=["rule","many"]
theorem oC:aP OF zc (aC Fn):=by walk_at "sc"
abbrev F5:w9:=top 29
abbrev DA:List Str:=["push","x"]
abbrev A_:=DA
theorem zrp:aP DA A_ (aC F5):=by walk_at "sc"
abbrev Fi:w9:=top 33
abbrev Cy:List Str:=["thing"]
abbrev zR:=Cy
theorem zsj:aP Cy zR (aC Fi):=by walk_at "sc"
abbrev tP:w9:=top 34
abbrev yE:List Str:=["thing"]
abbrev yG:=yE
theorem zow:aP yE yG (aC tP):=by walk_at "sc"
abbrev DH:w9:=top 35
abbrev Em:List Str:=["rule","phases"]
abbrev yC:=Em
theorem zsy:aP Em yC (aC DH):=by walk_at "sc"
abbrev D_:w9:=top 36
abbrev ON:List Str:=["phases","told","phase"]
abbrev ye:List Str:=["phases"]
theorem zB:aP ON ye (aC D_):=by walk_at "sc"
abbrev sT:w9:=top 37
abbrev yo:List Str:=["phases","phase"]
abbrev zp:=yo
theorem zs0:aP yo zp (aC sT):=by walk_at "sc"
abbrev Ah:w9:=top 38
abbrev Dq:List Str:=["swarm","told","left","phase"]
abbrev A2:List Str:=["swarm"]
theorem rD:aP Dq A2 (aC Ah):=by walk_at "sc"
abbrev s_:w9:=top 39
abbrev yQ:List Str:=["worms","phases"]
abbrev A8:=yQ
theorem zoC:aP yQ A8 (aC s_):=by walk_at "sc"
abbrev mY:w9:=top 40
abbrev pF:List Str:=["swarm","wait","phases","left","waves","wave","push","worm","anew"]
abbrev yK:List Str:=["swarm"]
theorem iN:aP pF yK (aC mY):=by walk_at "sc"
abbrev Ek:w9:=top 42
abbrev Tu:List Str:=["swarm","many","rows","hour","stand","done","told"]
abbrev AH:List Str:=["swarm","many"]
theorem lA:aP Tu AH (aC Ek):=by walk_at "sc"
abbrev EI:w9:=top 43
abbrev Ni:List Str:=["swarm","many","rows","last"]
abbrev zZ:List Str:=["swarm","many"]
theorem FT:aP Ni zZ (aC EI):=by walk_at "sc"
abbrev CO:w9:=top 45
abbrev Gd:List Str:=["swarm"]
abbrev tV:=Gd
theorem ztU:aP Gd tV (aC CO):=by walk_at "sc"
abbrev pJ:w9:=top 46
abbrev zm:List Str:=["swarm","rows","sizes","places"]
abbrev zF:List Str:=["swarm"]
theorem AL:aP zm zF (aC pJ):=by walk_at "sc"
abbrev yU:w9:=top 47
abbrev Ec:List Str:=["rule","size","phases","turn","wait","push","told"]
abbrev tY:List Str:=["rule","size","phases","turn"]
theorem z7:aP Ec tY (aC yU):=by walk_at "sc"
abbrev BW:w9:=top 48
abbrev NB:List Str:=["rule","sizes","places","told","turn","size"]
abbrev Av:List Str:=["rule","sizes","places"]
theorem yg:aP NB Av (aC BW):=by walk_at "sc"
abbrev Ei:w9:=top 49
abbrev C6:List Str:=["rule","sizes","places"]
abbrev tE:=C6
theorem zmy:aP C6 tE (aC Ei):=by walk_at "sc"
abbrev GB:w9:=top 50
abbrev Yq:List Str:=["rule","sizes","places","told","rows","turn"]
abbrev zr:List Str:=["rule","sizes","places"]
theorem rk:aP Yq zr (aC GB):=by walk_at "sc"
abbrev tN:w9:=top 51
abbrev FK:List Str:=["rule","sizes","places","rows","count"]
abbrev z9:List Str:=["rule","sizes","places"]
theorem C5:aP FK z9 (aC tN):=by walk_at "sc"
abbrev sa:w9:=top 52
abbrev AD:List Str:=["rule","sizes","places","steps"]
abbrev tZ:List Str:=["rule","sizes","places"]
theorem RU:aP AD tZ (aC sa):=by walk_at "sc"
abbrev AF:w9:=top 53
abbrev DV:List Str:=["rule","sizes","factor","noughts"]
abbrev Ak:List Str:=["rule","sizes"]
theorem DQ:aP DV Ak (aC AF):=by walk_at "sc"
abbrev tM:w9:=top 56
abbrev Ey:List Str:=["rule","sizes","both","gap"]
abbrev yn:List Str:=["rule","sizes"]
theorem ED:aP Ey yn (aC tM):=by walk_at "sc"
abbrev AG:w9:=top 57
abbrev Bh:List Str:=["both","places","of_place","of_shift"]
abbrev ym:=Bh
theorem ZT:aP Bh ym (aC AG):=by walk_at "sc"
abbrev C1:w9:=top 58
abbrev MV:List Str:=["both","places","many","push"]
abbrev zN:List Str:=["both","places","many"]
theorem Oe:aP MV zN (aC C1):=by walk_at "sc"
abbrev Ex:w9:=top 59
abbrev DL:List Str:=["rule","sizes","places","many"]
abbrev z_:=DL
theorem zlv:aP DL z_ (aC Ex):=by walk_at "sc"
abbrev Ca:w9:=top 60
abbrev TM:List Str:=["both","places","many","of_place","of_shift","done"]
abbrev yb:List Str:=["both","places","many"]
theorem nM:aP TM yb (aC Ca):=by walk_at "sc"
abbrev AI:w9:=top 61
abbrev Fh:List Str:=["rule","sizes","places","many","count","mean"]
abbrev Bg:List Str:=["rule","sizes","places","many"]
theorem CY:aP Fh Bg (aC AI):=by walk_at "sc"
abbrev zg:w9:=top 62
abbrev zC:List Str:=["rule","sizes"]
abbrev yF:=zC
theorem zmA:aP zC yF (aC zg):=by walk_at "sc"
abbrev tW:w9:=top 63
abbrev C4:List Str:=["rule","sizes","places","way"]
abbrev A3:List Str:=["rule","sizes","places"]
theorem Rk:aP C4 A3 (aC tW):=by walk_at "sc"
abbrev B9:w9:=top 64
abbrev LB:List Str:=["rule","sizes","places","both","ahead","count"]
abbrev An:List Str:=["rule","sizes","places"]
theorem pX:aP LB An (aC B9):=by walk_at "sc"
abbrev zP:w9:=top 68
abbrev yl:List Str:=["row","worms"]
abbrev yW:=yl
theorem zrj:aP yl yW (aC zP):=by walk_at "sc"
abbrev EK:w9:=top 69
abbrev Cd:List Str:=["thing","worms"]
abbrev Ac:=Cd
theorem zw9:aP Cd Ac (aC EK):=by walk_at "sc"
abbrev GC:w9:=top 70
abbrev CQ:List Str:=["thing","worms"]
abbrev v_:=CQ
theorem zov:aP CQ v_ (aC GC):=by walk_at "sc"
abbrev sV:w9:=top 71
abbrev Af:List Str:=["thing","worms"]
abbrev zL:=Af
theorem zs8:aP Af zL (aC sV):=by walk_at "sc"
abbrev CI:w9:=top 72
abbrev Yd:List Str:=["swarm","rounds","both","last"]
abbrev zV:List Str:=["swarm","rounds"]
theorem Ej:aP Yd zV (aC CI):=by walk_at "sc"
abbrev tQ:w9:=top 73
abbrev Ew:List Str:=["swarm","rounds","both","later","now","phases"]
abbrev A9:List Str:=["swarm","rounds"]
theorem pK:aP Ew A9 (aC tQ):=by walk_at "sc"
abbrev EW:w9:=top 74
abbrev Od:List Str:=["swarm","rounds","glows","first","then"]
abbrev sX:List Str:=["swarm","rounds","glows"]
theorem FI:aP Od sX (aC EW):=by walk_at "sc"
abbrev C3:w9:=top 75
abbrev M3:List Str:=["rule","row","following","swarm","told"]
abbrev Ag:List Str:=["rule","row","following"]
theorem Fu:aP M3 Ag (aC C3):=by walk_at "sc"
abbrev DZ:w9:=top 76
abbrev TX:List Str:=["swarm","both"]
abbrev AR:List Str:=["swarm"]
theorem MD:aP TX AR (aC DZ):=by walk_at "sc"
abbrev Cg:w9:=top 77
abbrev UB:List Str:=["swarm","paper","row","following"]
abbrev yT:List Str:=["swarm","paper"]
theorem Gb:aP UB yT (aC Cg):=by walk_at "sc"
abbrev Er:w9:=top 78
abbrev Pz:List Str:=["swarm","count","told"]
abbrev zM:List Str:=["swarm"]
theorem pQ:aP Pz zM (aC Er):=by walk_at "sc"
abbrev Gg:w9:=top 79
abbrev NF:List Str:=["hour","swarm","both","rounds","glows"]
abbrev AM:List Str:=["hour","swarm"]
theorem zu:aP NF AM (aC Gg):=by walk_at "sc"
abbrev FJ:w9:=top 80
abbrev PX:List Str:=["swarm","rows","word","row","told","hour"]
abbrev zJ:List Str:=["swarm"]
theorem mq:aP PX zJ (aC FJ):=by walk_at "sc"
abbrev Cf:w9:=top 81
abbrev Ti:List Str:=["swarm","last"]
abbrev yc:List Str:=["swarm"]
theorem O0:aP Ti yc (aC Cf):=by walk_at "sc"
abbrev Gy:w9:=top 83
abbrev C7:List Str:=["_law_script","_law_k"]
abbrev zD:=C7
theorem zrQ:aP C7 zD (aC Gy):=by walk_at "sc"
abbrev Fj:w9:=top 84
abbrev UE:List Str:=["_law_script","_law_k","_law_cell_here"]
abbrev yj:List Str:=["_law_script","_law_k"]
theorem UN:aP UE yj (aC Fj):=by walk_at "sc"
abbrev Gw:w9:=top 85
abbrev Lo:List Str:=["_law_pen_here","_law_most","_law_found","_law_mixed"]
abbrev yP:List Str:=["_law_pen_here","_law_most"]
theorem tH:aP Lo yP (aC Gw):=by walk_at "sc"
abbrev Cc:w9:=top 86
abbrev Le:List Str:=["_law_top","_law_bottom","_law_one","_law_other"]
abbrev yu:List Str:=["_law_top","_law_bottom"]
theorem z6:aP Le yu (aC Cc):=by walk_at "sc"
abbrev DP:w9:=top 87
abbrev CK:List Str:=["_law_one","_law_other"]
abbrev zy:=CK
theorem zuW:aP CK zy (aC DP):=by walk_at "sc"
abbrev Cz:w9:=top 88
abbrev Lp:List Str:=["_law_pen_here","_law_way","_law_bottom","_law_deep","_law_more","_law_top","_law_need"]
abbrev AA:List Str:=["_law_pen_here"]
theorem km:aP Lp AA (aC Cz):=by walk_at "sc"
abbrev AJ:w9:=top 89
abbrev CJ:List Str:=["_law_pen_here","_law_most","_law_many","_law_bottom","_law_few","_law_apart"]
abbrev zT:List Str:=["_law_pen_here","_law_most"]
theorem rz:aP CJ zT (aC AJ):=by walk_at "sc"
abbrev C_:w9:=top 90
abbrev Nq:List Str:=["_law_swarm","_law_found"]
abbrev AE:List Str:=["_law_swarm"]
theorem yO:aP Nq AE (aC C_):=by walk_at "sc"
abbrev DG:w9:=top 91
abbrev Mx:List Str:=["_law_swarm","_law_found"]
abbrev Ba:List Str:=["_law_swarm"]
theorem yM:aP Mx Ba (aC DG):=by walk_at "sc"
abbrev Fw:w9:=top 92
abbrev Yt:List Str:=["_law_swarm","_law_paper_here","_law_due","_law_kept","_law_found"]
abbrev x_:List Str:=["_law_swarm","_law_paper_here","_law_due"]
theorem BO:aP Yt x_ (aC Fw):=by walk_at "sc"
abbrev DE:w9:=top 93
abbrev BS:List Str:=["_law_one","_law_other"]
abbrev zI:=BS
theorem Zt:aP BS zI (aC DE):=by walk_at "sc"
abbrev EH:w9:=top 94
abbrev Ep:List Str:=["_law_one","_law_other"]
abbrev zG:=Ep
theorem zoe:aP Ep zG (aC EH):=by walk_at "sc"
abbrev B1:w9:=top 95
abbrev Fm:List Str:=["_law_one","_law_other"]
abbrev yf:=Fm
theorem Zs:aP Fm yf (aC B1):=by walk_at "sc"
abbrev Ez:w9:=top 96
abbrev Lh:List Str:=["_law_rule","_law_many","_law_found","_law_k"]
abbrev AB:List Str:=["_law_rule","_law_many"]
theorem Bb:aP Lh AB (aC Ez):=by walk_at "sc"
abbrev pB:w9:=top 97
abbrev Au:List Str:=["_law_rule","_law_sizes","_law_places","_law_phases","_law_time","_law_heights","_law_at","_law_wait","_law_often","_law_risen"]
abbrev tF:List Str:=["_law_rule","_law_sizes","_law_places"]
theorem jE:aP Au tF (aC pB):=by walk_at "sc"
abbrev En:w9:=top 98
abbrev W_:List Str:=["_law_one","_law_many","_law_top","_law_bottom","_law_k"]
abbrev Bc:List Str:=["_law_one","_law_many"]
theorem mZ:aP W_ Bc (aC En):=by walk_at "sc"
abbrev yD:w9:=top 99
abbrev CA:List Str:=["_law_rule","_law_sizes","_law_factor","_law_shifts"]
abbrev AO:List Str:=["_law_rule","_law_sizes"]
theorem Gz:aP CA AO (aC yD):=by walk_at "sc"
abbrev FE:w9:=top 100
abbrev RL:List Str:=["_law_pen_here","_law_rule","_law_most","_law_found","_law_some","_law_one"]
abbrev sW:List Str:=["_law_pen_here","_law_rule","_law_most"]
theorem tL:aP RL sW (aC FE):=by walk_at "sc"
abbrev nW:w9:=top 101
abbrev tK:List Str:=["_law_script","_law_rule","_law_swarm","_law_pen_here","_law_many","_law_hour","_law_later","_law_first","_law_second","_law_told","_law_left","_law_ahead"]
abbrev zU:List Str:=["_law_script"]
theorem iu:aP tK zU (aC nW):=by walk_at "sc"
set_option genInjectivity false in
structure Ad where
 JC:we
 H_:wE
 Hv:we
 G2:wE
 GW:we
 GQ:wE
 Jk:we
 HR:wE
 plus:we
 Kh:wE
 minus:we
 JP:wE
 times:we
 JL:wE
 over:we
 J4:wE
 less:we
 Ki:wE
 Jz:we
 HG:wE
 JS:we
 HY:wE
 Ju:we
 HM:wE
 Kj:we
 IY:wE
 KG:we
 J3:wE
 Kq:we
 Ji:wE
 Jy:we
 HN:wE
 JN:we
 Ic:wE
 Jf:we
 Hn:wE
 JF:we
 Il:wE
 JU:we
 Ip:wE
 JE:we
 Ik:wE
 Kn:we
 Jl:wE
 IK:we
 HB:wE
 mQ:we
 J7:wE
 J8:we
 IQ:wE
 behind:we
 Jw:wE
 JW:we
 IH:wE
 laid:we
 J0:wE
 Hm:we
 G3:wE
 sG:we
 Jj:wE
 HP:we
 G8:wE
 Je:we
 Ho:wE
 iI:we
 J_:wE
 JZ:we
 Jd:wE
 Jt:we
 HI:wE
 Ks:we
 JH:wE
 JX:we
 IE:wE
 Km:we
 Jh:wE
 Hw:we
 G1:wE
 Hl:we
 GS:wE
 Im:we
 Hh:wE
 HW:we
 G9:wE
 II:we
 Ht:wE
 IA:we
 Hf:wE
 Js:we
 HK:wE
 Ko:we
 Jn:wE
 Iw:we
 Hg:wE
 JR:we
 Ij:wE
 J6:we
 IW:wE
 Hz:we
 GX:wE
 IX:we
 Hy:wE
 JD:we
 Ia:wE
 Kf:we
 IV:wE
 Kg:we
 Jc:wE
 HC:we
 G5:wE
 JA:we
 Ii:wE
 JM:we
 Ig:wE
 KD:we
 JY:wE
 JJ:we
 Iu:wE
 J9:we
 IM:wE
 JI:we
 Iz:wE
 Kk:we
 IS:wE
 Kc:we
 IL:wE
 Hj:we
 GV:wE
 G6:we
 GP:wE
 Jq:we
 HH:wE
 Hx:we
 G4:wE
 JQ:we
 Iy:wE
 JG:we
 Iv:wE
 Io:we
 Hi:wE
 JT:we
 IC:wE
 Jb:we
 Hs:wE
 Jx:we
 HE:wE
 Jv:we
 HQ:wE
 Jp:we
 HS:wE
 Jm:we
 HJ:wE
 law:we
 Kl:wE
 oN:we
 fD:we
 dA:we
 d4:we
 Bj:we
 BG:we
structure Dn(K:wb)(mg:Str->Option wg)(n:Str)(st:w9)(ps:List Str)(f:we)(fd:wE):Prop where
 F:kT K n n st f fd
 g:mg n=some (.ref f)
 b:lV K fd ps []
section
variable{X:Cx}{x:Str}{f:we}{fd:wE}{ps:List Str}{sp:Sp}{j k:Nat}{e:Expr}{es:List Expr}{t:TA}{pos pp:Pos}{st:w9}{CX:fV}
theorem mC{E:XK}(F:aH X.prog X.w X.K X.mg X.base CX k f fd ps sp)(hr:d6 j X.A)(D:Dn X.K X.mg x st ps f fd)(hx:nj CX X E)(ha:PA X (e::es) t)(hj:k<=j:=by decide)(hg:Gl X x:=by exact rfl)
  (hdb:(x == ("__debug__" : Str))=false:=by decide) (he:w5 (e::es) X.env=(false,eval e X.env)::w5 es X.env:=by rfl) (hpl:(backTo pos (w5 es X.env)).any (·.1)=false:=by rfl) :
  PE X (.Call (.Name x pp) (e::es) [] pos) (rK sp [] E t):=Ny F (hr.mono hj) hg D.g D.F.kp D.b .nil hx ha hdb he hpl
theorem au(F:aH X.prog X.w X.K X.mg X.base aR k f fd ps sp)(hr:d6 j X.A)(D:Dn X.K X.mg x st ps f fd)(ha:PA X (e::es) t)(hj:k<=j:=by decide)(hg:Gl X x:=by exact rfl)
  (hdb:(x == ("__debug__" : Str))=false:=by decide) (he:w5 (e::es) X.env=(false,eval e X.env)::w5 es X.env:=by rfl) (hpl:(backTo pos (w5 es X.env)).any (·.1)=false:=by rfl) :
  PE X (.Call (.Name x pp) (e::es) [] pos) (rK sp [] E0 t):=Ny F (hr.mono hj) hg D.g D.F.kp D.b .nil zDT ha hdb he hpl
theorem ao{ta:TE}{i:Int}{kd}(ha:PE X e ta):PE X (.Subscript e (.Constant (.int i) kd pp) pos) (lJ (dy X.K) ta (tC (.int i))):=dJ di ha ay (λ_ _=>rfl)
theorem mD{K:wb}{ta:TE}{i:Int}{kd}(hr:gP X (dy K))(ha:PE X e ta):PE X (.Subscript e (.Constant (.int i) kd pp) pos) (lJ (dy K) ta (tC (.int i))):=dJ hr ha ay (λ_ _=>rfl)
theorem az(i:Nat){te:TE}(hN:X.N.Nodup)(he:PE X e te)(hi:X.N[i]? = some x:=by exact rfl)(hx:Loc X.env.scope x:=by first | exact Or.inl rfl | exact Or.inr rfl)(hs:swapsWith e (some (.Name x pp)) pos.line X.env=pure false:=by rfl)(hf:X.fn x=true\/X.env.scope.names.lookup x=some .local:=by first | exact .inl rfl | exact .inr rfl | assumption) :
  PS X (.Assign [.Name x pp] e pos) (kn te (iE i)):=zC6 hN hi hx he hs hf
end
structure Txt(K:wb)(mg:Str->Option wg)(a:Ad):Prop where
 sv:Dn K mg "is_whole" B7 yp a.JC a.H_
 Bk:Dn K mg "is_whole_from" EJ Ao a.Hv a.G2
 mJ:Dn K mg "greatest_divisor" Fx t_ a.GW a.GQ
 mK:Dn K mg "is_number" GL tI a.Jk a.HR
 fR:Dn K mg "plus" FO zd a.plus a.Kh
 oP:Dn K mg "minus" GA AZ a.minus a.JP
 jM:Dn K mg "times" Fb tJ a.times a.JL
 BL:Dn K mg "over" F6 tX a.over a.J4
 gn:Dn K mg "less" DY yI a.less a.Ki
 Ih:Dn K mg "is_factor" EX yN a.Jz a.HG
 I0:Dn K mg "is_shift" Fz yt a.JS a.HY
 Iq:Dn K mg "make_rule" FR Ap a.Ju a.HM
 Jo:Dn K mg "is_rule" FU w_ a.Kj a.IY
 BJ:Dn K mg "bend" Fg zA a.KG a.J3
 oO:Dn K mg "pushes" Fn zc a.Kq a.Ji
 Bt:Dn K mg "pushed_by" F5 A_ a.Jy a.HN
 IZ:Dn K mg "is_phase" Fi zR a.JN a.Ic
 HD:Dn K mg "are_phases" tP yG a.Jf a.Hn
 IU:Dn K mg "swarm_of" DH yC a.JF a.Il
 Bw:Dn K mg "greatest" D_ ye a.JU a.Ip
 IP:Dn K mg "worms_at" sT zp a.JE a.Ik
 sD:Dn K mg "flocks" Ah A2 a.Kn a.Jl
 Bq:Dn K mg "at_the_end" s_ A8 a.IK a.HB
 sH:Dn K mg "glow" mY yK a.mQ a.J7
 By:Dn K mg "history" Ek AH a.J8 a.IQ
 BE:Dn K mg "behind" EI zZ a.behind a.Jw
 sx:Dn K mg "is_laid" CO tV a.JW a.IH
 oQ:Dn K mg "laid" pJ zF a.laid a.J0
 G_:Dn K mg "phases_behind" yU tY a.Hm a.G3
 sC:Dn K mg "stands" BW Av a.sG a.Jj
 Bp:Dn K mg "round_behind" Ei tE a.HP a.G8
 HL:Dn K mg "round_time" GB zr a.Je a.Ho
 BK:Dn K mg "tops" tN z9 a.iI a.J_
 mO:Dn K mg "is_free" sa tZ a.JZ a.Jd
 mL:Dn K mg "round_map" AF Ak a.Jt a.HI
 BH:Dn K mg "still" tM yn a.Ks a.JH
 Bx:Dn K mg "weighed" AG ym a.JX a.IE
 BC:Dn K mg "led_on" C1 zN a.Km a.Jh
 Bm:Dn K mg "rounds_behind" Ex z_ a.Hw a.G1
 GZ:Dn K mg "sums_of_places" Ca yb a.Hl a.GS
 Hu:Dn K mg "rounds_time" AI Bg a.Im a.Hh
 Bo:Dn K mg "draws_freely" zg yF a.HW a.G9
 HF:Dn K mg "stays_free" tW A3 a.II a.Ht
 Hq:Dn K mg "free_rounds" B9 An a.IA a.Hf
 Bs:Dn K mg "has_stand" zP yW a.Js a.HK
 JK:Dn K mg "is_row" EK Ac a.Ko a.Jn
 HA:Dn K mg "is_last_row" GC v_ a.Iw a.Hg
 IG:Dn K mg "is_paper" sV zL a.JR a.Ij
 Jg:Dn K mg "go_free" CI zV a.J6 a.IW
 Bn:Dn K mg "behind_rounds" tQ A9 a.Hz a.GX
 Br:Dn K mg "behind_row" EW sX a.IX a.Hy
 IT:Dn K mg "leads_on" C3 Ag a.JD a.Ia
 BA:Dn K mg "word_of" DZ AR a.Kf a.IV
 Jr:Dn K mg "lets_by" Cg yT a.Kg a.Jc
 G7:Dn K mg "glows_to_join" Er zM a.HC a.G5
 IJ:Dn K mg "next_row" Gg AM a.JA a.Ii
 oM:Dn K mg "paper_of" FJ zJ a.JM a.Ig
 sI:Dn K mg "fate" Cf yc a.KD a.JY
 Ja:Dn K mg "_law_cell" Gy zD a.JJ a.Iu
 sy:Dn K mg "_law_pen" Fj yj a.J9 a.IM
 fg:Dn K mg "_law_draw" Gw yP a.JI a.Iz
 gk:Dn K mg "_law_low" Cc yu a.Kk a.IS
 mM:Dn K mg "_law_sum" DP zy a.Kc a.IL
 GY:Dn K mg "_law_drawn_rule" Cz AA a.Hj a.GV
 GR:Dn K mg "_law_drawn_phases" AJ zT a.G6 a.GP
 Ib:Dn K mg "_law_paper" C_ AE a.Jq a.HH
 Bl:Dn K mg "_law_fate_told" DG Ba a.Hx a.G4
 Bu:Dn K mg "_law_says" Fw x_ a.JQ a.Iy
 Bv:Dn K mg "_law_rest" DE zI a.JG a.Iv
 sr:Dn K mg "_law_product" EH zG a.Io a.Hi
 IF:Dn K mg "_law_part" B1 yf a.JT a.IC
 HU:Dn K mg "_law_pushes" Ez AB a.Jb a.Hs
 Ie:Dn K mg "_law_round" pB tF a.Jx a.HE
 HZ:Dn K mg "_law_power" En Bc a.Jv a.HQ
 HX:Dn K mg "_law_rests" yD AO a.Jp a.HS
 ID:Dn K mg "_law_start" FE sW a.Jm a.HJ
 Y_:Dn K mg "law" nW zU a.law a.Kl
 z_abs:mg "abs"=none
 z_all:mg "all"=none
 z_any:mg "any"=none
 z_bool:mg "bool"=none
 z_dict:mg "dict"=none
 z_enumerate:mg "enumerate"=none
 z_int:mg "int"=none
 z_isinstance:mg "isinstance"=none
 z_len:mg "len"=none
 z_list:mg "list"=none
 z_min:mg "min"=none
 z_range:mg "range"=none
 z_set:mg "set"=none
 z_str:mg "str"=none
 z_sum:mg "sum"=none
 z_tuple:mg "tuple"=none
 z_zip:mg "zip"=none
 YU:mg "NoStand"=some (.ref a.oN)
 BB:mg "TooLong"=some (.ref a.fD)
 YS:qk K a.oN rX "ValueError.__new__"=true
 aaa:qF K (.ref a.oN) (.ref a.fD)=some false
 YT:qk K a.fD rX "ValueError.__new__"=true
 GU:qF K (.ref a.fD) (.ref a.fD)=some true
 dX:mg "NOUGHT"=some (.ref a.dA)
 eW:∀H:Hp,aU K H a.dA [.int 0,.int 1]
 fh:mg "ONE"=some (.ref a.d4)
 sL:∀H:Hp,aU K H a.d4 [.int 1,.int 1]
 YF:mg "GREATEST_FACTOR"=some (.ref a.Bj)
 YH:∀H:Hp,aU K H a.Bj [.int 4,.int 1]
 YI:∃t,mg "FACTOR_BOTTOM"=some (.int 8 t)
 YK:∃t,mg "SHIFT_BOTTOM"=some (.int 12 t)
 YL:∃t,mg "MOST_WORMS"=some (.int 8 t)
 YJ:∃t,mg "PHASE_BOTTOM"=some (.int 60 t)
 Ir:∃t,mg "MOST_FREE"=some (.int 30 t)
 YM:∃t,mg "MOST_GLOWS"=some (.int 40 t)
 YY:mg "WORDS"=some (.ref a.BG)
 YW:∀H:Hp,aU K H a.BG [.str "one",.str "rests",.str "drawn"]
end G
open L2 GM in
local macro_rules | `(tactic| walk_at "is")=>`(tactic| first
 | assumption
 | exact bV.mpr rfl
 | exact kb.mpr rfl
 | exact lR.mpr rfl
 | exact eX.mpr rfl
 | exact Is.Ze (by assumption) (by walk_at "same")
 | exact Is.Y9 (by assumption) (by walk_at "keep")
 | exact Is.oU (by assumption) (by walk_at "keep")
 | ((with_reducible apply is_tupAt);(focus assumption);(focus walk_at "isall");walk_at "same")
 | ((with_reducible apply is_lstAt);(focus assumption);(focus walk_at "isall");walk_at "same")
 | ((with_reducible apply is_dctAt);(focus assumption);walk_at "same")
 | exact eC 0 (G.Txt.eW (by assumption) _) rfl rfl | exact eC 1 (G.Txt.sL (by assumption) _) rfl rfl | exact eC 4 (G.Txt.YH (by assumption) _) rfl rfl
 | fail "is")
open L2 GM in
local macro_rules | `(tactic| walk_at "isall")=>`(tactic| first
 | exact ak.nil
 | exact ak.cons (by walk_at "is") (by walk_at "isall")
 | fail "isall")
open L2 GM in
local macro_rules | `(tactic| walk_at "ne")=>`(tactic| first
 | assumption
 | (apply WE;assumption))
open L2 GM in
local macro_rules | `(tactic| walk_at "lst")=>`(tactic| first
 | assumption
 | exact ah.at (by assumption) (by walk_at "lst")
 | exact Exc.at (by assumption) (by walk_at "ne") (by walk_at "lst")
 | fail "lst")
open L2 GM in
local macro_rules | `(tactic| walk_at "same")=>`(tactic| first
 | assumption
 | exact ah.refl _
 | exact ah.back (by assumption) (by walk_at "same")
 | fail "same")
open L2 GM in
local macro_rules | `(tactic| walk_at "keep")=>`(tactic| first
 | assumption
 | exact bG.refl _
 | exact ah.keep (by assumption)
 | exact bG.back (by assumption) (by walk_at "keep")
 | exact bG.back (ah.keep (by assumption)) (by walk_at "keep")
 | fail "keep")
open L2 GM in
local macro_rules | `(tactic| walk_at "exc")=>`(tactic| first
 | assumption
 | exact Exc.refl _ _
 | exact Exc.back (by assumption) (by walk_at "exc")
 | exact Exc.back (ah.exc (by assumption)) (by walk_at "exc")
 | fail "exc")
open L2 GM in
local macro_rules | `(tactic| walk_at "sqf")=>`(tactic| first
 | assumption
 | exact bG.Ft (by walk_at "keep") (by assumption)
 | fail "sqf")
open L2 GM in
local macro_rules | `(tactic| walk_at "bd")=>`(tactic| first
 | assumption
 | exact Bd.mk (n:=128) (by decide)
 | exact Bd.mono (m:=128) ⟨by decide⟩ (by decide)
 | exact ag.t (by assumption)
 | exact ag.b (by assumption)
 | exact Bd.kD (by omega) (by omega)
 | (apply Bd.neg;walk_at "bd")
 | (apply Bd.mul;(focus walk_at "bd");walk_at "bd")
 | (apply Bd.add;(focus walk_at "bd");walk_at "bd")
 | (apply Bd.sub;(focus walk_at "bd");walk_at "bd"))
open L2 GM PySem in
local macro_rules | `(tactic| walk_at "mulok")=>`(tactic| first
 | exact ua (by decide)
 | exact uC (by decide)
 | exact ua (intBits_le_64 (by omega) (by omega))
 | exact uC (intBits_le_64 (by omega) (by omega))
 | (apply L2.Y3;(focus walk_at "bd");(focus walk_at "bd");(focus decide);decide))
open L2 GM PySem in
local macro_rules | `(tactic| walk_at "side")=>`(tactic| first
 | assumption
 | decide
 | omega
 | walk_at "mulok"
 | (refine And.intro ?_ ?_<;>walk_at "side")
 | walk_at "bd")
open L2 GM in
local macro_rules | `(tactic| walk_at "gs")=>`(tactic| first
 | walk_at "sq"
 | with_reducible (first | refine zDa ?_ | refine zDu ?_ | refine zCO ?_ | refine zEl ?_)
 | ((with_reducible apply zDF);(focus rfl))
 | with_reducible (first | refine zE4 ?_ | refine zAH ?_ | refine zDp ?_ | refine zBm ?_ | refine Zj ?_ | refine zAj ?_ | refine zD8 ?_ | refine ZF ?_ | refine zDB ?_ | refine zCv ?_ | refine zAr ?_)
 | ((with_reducible apply rV);(focus walk_at "side"))
 | with_reducible (first | refine zEk ?_ | refine zD2 ?_ | refine zDO ?_ | refine zCx ?_ | refine zDe ?_ | refine zDj ?_ | refine zAa ?_ | refine og ?_ | refine m_ ?_)
 | with_reducible refine zAC (λ_=>?_) (λ_=>?_)
 | with_reducible refine zyt (λ_=>?_) (λ_=>?_)
 | with_reducible refine zzt (λ_=>?_) (λ_=>?_)
 | with_reducible refine zAE (λ_=>?_) (λ_=>?_)
 | with_reducible (first | refine zCC ?_ | refine zEd ?_ | refine zCw ?_ | refine zBq ?_ | refine Zm ?_ | refine zCS ?_ | refine zAJ ?_ | refine zBd ?_ | refine zBI ?_ | refine zA5 ?_ | refine Zv ?_ | refine zBh ?_ | refine zx9 ?_ | refine zyD ?_ | refine zAh ?_ | refine zAm ?_)
 | ((with_reducible apply zBz);(focus walk_at "is"))
 | ((with_reducible apply zAx);(focus walk_at "is"))
 | ((with_reducible apply iQ);(focus(apply aQ.of;walk_at "lst"));(focus rfl))
 | ((with_reducible apply zt);(focus assumption);(focus rfl);intro hN eN lN;dsimp only[Int.reduceToNat,XQ,XR]at lN)
 | ((with_reducible apply LZ);(focus walk_at "is"))
 | ((with_reducible apply zxR);(focus walk_at "is"))
 | ((with_reducible apply Oa);(focus walk_at "is"))
 | dsimp only[XQ,XR])
set_option hygiene false in
open L2 GM in
local macro_rules | `(tactic| walk_at "sq")=>`(tactic| with_reducible refine zBB (λ tl_ htl_=>?_))
set_option hygiene false in
open L2 GM in
local macro_rules | `(tactic| walk_at "tl")=>`(tactic| ((with_reducible refine y9.go (by assumption) ?_); (try clear htl_ tl_)))
open L2 GM in
local macro_rules | `(tactic| walk_at "bdr0")=>`(tactic| first
 | assumption
 | exact ag.zero
 | exact ag.one
 | exact ag.four
 | (apply ag.add;(focus walk_at "bdr0");walk_at "bdr0")
 | (apply ag.sub;(focus walk_at "bdr0");walk_at "bdr0")
 | (apply ag.mul;(focus walk_at "bdr0");walk_at "bdr0"))
open L2 GM in
local macro_rules | `(tactic| walk_at "bdr")=>`(tactic| first
 | assumption
 | (apply ag.mono;(focus walk_at "bdr0");(first | decide | omega)))
open L2 GM in
local macro_rules | `(tactic| walk_at "ga1")=>`(tactic| first
 | walk_at "gs"
 | ((with_reducible apply cB);(focus(simp only[vo,xG];decide));(focus walk_at "isall");intro _ _ _ _)
 | ((with_reducible apply ft);(focus(simp only[vo,xG];decide));intro _ _ _ _ _)
 | ((with_reducible apply jS);(focus walk_at "lst");(focus walk_at "lst");(focus(simp only[wR,vo,xG];decide));intro _ _ _ _ _))
local macro_rules | `(tactic| walk_at "ga")=>`(tactic| repeat' (first | walk_at "ga1" | walk_at "tl"))
local macro_rules | `(tactic| walk_at "gg")=>`(tactic| repeat' (first | walk_at "gs" | walk_at "tl"))
local macro_rules | `(tactic| walk_at "gt")=>`(tactic| repeat' (walk_at "gs"))
open L2 GM in
local macro_rules | `(tactic| walk_at "bd128")=>`(tactic| first
 | exact Bd.mono (m:=128) ⟨by decide⟩ (by decide)
 | exact(Bd.kD (by omega) (by omega)).mono (by decide))
open L2 GM in
local macro_rules | `(tactic| walk_at "gs")=>`(tactic| first
 | with_reducible (first | refine zD7 ?_ | refine zwp ?_ | refine zxj ?_ | refine zEx ?_ | refine zwy ?_ | refine zzJ ?_ | refine zys ?_ | refine Z5 ?_ | refine zyg ?_ | refine MQ ?_ | refine zzK ?_ | refine zzs ?_ | refine zEO ?_ | refine zz9 ?_ | refine zAt ?_ | refine zzR ?_ | refine zwm ?_ | refine zw5 ?_ | refine zCp ?_ | refine zqy ?_ | refine zx0 ?_ | refine zxW ?_)
 | with_reducible refine zAR (λ_ _ _ _=>?_)
 | with_reducible (first | refine zBD ?_ | refine zzo ?_ | refine zDJ ?_ | refine ZH ?_ | refine zCX ?_ | refine zxP ?_ | refine zwU ?_ | refine zBL ?_ | refine zxO ?_)
 | ((with_reducible apply zxf);(focus walk_at "is"))
 | ((with_reducible apply zAb);(focus walk_at "is"))
 | ((with_reducible apply zA6);(focus walk_at "is");intro _ _)
 | ((with_reducible apply zAM);(focus walk_at "is");intro _ _)
 | ((with_reducible apply iQ);(focus(apply aQ.of;walk_at "lst"));(focus rfl))
 | ((with_reducible apply zAN);(focus walk_at "lst");(focus omega);(focus omega);intro _ _)
 | ((with_reducible apply RC);(focus walk_at "is");(focus walk_at "is"))
 | ((with_reducible apply zC5);(focus walk_at "is");(focus walk_at "is")))
set_option hygiene false in
local macro_rules | `(tactic| walk_at "b1")=>`(tactic| (focus (intro vs H Q E h; obtain ⟨_,rfl,_⟩:=h; rfl)); (intro cdv A outer s H vs Q E hr h; obtain ⟨x0,rfl,h⟩:=h; have hu:=hr.units))
set_option hygiene false in
local macro_rules | `(tactic| walk_at "b2")=>`(tactic| (focus (intro vs H Q E h; obtain ⟨_,_,rfl,_⟩:=h; rfl)); (intro cdv A outer s H vs Q E hr h; obtain ⟨x0,x1,rfl,h⟩:=h; have hu:=hr.units))
set_option hygiene false in
local macro_rules | `(tactic| walk_at "b3")=>`(tactic| (focus (intro vs H Q E h; obtain ⟨_,_,_,rfl,_⟩:=h; rfl)); (intro cdv A outer s H vs Q E hr h; obtain ⟨x0,x1,x2,rfl,h⟩:=h; have hu:=hr.units))
set_option hygiene false in
local macro_rules | `(tactic| walk_at "b4")=>`(tactic| (focus (intro vs H Q E h; obtain ⟨_,_,_,_,rfl,_⟩:=h; rfl)); (intro cdv A outer s H vs Q E hr h; obtain ⟨x0,x1,x2,x3,rfl,h⟩:=h; have hu:=hr.units))
set_option hygiene false in
local macro_rules | `(tactic| walk_at "cl")=>`(tactic| ((clear hu); (try clear hgd); (first | dsimp only [iV,cxOfH] | dsimp only [iV] | skip)))
local macro_rules | `(tactic| k_few)=>`(tactic| walk_at "gg")
local macro_rules | `(tactic| o_head $e)=>`(tactic| (walk_at "gg"; refine $e))
namespace G
open PySem PySem.Spec PyProof.Rows L2 GM
section
variable{P:wI}{w:wJ}{K:wb}{mg:Str->Option wg}{base:wG}{a:Ad}
variable{H:Hp}{Q:VK}{E:XK}{u v:V}{i j k m n r:Nat}{b h ra rb x y:Rat}{ds:List wC}{e:wC}{ps ss xs ys:List Rat}{α:Type}{p p1:we}{ns:List Int}{fl:Nat->Nat}{B t:Int}{es:List (Nat × Nat × Nat)}
def isInt:wC->Bool
 | .int _=>true
 | _=>false
def Sx(K:wb):Sp:=λvs H Q _=>∃x0,vs=[x0] /\ ∃d,Is K H x0 d/\Q (.bl (isInt d)) H
theorem ztd{d:wC}(h:Is K H v d)(q:Q (.bl (isInt d)) H):Sx K [v] H Q E:=⟨v,rfl,d,h,q⟩
local macro_rules | `(tactic| walk_at "gs")=>`(tactic| ((with_reducible apply ztd); (focus walk_at "is")))
theorem DT(T:Txt K mg a):aH P w K mg base aR 1 a.JC a.H_ yp (Sx K):=by
 refine T.sv.F.ok ztE ?_ ?_;walk_at "b1";refine⟨_,(av (aB (eU (bE (show aK _ (.builtin "isinstance") (eQ K)from jt) rfl T.z_isinstance jb (ae (pv 0) (ae (iH (v:=.ty "int") rfl T.z_int zDs rfl) af))) (gK (ng (bE (show aK _ (.builtin "isinstance") (eQ K)from jt) rfl T.z_isinstance jb (ae (pv 0) (ae (iH (v:=.ty "bool") rfl T.z_bool RZ rfl) af)))))))),?_⟩;walk_at "cl";rw[show start EC [x0]=[some x0]from rfl];obtain⟨d,hd,q⟩:=h;k_few
 all_goals(cases d<;>simp_all [isInt,CC,DF])
def mB(l m:Int):wC->Bool
 | .int i=>decide (l<=i)&&decide (i<=m)
 | _=>false
theorem zuv{l m:Int}{d:wC}(h:isInt d=false):mB l m d=false:=by cases d<;>first | rfl | cases h
def KY(K:wb):Sp:=λvs H Q _=>∃x0 x1 x2,vs=[x0,x1,x2] /\ ∃(l m:Int)(d:wC),x0=.int l/\x1=.int m/\Is K H x2 d/\Q (.bl (mB l m d)) H
theorem KS{l m:Int}{d:wC}(h:Is K H v d)(q:Q (.bl (mB l m d)) H):KY K [.int l,.int m,v] H Q E:=⟨_,_,_,rfl,l,m,d,rfl,rfl,h,q⟩
theorem Lj(T:Txt K mg a):aH P w K mg base aR 2 a.Hv a.G2 Ao (KY K):=by
 refine T.Bk.F.ok Zl ?_ ?_;walk_at "b3";refine⟨_,(av (aB (eU (au (DT T) hr T.sv (ae (pv 2) af)) (gK (LK jY jY (pv 0) (pv 2) (pv 1)))))),?_⟩;walk_at "cl";rw[show start zev [x0,x1,x2]=[some x0,some x1,some x2]from rfl];obtain⟨l,m,d,rfl,rfl,hd,q⟩:=h;have hc:(∃i,d=.int i)\/isInt d=false:=by cases d<;>simp[isInt]
 rcases hc with⟨i,rfl⟩ | hn
 ·cases bV.mp hd
  have q:Q (.bl (decide (l<=i)&&decide (i<=m))) H:=q;k_few
  ·rename_i z
   rw[decide_eq_true z,ql]at q;exact q
  ·rename_i z
   rw[decide_eq_false z,Ww]at q;exact q
  ·rename_i z;cases (show true=false from z)
 ·rw[zuv hn]at q
  k_few
  ·rename_i z1;rw[hn]at z1;cases z1
  ·exact q
def ML(K:wb):Sp:=λvs H Q _=>∃x0 x1,vs=[x0,x1] /\ ∃a b:Int,x0=.int a/\x1=.int b/\0<=a/\0<=b/\Q (.int (vE a b:Nat)) H
theorem pb{a b:Int}(ha:0<=a)(hb:0<=b)(q:Q (.int (vE a b:Nat)) H):ML K [.int a,.int b] H Q E:=⟨_,_,rfl,a,b,rfl,rfl,ha,hb,q⟩
theorem rB(T:Txt K mg a):aH P w K mg base aR 1 a.GW a.GQ t_ (ML K):=by
 refine T.mJ.F.ok tm ?_ ?_;walk_at "b2"
 refine⟨_,(ar (nu vP (bZ (show aN _ (wT .NotEq) (gc K)from kz hu) (pv 1) ay (bC _)) (ar (az 2 tm.nd (aD gQ (pv 0) (pv 1)))
     (ar (az 0 tm.nd (pv 1))
     (av (az 1 tm.nd (pv 2))))))
     (av (aB (pv 0)))),?_⟩
 walk_at "cl";rw[show start KJ [x0,x1]=[some x0,some x1,none]from rfl];obtain⟨a',b',rfl,rfl,ha,hb,q⟩:=h;refine zC2 ?_;refine Su (λσ H'=>∃(x y:Int)(r:Option V),σ = [some (.int x),some (.int y),r]/\0<=x/\0<=y/\vE x y=vE a' b'/\H'=H) (λσ=>(MP σ 1).toNat) ⟨a',b',none,rfl,ha,hb,rfl,rfl⟩ ?_;rintro σ H' ⟨x,y,r,rfl,hx,hy,hg,rfl⟩;k_few
 . refine Oq ?_
   k_few;have h1:=QI x (show y≠0 by assumption);have h2:=Qe x (show 0<y by omega);refine⟨?_,_,_,_,rfl,hy,h1,?_,rfl⟩
   . show(x % y).toNat<y.toNat
     omega
   . rw[<- hg];exact Tz (by omega) hx
 . rename_i h0
   subst h0
   have e:((vE a' b':Nat):Int)=x:=by
     rw[<- hg,XS];omega
   rw[e]at q;exact q
def bP:wC->Bool
 | .tuple [.int p,.int q]=>gX p q
 | _=>false
theorem rN(r:Rat):bP (N r)=true:=V_ r
theorem zt5{d:wC}(h:ja d=false):bP d=false:=by
 cases d<;>first | rfl | (simp[ja]at h)
theorem zui(h:¬ ds.length=2):bP (.tuple ds)=false:=by
 match ds with
 | []=>rfl
 | [_]=>simp[bP]
 | [_,_]=>exact absurd rfl h
 | _::_::_::_=>simp[bP]
theorem zre{d:wC}(h:isInt d=false):bP (.tuple [d,e])=false:=by
 cases d<;>first | rfl | (simp[isInt]at h)
theorem zoD{d:wC}(h:isInt e=false):bP (.tuple [d,e])=false:=by
 cases d<;>cases e<;>first | rfl | (simp[isInt]at h)
theorem Md{d:wC} : isInt d=true ↔ ∃i,d=.int i:=by cases d<;>simp[isInt]
def Nl(K:wb):Sp:=λvs H Q _=>∃x0,vs=[x0] /\ ∃d,Is K H x0 d/\Q (.bl (bP d)) H
theorem zqQ{d:wC}(h:Is K H v d)(q:Q (.bl (bP d)) H):Nl K [v] H Q E:=⟨v,rfl,d,h,q⟩
local macro_rules | `(tactic| walk_at "gs")=>`(tactic| ((with_reducible apply zqQ); (focus walk_at "is")))
theorem oY(T:Txt K mg a):aH P w K mg base aR 2 a.Jk a.HR tI (Nl K):=by
 refine T.mK.F.ok zrh ?_ ?_;walk_at "b1"
 refine⟨_,(ar (bR (PW.pt (fG (cW (cz (bE (show aK _ (.builtin "isinstance") (eQ K)from jt) rfl T.z_isinstance jb (ae (pv 0) (ae (iH (v:=.ty "tuple") rfl T.z_tuple d5 rfl) af))))) (iC (bZ (show aN _ (wT .NotEq) (gc K)from kz hu) (bE (show aK _ (.builtin "len") (dj K)from eA) rfl T.z_len dU (ae (pv 0) af)) ay (bC _))))) (av (aB eF)) bS)
     (ar (bR (PW.pt (fG (cW (cz (au (DT T) hr T.sv (ae (ao (pv 0)) af)))) (iC (cW (cz (au (DT T) hr T.sv (ae (ao (pv 0)) af))))))) (av (aB eF)) bS)
     (av (aB (eU (e_ DR (ao (pv 0)) ay (bC _)) (gK (e_ (show aN _ (wT .Eq) (cO K)from dR hu) (au (rB T) hr T.mJ (ae (bE mj rfl T.z_abs lG (ae (ao (pv 0)) af)) (ae (ao (pv 0)) af))) ay (bC _)))))))),?_⟩
 walk_at "cl";rw[show start Fs [x0]=[some x0]from rfl];obtain⟨d,hd,q⟩:=h;k_few
 . rename_i e
   rw[zt5 e]at q;exact q
 . rename_i e
   obtain⟨ds,rfl⟩:=Lw.mp e;refine ly hd ?_;k_few
   . rename_i e
     rw[zui (by omega)]at q;exact q
   . rename_i e
     obtain⟨d0,d1,rfl⟩:∃d0 d1,ds=[d0,d1]:=by
       match ds,e with
       | [d0,d1],_=>exact⟨d0,d1,rfl⟩
       | [],e=>simp at e
       | [_],e=>simp at e
       | _::_::_::_,e=>simp at e;omega
     refine aA (j:=0) hd rfl (λy0 h0=>?_);k_few
     . rename_i e
       rw[zre e]at q;exact q
     . rename_i e0
       obtain⟨i,rfl⟩:=Md.mp e0;refine aA (j:=1) hd rfl (λy1 h1=>?_);k_few
       . rename_i e
         rw[zoD e]at q;exact q
       . rename_i e1
         obtain⟨j,rfl⟩:=Md.mp e1;refine aA (j:=1) hd rfl (λy2 h2=>?_);cases bV.mp h2;k_few
         . refine aA (j:=0) hd rfl (λy3 h3=>?_)
           cases bV.mp h3;o_head aA (j:=1) hd rfl (λy4 h4=>?_);cases bV.mp h4;o_head pb (by split<;>omega) (by omega) ?_;k_few
           have e3:bP (.tuple [.int i,.int j])=decide ((vE (if i<0 then -i else i) j:Nat)=(1:Int)):=by
             have e4:vE (if i<0 then -i else i) j=vE i j:=by
               split<;>simp
             rw[e4]
             show gX i j=_
             rename_i e5;simp only[gX,e5,decide_true,ql];rw[vL,decide_eq_true_eq,decide_eq_true_eq];omega
           rw[e3]at q;exact q
         . rename_i e5
           have e3:bP (.tuple [.int i,.int j])=false:=by
             show gX i j=false
             simp only[gX,e5,decide_false,Ww]
           rw[e3]at q;exact q
def PN(K:wb):Sp:=λvs H Q _=>∃x0 x1,vs=[x0,x1] /\ ∃(x y:Rat),Is K H x0 (N x)/\Is K H x1 (N y)/\ag 8999 x/\ag 8999 y /\ ∀v H',ah H H'->Is K H' v (N (x+y))->Q v H'
theorem Lx{w:V}(h1:Is K H v (N x))(h2:Is K H w (N y))(b1:ag 8999 x)(b2:ag 8999 y)(q:∀v H',ah H H'->Is K H' v (N (x+y))->Q v H'):PN K [v,w] H Q E:=⟨_,_,rfl,x,y,h1,h2,b1,b2,q⟩
local macro_rules | `(tactic| walk_at "gs")=>`(tactic| ((with_reducible apply Lx); (focus walk_at "is"); (focus walk_at "is"); (focus walk_at "bdr"); (focus walk_at "bdr"); intro _ _ _ _))
theorem gy(T:Txt K mg a):aH P w K mg base aR 2 a.plus a.Kh zd (PN K):=by
 refine T.fR.F.ok tD ?_ ?_;walk_at "b2"
 refine⟨_,(ar (az 2 tD.nd (au (rB T) hr T.mJ (ae (ao (pv 0)) (ae (ao (pv 1)) af))))
     (ar (az 3 tD.nd (aD cC (aD cV (ao (pv 0)) (aD fj (ao (pv 1)) (pv 2))) (aD cV (ao (pv 1)) (aD fj (ao (pv 0)) (pv 2)))))
     (ar (az 4 tD.nd (au (rB T) hr T.mJ (ae (bE mj rfl T.z_abs lG (ae (pv 3) af)) (ae (pv 2) af))))
     (av (aB (br (ae (aD fj (pv 3) (pv 4)) (ae (aD cV (aD fj (ao (pv 0)) (pv 2)) (aD fj (ao (pv 1)) (pv 4))) af)))))))),?_⟩
 walk_at "cl";rw[show start OJ [x0,x1]=[some x0,some x1,none,none,none]from rfl];obtain⟨x,y,hx,hy,⟨bx1,bx2⟩,⟨by1,by2⟩,q⟩:=h;have px:=den_pos x;have py:=den_pos y;have ps:=Bf x y;have pd:=Dz x y;have c1:nV 0 (fA x y):=⟨by omega,pS bx2 (pC x y) px⟩;have c2:nV 0 (jG x y):=⟨by omega,pS (pS bx2 (pC x y) px) (DJ x y) ps⟩;have f1:=mi by2 (zK x y) ps;have f2:=mi bx2 (pC x y) ps;have f3:=mi by2 (qj (DJ x y) (zK x y)) pd;o_head pb (by omega) (by omega) ?_;rw[show((vE (x.den:Int) (y.den:Int):Nat):Int)=fA x y from rfl];k_few;rw[show x.num*(y.den:Int).fdiv (fA x y)+y.num*(x.den:Int).fdiv (fA x y)=kG x y from rfl];o_head pb (by split<;>omega) (by omega) ?_;rw[yZ,show((vE (kG x y) (fA x y):Nat):Int)=jG x y from rfl];k_few;exact fb (zBy x y) (zAl x y) q
def UL(K:wb):Sp:=λvs H Q _=>∃x0 x1,vs=[x0,x1] /\ ∃(x y:Rat),Is K H x0 (N x)/\Is K H x1 (N y)/\ag 8999 x/\ag 8999 y /\ ∀v H',ah H H'->Is K H' v (N (x-y))->Q v H'
theorem zxL{w:V}(h1:Is K H v (N x))(h2:Is K H w (N y))(b1:ag 8999 x)(b2:ag 8999 y)(q:∀v H',ah H H'->Is K H' v (N (x-y))->Q v H'):UL K [v,w] H Q E:=⟨_,_,rfl,x,y,h1,h2,b1,b2,q⟩
local macro_rules | `(tactic| walk_at "gs")=>`(tactic| ((with_reducible apply zxL); (focus walk_at "is"); (focus walk_at "is"); (focus walk_at "bdr"); (focus walk_at "bdr"); intro _ _ _ _))
theorem Ax(T:Txt K mg a):aH P w K mg base aR 3 a.minus a.JP AZ (UL K):=by
 refine T.oP.F.ok zzz ?_ ?_;walk_at "b2";refine⟨_,(av (aB (au (gy T) hr T.fR (ae (pv 0) (ae (br (ae (gI gB (ao (pv 1))) (ae (ao (pv 1)) af))) af))))),?_⟩;walk_at "cl";rw[show start F_ [x0,x1]=[some x0,some x1]from rfl];obtain⟨x,y,hx,hy,bx,by',q⟩:=h;o_head fb (r:=-y) (by simp) (by simp) (λv H' s hv=>?_);o_head Lx (by walk_at "is") hv bx (zz0 by') (λw H'' s2 hw=>?_);rw[zuG]at hw;k_few;exact q w H'' (s.trans s2) hw
def NH(K:wb):Sp:=λvs H Q _=>∃x0 x1,vs=[x0,x1] /\ ∃(x y:Rat),Is K H x0 (N x)/\Is K H x1 (N y)/\ag 8999 x/\ag 8999 y /\ ∀v H',ah H H'->Is K H' v (N (x*y))->Q v H'
theorem B6{w:V}(h1:Is K H v (N x))(h2:Is K H w (N y))(b1:ag 8999 x)(b2:ag 8999 y)(q:∀v H',ah H H'->Is K H' v (N (x*y))->Q v H'):NH K [v,w] H Q E:=⟨_,_,rfl,x,y,h1,h2,b1,b2,q⟩
local macro_rules | `(tactic| walk_at "gs")=>`(tactic| ((with_reducible apply B6); (focus walk_at "is"); (focus walk_at "is"); (focus walk_at "bdr"); (focus walk_at "bdr"); intro _ _ _ _))
theorem lg(T:Txt K mg a):aH P w K mg base aR 2 a.times a.JL tJ (NH K):=by
 refine T.jM.F.ok GF ?_ ?_;walk_at "b2"
 refine⟨_,(ar (az 2 GF.nd (au (rB T) hr T.mJ (ae (bE mj rfl T.z_abs lG (ae (ao (pv 0)) af)) (ae (ao (pv 1)) af))))
     (ar (az 3 GF.nd (au (rB T) hr T.mJ (ae (bE mj rfl T.z_abs lG (ae (ao (pv 1)) af)) (ae (ao (pv 0)) af))))
     (av (aB (br (ae (aD cV (aD fj (ao (pv 0)) (pv 2)) (aD fj (ao (pv 1)) (pv 3))) (ae (aD cV (aD fj (ao (pv 0)) (pv 3)) (aD fj (ao (pv 1)) (pv 2))) af))))))),?_⟩
 walk_at "cl";rw[show start SJ [x0,x1]=[some x0,some x1,none,none]from rfl];obtain⟨x,y,hx,hy,⟨bx1,bx2⟩,⟨by1,by2⟩,q⟩:=h;have px:=den_pos x;have py:=den_pos y;have p1:=mW x y;have p2:=mW y x;have c1:nV 0 (gz x y):=⟨by omega,pS by2 (nY x y) py⟩;have c2:nV 0 (gz y x):=⟨by omega,pS bx2 (nY y x) px⟩;have f1:=mi bx1 (yS x y) p1;have f2:=mi by1 (yS y x) p2;have f3:=mi bx2 (nY y x) p2;have f4:=mi by2 (nY x y) p1;o_head pb (by split<;>omega) (by omega) ?_;rw[yZ,show((vE x.num (y.den:Int):Nat):Int)=gz x y from rfl];o_head pb (by split<;>omega) (by omega) ?_;rw[yZ,show((vE y.num (x.den:Int):Nat):Int)=gz y x from rfl];k_few;exact fb (zAs x y) (zAn x y) q
def R3(K:wb):Sp:=λvs H Q _=>∃x0 x1,vs=[x0,x1] /\ ∃(x y:Rat),Is K H x0 (N x)/\Is K H x1 (N y)/\ag 8999 x/\ag 8999 y/\y≠0 /\ ∀v H',ah H H'->Is K H' v (N (x / y))->Q v H'
theorem SY{w:V}(h1:Is K H v (N x))(h2:Is K H w (N y))(b1:ag 8999 x)(b2:ag 8999 y)(hy:y≠0)(q:∀v H',ah H H'->Is K H' v (N (x / y))->Q v H'):R3 K [v,w] H Q E:=⟨_,_,rfl,x,y,h1,h2,b1,b2,hy,q⟩
theorem Nu(T:Txt K mg a):aH P w K mg base aR 3 a.over a.J4 tX (R3 K):=by
 refine T.BL.F.ok Rp ?_ ?_;walk_at "b2"
 refine⟨_,(ar (bR (bZ (show aN _ (wT .Eq) (cO K)from dR hu) (ao (pv 1)) ay (bC _)) (av Gq) bS)
     (ar (az 2 Rp.nd (tO (bZ m4 (ao (pv 1)) ay (bC _)) (br (ae (ao (pv 1)) (ae (ao (pv 1)) af))) (br (ae (gI gB (ao (pv 1))) (ae (gI gB (ao (pv 1))) af)))))
     (av (aB (au (lg T) hr T.jM (ae (pv 0) (ae (pv 2) af))))))),?_⟩
 walk_at "cl";rw[show start Lf [x0,x1]=[some x0,some x1,none]from rfl];obtain⟨x,y,hx,hy,bx,by',hn,q⟩:=h;k_few
 . rename_i z
   exact absurd z (yk hn)
 . rename_i z0 z
   refine fb (r:=y⁻¹) (zW z).1.symm (zW z).2.symm (λv1 H1 S1 i1=>?_);o_head B6 (hx.by S1) i1 bx (UK by' hn) (λv2 H2 S2 i2=>?_);rw[<- xN]at i2;k_few;exact q v2 H2 (S1.trans S2) i2
 . rename_i z0 z
   have z:y.num<0:=by omega
   refine fb (r:=y⁻¹) (yz z).1.symm (yz z).2.symm (λv1 H1 S1 i1=>?_);o_head B6 (hx.by S1) i1 bx (UK by' hn) (λv2 H2 S2 i2=>?_);rw[<- xN]at i2;k_few;exact q v2 H2 (S1.trans S2) i2
def UU(K:wb):Sp:=λvs H Q _=>∃x0 x1,vs=[x0,x1] /\ ∃(x y:Rat),Is K H x0 (N x)/\Is K H x1 (N y)/\ag 8999 x/\ag 8999 y/\Q (.bl (decide (x<y))) H
theorem zAo{w:V}(h1:Is K H v (N x))(h2:Is K H w (N y))(b1:ag 8999 x)(b2:ag 8999 y)(q:Q (.bl (decide (x<y))) H):UU K [v,w] H Q E:=⟨_,_,rfl,x,y,h1,h2,b1,b2,q⟩
local macro_rules | `(tactic| walk_at "gs")=>`(tactic| ((with_reducible apply zAo); (focus walk_at "is"); (focus walk_at "is"); (focus walk_at "bdr"); (focus walk_at "bdr")))
theorem gO(T:Txt K mg a):aH P w K mg base aR 1 a.less a.Ki yI (UU K):=by
 refine T.gn.F.ok zAD ?_ ?_;walk_at "b2";refine⟨_,(av (aB (e_ m6 (aD cV (ao (pv 0)) (ao (pv 1))) (aD cV (ao (pv 1)) (ao (pv 0))) (bC _)))),?_⟩;walk_at "cl";rw[show start Gi [x0,x1]=[some x0,some x1]from rfl];obtain⟨x,y,hx,hy,⟨bx1,bx2⟩,⟨by1,by2⟩,q⟩:=h;k_few;rw[zEy];exact q
def pA(x:Rat):Bool:=decide (0<x)&&(!decide (4<x))&&decide ((x.den:Int)<=8)
def R9(K:wb):Sp:=λvs H Q _=>∃x0,vs=[x0] /\ ∃x:Rat,Is K H x0 (N x)/\ag 4000 x/\Q (.bl (pA x)) H
theorem zp7(h:Is K H v (N x))(b:ag 4000 x)(q:Q (.bl (pA x)) H):R9 K [v] H Q E:=⟨_,rfl,x,h,b,q⟩
local macro_rules | `(tactic| walk_at "gs")=>`(tactic| ((with_reducible apply zp7); (focus walk_at "is"); (focus walk_at "bdr")))
theorem zqs(T:Txt K mg a):aH P w K mg base aR 2 a.Jz a.HG yN (R9 K):=by
 refine T.Ih.F.ok zrt ?_ ?_;walk_at "b1";refine⟨_,(av (aB (eU (au (gO T) hr T.gn (ae (b_ (v:=.ref a.dA) rfl T.dX rfl) (ae (pv 0) af))) (eU (ng (au (gO T) hr T.gn (ae (b_ (v:=.ref a.Bj) rfl T.YF rfl) (ae (pv 0) af)))) (gK (e_ jY (ao (pv 0)) (lY rfl T.YI) (bC _))))))),?_⟩;walk_at "cl";rw[show start EN [x0]=[some x0]from rfl];obtain⟨x,hx,bx,q⟩:=h;unfold pA at q;k_few
 ·rename_i h1 h2
  rw[decide_eq_true h1,decide_eq_false h2]at q;exact q
 ·rename_i h1 h2
  rw[decide_eq_true h1,decide_eq_true h2]at q;exact q
 ·rename_i h1
  rw[decide_eq_false h1]at q;exact q
def pq(x:Rat):Bool:=(!decide (x<0))&&(!decide (1<x))&&decide ((x.den:Int)<=12)
def SD(K:wb):Sp:=λvs H Q _=>∃x0,vs=[x0] /\ ∃x:Rat,Is K H x0 (N x)/\ag 4000 x/\Q (.bl (pq x)) H
theorem zrU(h:Is K H v (N x))(b:ag 4000 x)(q:Q (.bl (pq x)) H):SD K [v] H Q E:=⟨_,rfl,x,h,b,q⟩
local macro_rules | `(tactic| walk_at "gs")=>`(tactic| ((with_reducible apply zrU); (focus walk_at "is"); (focus walk_at "bdr")))
theorem zr3(T:Txt K mg a):aH P w K mg base aR 2 a.JS a.HY yt (SD K):=by
 refine T.I0.F.ok zrL ?_ ?_;walk_at "b1";refine⟨_,(av (aB (eU (ng (au (gO T) hr T.gn (ae (pv 0) (ae (b_ (v:=.ref a.dA) rfl T.dX rfl) af)))) (eU (ng (au (gO T) hr T.gn (ae (b_ (v:=.ref a.d4) rfl T.fh rfl) (ae (pv 0) af)))) (gK (e_ jY (ao (pv 0)) (lY rfl T.YK) (bC _))))))),?_⟩;walk_at "cl";rw[show start Dw [x0]=[some x0]from rfl];obtain⟨x,hx,bx,q⟩:=h;unfold pq at q;k_few
 ·rename_i h1 h2
  rw[decide_eq_false h1,decide_eq_false h2]at q;exact q
 ·rename_i h1 h2
  rw[decide_eq_false h1,decide_eq_true h2]at q;exact q
 ·rename_i h1
  rw[decide_eq_true h1]at q;exact q
def mm(x y:Rat):Bool:=pA x&&pq y && !decide (x+y<1)
def DW(K:wb):Sp:=λvs H Q _=>∃x0 x1,vs=[x0,x1]/\((∃d e,Is K H x0 d/\Is K H x1 e/\(bP d&&bP e)=false /\ ∀H',ah H H'->Q (.bl false) H')\/(∃x y:Rat,Is K H x0 (N x)/\Is K H x1 (N y)/\ag 1000 x/\ag 1000 y /\ ∀H',ah H H'->Q (.bl (mm x y)) H'))
theorem zoP{d:wC}{w:V}(h1:Is K H v d)(h2:Is K H w e)(n:(bP d&&bP e)=false)(q:∀H',ah H H'->Q (.bl false) H'):DW K [v,w] H Q E:=⟨_,_,rfl,.inl ⟨d,e,h1,h2,n,q⟩⟩
theorem zqE{w:V}(h1:Is K H v (N x))(h2:Is K H w (N y))(b1:ag 1000 x)(b2:ag 1000 y)(q:∀H',ah H H'->Q (.bl (mm x y)) H'):DW K [v,w] H Q E:=⟨_,_,rfl,.inr ⟨x,y,h1,h2,b1,b2,q⟩⟩
theorem zqT(T:Txt K mg a):aH P w K mg base aR 3 a.Ju a.HM Ap (DW K):=by
 refine T.Iq.F.ok zqj ?_ ?_;walk_at "b2"
 refine⟨_,(ar (bR (PW.pt (fG (cW (cz (au (oY T) hr T.mK (ae (pv 0) af)))) (iC (cW (cz (au (oY T) hr T.mK (ae (pv 1) af))))))) (av (aB eF)) bS)
     (av (aB (eU (au (zqs T) hr T.Ih (ae (pv 0) af)) (eU (au (zr3 T) hr T.I0 (ae (pv 1) af)) (gK (ng (au (gO T) hr T.gn (ae (au (gy T) hr T.fR (ae (pv 0) (ae (pv 1) af))) (ae (b_ (v:=.ref a.d4) rfl T.fh rfl) af)))))))))),?_⟩
 walk_at "cl";rw[show start Dl [x0,x1]=[some x0,some x1]from rfl];rcases h with⟨d,e,hd,he,hn,q⟩ | ⟨x,y,hx,hy,bx,by',q⟩
 . k_few
   . exact q _ (ah.refl _)
   . exact q _ (ah.refl _)
   . rename_i h1 h2
     exact absurd hn (by rw[h1,h2];decide)
 . unfold mm at q
   k_few
   . rename_i z;rw[rN]at z;cases z
   . rename_i z;rw[rN]at z;cases z
   . rename_i h1 h2 v H' S hv
     rw[h1,h2]at q;exact q _ S
   . rename_i h1 h2
     rw[h1,h2]at q;exact q _ (ah.refl _)
   . rename_i h1
     rw[h1]at q;exact q _ (ah.refl _)
def YA:wC->Bool
 | .tuple [d,e]=>!(bP d&&bP e)
 | _=>true
theorem zr4{d:wC}(h:YA (.tuple [d,e])=true):(bP d&&bP e)=false:=by
 have h:(!(bP d&&bP e))=true:=h;cases z:(bP d&&bP e)with
 | false=>rfl
 | true=>rw[z]at h;exact absurd h (by decide)
def Mm(K:wb):Sp:=λvs H Q _=>∃x0,vs=[x0]/\((∃d,Is K H x0 d/\YA d=true /\ ∀H',ah H H'->Q (.bl false) H')\/(∃x y:Rat,Is K H x0 (R x y)/\ag 1000 x/\ag 1000 y /\ ∀H',ah H H'->Q (.bl (mm x y)) H'))
theorem zuN(h:Is K H v (R x y))(b1:ag 1000 x)(b2:ag 1000 y)(q:∀H',ah H H'->Q (.bl (mm x y)) H'):Mm K [v] H Q E:=⟨_,rfl,.inr ⟨x,y,h,b1,b2,q⟩⟩
theorem zt2(T:Txt K mg a):aH P w K mg base aR 4 a.Kj a.IY w_ (Mm K):=by
 refine T.Jo.F.ok zt7 ?_ ?_;walk_at "b1";refine⟨_,(av (aB (eU (bE (show aK _ (.builtin "isinstance") (eQ K)from jt) rfl T.z_isinstance jb (ae (pv 0) (ae (iH (v:=.ty "tuple") rfl T.z_tuple d5 rfl) af))) (eU (e_ (show aN _ (wT .Eq) (cO K)from dR hu) (bE (show aK _ (.builtin "len") (dj K)from eA) rfl T.z_len dU (ae (pv 0) af)) ay (bC _)) (gK (au (zqT T) hr T.Iq (ae (ao (pv 0)) (ae (ao (pv 0)) af)))))))),?_⟩;walk_at "cl";rw[show start EF [x0]=[some x0]from rfl];rcases h with⟨d,hd,hn,q⟩ | ⟨x,y,hr,bx,by',q⟩
 ·k_few
  ·rename_i e
   obtain⟨ds,rfl⟩:=Lw.mp e;refine ly hd ?_;k_few
   ·rename_i e
    obtain⟨d0,d1,rfl⟩:∃d0 d1,ds=[d0,d1]:=by
     match ds,e with
     | [d0,d1],_=>exact⟨d0,d1,rfl⟩
     | [],e=>simp at e
     | [_],e=>simp at e
     | _::_::_::_,e=>simp at e;omega
    refine aA (j:=0) hd rfl (λy0 h0=>?_);o_head aA (j:=1) hd rfl (λy1 h1=>?_);o_head zoP h0 h1 (zr4 hn) (λH' S=>?_);k_few;exact q _ S
   ·exact q _ (ah.refl _)
  ·exact q _ (ah.refl _)
 ·k_few
  refine zqE (by assumption) (by assumption) bx by' (λH' S=>?_);k_few;exact q _ S
def pU(x:Rat):Str:=if 1<x then "rising" else if x=1 then "even" else "falling"
def Og(K:wb):Sp:=λvs H Q _=>∃x0,vs=[x0] /\ ∃x y:Rat,Is K H x0 (R x y)/\ag 4000 x/\Q (.str (pU x)) H
theorem UT(h:Is K H v (R x y))(b:ag 4000 x)(q:Q (.str (pU x)) H):Og K [v] H Q E:=⟨_,rfl,x,y,h,b,q⟩
theorem Sr(T:Txt K mg a):aH P w K mg base aR 2 a.KG a.J3 zA (Og K):=by
 refine T.BJ.F.ok zBr ?_ ?_;walk_at "b1"
 refine⟨_,(ar (bR (cz (au (gO T) hr T.gn (ae (b_ (v:=.ref a.d4) rfl T.fh rfl) (ae (ao (pv 0)) af)))) (av (aB iU)) bS)
     (ar (bR (bZ (show aN _ (wT .Eq) (cO K)from dR hu) (ao (pv 0)) (b_ (v:=.ref a.d4) rfl T.fh rfl) (bC _)) (av (aB iU)) bS)
     (av (aB iU)))),?_⟩
 walk_at "cl";rw[show start Gx [x0]=[some x0]from rfl];obtain⟨x,y,hx,bx,q⟩:=h;unfold pU at q;k_few
 . rename_i h1
   rw[if_pos h1]at q;exact q
 . rename_i h1 _ _ h2
   rw[if_neg h1,if_pos h2]at q;exact q
 . rename_i h1 _ _ h2
   rw[if_neg h1,if_neg h2]at q;exact q
def Cp(K:wb):Sp:=λvs H Q _=>∃x0 x1,vs=[x0,x1] /\ ∃(a b:Rat)(n:Int),x1=.int n/\Is K H x0 (R a b)/\ag 4000 a/\ag 4000 b/\0<=n/\n<=64/\(∀i,i<=n.toNat->ag 4000 (a^i))/\(∀i,i<=n.toNat->ag 4000 (aE a b i)) /\ ∀v H',ah H H'->Is K H' v (R (a^n.toNat) (aE a b n.toNat))->Q v H'
theorem Rx{a:Rat}{n:Int}(h1:Is K H v (R a b))(b1:ag 4000 a)(b2:ag 4000 b)(h0:0<=n)(h64:n<=64)(f1:∀i,i<=n.toNat->ag 4000 (a^i))(f2:∀i,i<=n.toNat->ag 4000 (aE a b i))(q:∀v H',ah H H'->Is K H' v (R (a^n.toNat) (aE a b n.toNat))->Q v H'):Cp K [v,.int n] H Q E:=⟨_,_,rfl,a,b,n,rfl,h1,b1,b2,h0,h64,f1,f2,q⟩
theorem Dg{a:Rat}{n:Int}(h1:Is K H v (R a b))(b1:ag 10 a)(b2:ag 10 b)(h0:0<=n)(h64:n<=64)(q:∀v H',ah H H'->Is K H' v (R (a^n.toNat) (aE a b n.toNat))->Q v H'):Cp K [v,.int n] H Q E :=
 Rx h1 (b1.mono (by decide)) (b2.mono (by decide)) h0 h64 (λi hi=>(b1.pow i).mono (by omega)) (λi hi=>(b1.aE b2 i).mono (by omega)) q
theorem yx(T:Txt K mg a):aH P w K mg base aR 3 a.Kq a.Ji zc (Cp K):=by
 refine T.oO.F.ok oC ?_ ?_;walk_at "b2"
 refine⟨_,(ar (az 2 oC.nd (b_ (v:=.ref a.d4) rfl T.fh rfl))
     (ar (az 3 oC.nd (b_ (v:=.ref a.dA) rfl T.dX rfl))
     (ar (gR vP rfl (kc rfl T.z_range (ae (pv 1) af)) (bQ (i:=4) oC.nd rfl (Or.inl rfl)) (ar (az 2 oC.nd (au (lg T) hr T.jM (ae (ao (pv 0)) (ae (pv 2) af))))
     (av (az 3 oC.nd (au (gy T) hr T.fR (ae (au (lg T) hr T.jM (ae (ao (pv 0)) (ae (pv 3) af))) (ae (ao (pv 0)) af)))))))
     (av (aB (br (ae (pv 2) (ae (pv 3) af)))))))),?_⟩
 walk_at "cl";rw[show start OF [x0,x1]=[some x0,some x1,none,none,none]from rfl];obtain⟨r,s',n,rfl,hr',ba,bb,h0,h64,f1,f2,q⟩:=h;o_head lI (n:=n) (by omega) (by omega) (λi σ H'=>∃(f g:V)(o:Option V),σ = [some x0,some (.int n),some f,some g,o]/\ah H H'/\Is K H' f (N (r^i))/\Is K H' g (N (aE r s' i))) ⟨_,_,_,rfl,ah.refl H,by rw[V8];exact nG.mpr ⟨_,rfl,T.sL H⟩,nG.mpr ⟨_,rfl,T.eW H⟩⟩ ?_ ?_
 . rintro i σ H' hi ⟨f,g,o,rfl,S1,hf,hg⟩
   have hr1:=hr'.by S1;have bf:ag 4000 (r^i):=f1 i (by omega);have bg:ag 4000 (aE r s' i):=f2 i (by omega);have bg2:ag 8999 (r*aE r s' i):=(ba.mul bg).mono (by decide);o_head ⟨_,_,_,rfl,S1.trans (ah.trans (by assumption) (ah.trans (by assumption) (by assumption))),?_,?_⟩
   . rw[WL,Qf]
     walk_at "is"
   . walk_at "is"
 . rintro σ H' ⟨f,g,o,rfl,S1,hf,hg⟩
   walk_at "ga";exact q _ _ (S1.trans (by assumption)) (by assumption)
def SV(K:wb):Sp:=λvs H Q _=>∃x0 x1,vs=[x0,x1] /\ ∃(f g x:Rat),Is K H x0 (R f g)/\Is K H x1 (N x)/\ag 700 f/\ag 1500 g/\ag 8100 x /\ ∀v H',ah H H'->Is K H' v (N (f*x+g))->Q v H'
theorem NU{f g:Rat}{w:V}(h1:Is K H v (R f g))(h2:Is K H w (N x))(b1:ag 700 f)(b2:ag 1500 g)(b3:ag 8100 x)(q:∀v H',ah H H'->Is K H' v (N (f*x+g))->Q v H'):SV K [v,w] H Q E:=⟨_,_,rfl,f,g,x,h1,h2,b1,b2,b3,q⟩
theorem Rc(T:Txt K mg a):aH P w K mg base aR 3 a.Jy a.HN A_ (SV K):=by
 refine T.Bt.F.ok zrp ?_ ?_;walk_at "b2";refine⟨_,(av (aB (au (gy T) hr T.fR (ae (au (lg T) hr T.jM (ae (ao (pv 0)) (ae (pv 1) af))) (ae (ao (pv 0)) af))))),?_⟩;walk_at "cl";rw[show start DA [x0,x1]=[some x0,some x1]from rfl];obtain⟨f,g,x,hp,hx,bf,bg,bx,q⟩:=h;k_few;rename_i hz;exact q _ _ (ah.trans (by assumption) (by assumption)) hz
def z8(K:wb):Sp:=λvs H Q _=>∃x0,vs=[x0]/\((∃d,Is K H x0 d/\bP d=false/\Q (.bl false) H)\/(∃x:Rat,Is K H x0 (N x)/\ag 4000 x/\Q (.bl (ki x)) H))
theorem zqX{d:wC}(h:Is K H v d)(n:bP d=false)(q:Q (.bl false) H):z8 K [v] H Q E:=⟨_,rfl,.inl ⟨d,h,n,q⟩⟩
theorem zr6(h:Is K H v (N x))(b:ag 4000 x)(q:Q (.bl (ki x)) H):z8 K [v] H Q E:=⟨_,rfl,.inr ⟨x,h,b,q⟩⟩
theorem zsV(T:Txt K mg a):aH P w K mg base aR 3 a.JN a.Ic zR (z8 K):=by
 refine T.IZ.F.ok zsj ?_ ?_;walk_at "b1"
 refine⟨_,(ar (bR (PW.pt (fG (cW (cz (au (oY T) hr T.mK (ae (pv 0) af)))) (iC (cz (au (gO T) hr T.gn (ae (pv 0) (ae (b_ (v:=.ref a.dA) rfl T.dX rfl) af))))))) (av (aB eF)) bS)
     (av (aB (eU (au (gO T) hr T.gn (ae (pv 0) (ae (b_ (v:=.ref a.d4) rfl T.fh rfl) af))) (gK (e_ jY (ao (pv 0)) (lY rfl T.YJ) (bC _))))))),?_⟩
 walk_at "cl";rw[show start Cy [x0]=[some x0]from rfl];rcases h with⟨d,hd,hn,q⟩ | ⟨x,hx,bx,q⟩
 . k_few
   . exact q
   . rename_i e;rw[hn]at e;cases e
 . unfold ki at q
   k_few
   . rename_i z;rw[rN]at z;cases z
   . rename_i h1
     rw[decide_eq_true h1]at q;exact q
   . rename_i h1 h2
     rw[decide_eq_false h1,decide_eq_true h2]at q;exact q
   . rename_i h1 h2
     rw[decide_eq_false h1,decide_eq_false h2]at q;exact q
def gg:wC->Bool
 | .tuple [.int p,.int q]=>gX p q&&ki (wB p q)
 | _=>false
theorem NQ(x:Rat):gg (N x)=ki x:=by
 show(gX x.num x.den&&ki (wB x.num x.den))=ki x
 rw[V_,Vy,ql]
theorem zuk{d:wC}(h:bP d=true):∃x:Rat,d=N x:=by
 match d with
 | .tuple [.int p,.int q] =>
  obtain⟨r,e1,e2⟩:=zqY (show gX p q=true from h);exact⟨r,by rw[e1,e2];rfl⟩
 | .none=>simp[bP]at h
 | .bool _=>simp[bP]at h
 | .int _=>simp[bP]at h
 | .str _=>simp[bP]at h
 | .list _=>simp[bP]at h
 | .dict _=>simp[bP]at h
 | .tuple []=>simp[bP]at h
 | .tuple [_]=>simp[bP]at h
 | .tuple (_::_::_::_)=>simp[bP]at h
 | .tuple [.none,_]=>simp[bP]at h
 | .tuple [.bool _,_]=>simp[bP]at h
 | .tuple [.str _,_]=>simp[bP]at h
 | .tuple [.tuple _,_]=>simp[bP]at h
 | .tuple [.list _,_]=>simp[bP]at h
 | .tuple [.dict _,_]=>simp[bP]at h
 | .tuple [.int _,.none]=>simp[bP]at h
 | .tuple [.int _,.bool _]=>simp[bP]at h
 | .tuple [.int _,.str _]=>simp[bP]at h
 | .tuple [.int _,.tuple _]=>simp[bP]at h
 | .tuple [.int _,.list _]=>simp[bP]at h
 | .tuple [.int _,.dict _]=>simp[bP]at h
theorem zAc{d:wC}(h:bP d=false):gg d=false:=by
 unfold gg
 split
 ·rename_i p q
  rw[show gX p q=false from h];rfl
 ·rfl
theorem Na{d:wC}(h:Is K H v d)(b:∀x,d=N x->ag 4000 x)(q:Q (.bl (gg d)) H):z8 K [v] H Q E:=by
 cases e:bP d with
 | false=>rw[zAc e]at q;exact zqX h e q
 | true =>
  obtain⟨x,rfl⟩:=zuk e;rw[NQ]at q;exact zr6 h (b x rfl) q
def OU(K:wb):Sp:=λvs H Q _=>∃x0,vs=[x0]/\((∃d,Is K H x0 d/\(k_ d || ja d)=false /\ ∀H',ah H H'->Q (.bl false) H')\/(∃ds,(Is K H x0 (.list ds)\/Is K H x0 (.tuple ds))/\(∀e∈ds,∀x,e=N x->ag 4000 x) /\ ∀H',ah H H'->Q (.bl (decide (1<=ds.length)&&decide (ds.length<=8)&&ds.all gg)) H'))
theorem zoM(h:Is K H v (.list ds)\/Is K H v (.tuple ds))(b:∀e∈ds,∀x,e=N x->ag 4000 x)(q:∀H',ah H H'->Q (.bl (decide (1<=ds.length)&&decide (ds.length<=8)&&ds.all gg)) H'):OU K [v] H Q E:=⟨_,rfl,.inr ⟨ds,h,b,q⟩⟩
theorem zoA(T:Txt K mg a):aH P w K mg base aR 4 a.Jf a.Hn yG (OU K):=by
 refine T.HD.F.ok zow ?_ ?_;walk_at "b1"
 refine⟨_,(ar (bR (PW.pt (fG (cW (cz (bE (show aK _ (.builtin "isinstance") (C2 K)from ztK) rfl T.z_isinstance jb (ae (pv 0) (ae (br (ae (iH (v:=.ty "list") rfl T.z_list kY rfl) (ae (iH (v:=.ty "tuple") rfl T.z_tuple d5 rfl) af))) af))))) (iC (cW (zxD jY jY ay (bE (show aK _ (.builtin "len") (dj K)from eA) rfl T.z_len dU (ae (pv 0) af)) (lY rfl T.YL)))))) (av (aB eF)) bS)
     (av (aB (bE (show aK _ (.builtin "all") (kK K)from oK rfl) rfl T.z_all oE (ae (d7 rfl (cR.by (N':=["one"]) (src:=[none]) rfl (show dg _ (aC tP).names yE ["one"] [none]=true from by decide +kernel)) (T_ (pv 0)) (λ_ _ _ _ _=>(bQ (i:=0) (show(["one"]:List Str).Nodup from by decide) rfl (Or.inl rfl))) (λ_ _ _ _ _=>dN) (λ_ _ _ _ _=>(au (zsV (K:=K) (mg:=mg) (a:=a) T) hr T.IZ (ae (pv 0) af)))) af))))),?_⟩
 walk_at "cl";rw[show start yE [x0]=[some x0]from rfl];rcases h with⟨d,hd,hn,q⟩ | ⟨ds,hd,bd,q⟩
 . k_few
   refine nE (by simp) (λtp H1 _ S1 e1=>?_);o_head Gs (hd.by S1) e1 ?_;rw[hn];k_few;exact q H1 S1
 . rcases hd with hd | hd
   . k_few
     refine nE (by simp) (λtp H1 _ S1 e1=>?_);o_head Gs (hd.by S1) e1 ?_;rw[show(k_ (.list ds) || ja (.list ds))=true from rfl];obtain⟨ap,us,rfl,hs,tu⟩:=cF.mp (hd.by S1);have hul:=tu.length;o_head jm hs ?_;rw[hul];k_few
     . rename_i z0 z
       have:=q H1 S1;rw[decide_eq_false (show ¬ ds.length<=8 by omega),QT,Ww]at this;exact this
     . rename_i z0 z
       have h1:1<=ds.length:=by omega
       have h8:ds.length<=8:=by omega
       refine .inl (jC (o0:=none) (tl:=[]) hs rfl (λj y H'=>y=.bl (gg (ds.getD j .none))) ?_ ?_)
       . intro D i x ys o H2 hx inv
         obtain⟨hi,ix⟩:=jq tu hx;o_head Na (ix.by inv.same) (λx e=>bd _ (getD_mem hi) x e) ?_;k_few;exact d8 inv (by omega) (λ_ _ _ _ _ z=>z) ⟨_,rfl⟩ (ah.refl _) rfl
       . intro D ys H2 hn S2 hD hl hr
         have hys:ys=(ds.map gg).map V.bl:=by
           refine WN (by rw[hl,hul,wm,wm]) λj h1 h2=>?_
           have:=hr j ys[j] (wc h1);rw[this,Vp,Vp,wa,wc]
           rfl
         subst hys;o_head l_ (.of hD) ?_;k_few;have e:(ds.map gg).all id=ds.all gg:=by rw[XJ];rfl
         have:=q H2 (S1.trans S2);rw[decide_eq_true h1,decide_eq_true h8,<- e]at this;exact this
     . rename_i z
       have:=q H1 S1;rw[decide_eq_false (show ¬ 1<=ds.length by omega),Ww,Ww]at this;exact this
   . k_few
     refine nE (by simp) (λtp H1 _ S1 e1=>?_);o_head Gs (hd.by S1) e1 ?_;rw[show(k_ (.tuple ds) || ja (.tuple ds))=true from rfl];obtain⟨ap,us,rfl,hs,tu⟩:=bX.mp (hd.by S1);have hul:=tu.length;o_head MN hs ?_;rw[hul];k_few
     . rename_i z0 z
       have:=q H1 S1;rw[decide_eq_false (show ¬ ds.length<=8 by omega),QT,Ww]at this;exact this
     . rename_i z0 z
       have h1:1<=ds.length:=by omega
       have h8:ds.length<=8:=by omega
       refine .inr (jz (o0:=none) (tl:=[]) hs rfl (λj y H'=>y=.bl (gg (ds.getD j .none))) ?_ ?_)
       . intro D i x ys o H2 hx inv
         obtain⟨hi,ix⟩:=jq tu hx;o_head Na (ix.by inv.same) (λx e=>bd _ (getD_mem hi) x e) ?_;k_few;exact d8 inv (by omega) (λ_ _ _ _ _ z=>z) ⟨_,rfl⟩ (ah.refl _) rfl
       . intro D ys H2 hn S2 hD hl hr
         have hys:ys=(ds.map gg).map V.bl:=by
           refine WN (by rw[hl,hul,wm,wm]) λj h1 h2=>?_
           have:=hr j ys[j] (wc h1);rw[this,Vp,Vp,wa,wc]
           rfl
         subst hys;o_head l_ (.of hD) ?_;k_few;have e:(ds.map gg).all id=ds.all gg:=by rw[XJ];rfl
         have:=q H2 (S1.trans S2);rw[decide_eq_true h1,decide_eq_true h8,<- e]at this;exact this
     . rename_i z
       have:=q H1 S1;rw[decide_eq_false (show ¬ 1<=ds.length by omega),Ww,Ww]at this;exact this
theorem zws{a:Rat}(h:aS a b):mm a b=true:=by
 obtain⟨h1,h2,h3,h4,h5,h6,h7⟩:=h;have k2:¬ (4:Rat)<a:=Vu.mpr h2;have k4:¬ b<0:=Vu.mpr h4;have k5:¬ (1:Rat)<b:=Vu.mpr h5;have k7:¬ a+b<1:=Vu.mpr h7;have k3:(a.den:Int)<=8:=by omega
 have k6:(b.den:Int)<=12:=by omega
 simp[mm,pA,pq,h1,k2,k3,k4,k5,k6,k7]
theorem zDo(h:∀x∈xs,eY x):(xs.map N).all gg=true:=by
 rw[WO];intro d hd;obtain⟨x,hx,rfl⟩:=wU.mp hd;rw[NQ];exact(h x hx).is
theorem zzZ(h:∀x∈xs,eY x):∀e∈xs.map N,∀x,e=N x->ag 4000 x:=by
 intro e he x hx;obtain⟨y,hy,rfl⟩:=wU.mp he;rw[<- zD3 hx];exact(h y hy).d_.mono (by decide)
def SR(K:wb):Sp:=λvs H Q _=>∃x0 x1,vs=[x0,x1] /\ ∃(a b:Rat)(xs:List Rat),Is K H x0 (R a b)/\aS a b/\(Is K H x1 (LN xs)\/Is K H x1 (TN xs))/\1<=xs.length/\xs.length<=8/\(∀x∈xs,eY x) /\ ∀v H',ah H H'->Is K H' v (aZ a b xs)->Q v H'
theorem zsT{a:Rat}{w:V}(h1:Is K H v (R a b))(ok:aS a b)(h2:Is K H w (LN xs)\/Is K H w (TN xs))(h3:1<=xs.length)(h4:xs.length<=8)(h5:∀x∈xs,eY x)(q:∀v H',ah H H'->Is K H' v (aZ a b xs)->Q v H'):SR K [v,w] H Q E:=⟨_,_,rfl,a,b,xs,h1,ok,h2,h3,h4,h5,q⟩
theorem zsC(T:Txt K mg a):aH P w K mg base aR 5 a.JF a.Il yC (SR K):=by
 refine T.IU.F.ok zsy ?_ ?_;walk_at "b2"
 refine⟨_,(ar (bR (cW (cz (au (zt2 T) hr T.Jo (ae (pv 0) af)))) (av Gq) bS)
     (ar (bR (cW (cz (au (zoA T) hr T.HD (ae (pv 1) af)))) (av Gq) bS)
     (av (aB (br (ae (pv 0) (ae (dY (show aK _ (.type "tuple") (eS K)from fZ) rfl T.z_tuple d5 (ae (pv 1) af)) af))))))),?_⟩
 walk_at "cl";rw[show start Em [x0,x1]=[some x0,some x1]from rfl];obtain⟨ra,rb,xs,hr,ok,hp,h1,h8,hph,q⟩:=h;o_head zuN hr (ok.ba.mono (by decide)) (ok.bb.mono (by decide)) (λH1 S1=>?_);rw[zws ok];k_few;have hp1:Is K H1 x1 (LN xs)\/Is K H1 x1 (TN xs):=hp.imp (λz=>z.by S1) (λz=>z.by S1);refine zoM (ds:=xs.map N) hp1 (zzZ hph) (λH2 S2=>?_);rw[zDo hph,wm,decide_eq_true h1,decide_eq_true h8,show(true&&true&&true)=true from rfl];have hp2:Is K H2 x1 (LN xs)\/Is K H2 x1 (TN xs):=hp1.imp (λz=>z.by S2) (λz=>z.by S2);have hr2:Is K H2 x0 (R ra rb):=(hr.by S1).by S2;k_few;rcases hp2 with z | z
 . refine iM z (λw H3 S3 i3=>?_)
   o_head cB (ds:=[R ra rb,TN xs]) (by simp) (.cons (hr2.by S3) (.cons i3 .nil)) (λv H4 S4 i4=>?_);exact q v H4 (S1.trans (S2.trans (S3.trans S4))) i4
 . refine Lg z ?_
   o_head cB (ds:=[R ra rb,TN xs]) (by simp) (.cons hr2 (.cons z .nil)) (λv H4 S4 i4=>?_);exact q v H4 (S1.trans (S2.trans S4)) i4
def Pq(K:wb):Sp:=λvs H Q _=>∃x0,vs=[x0] /\ ∃xs:List Rat,(Is K H x0 (LN xs)\/Is K H x0 (TN xs))/\1<=xs.length/\(∀i,ag 4000 (xs.getD i 0)) /\ ∀v,Is K H v (N (cb xs))->Q v H
theorem OG(h:Is K H v (LN xs)\/Is K H v (TN xs))(h1:1<=xs.length)(b:∀i,ag 4000 (xs.getD i 0))(q:∀v,Is K H v (N (cb xs))->Q v H):Pq K [v] H Q E:=⟨_,rfl,xs,h,h1,b,q⟩
theorem Px(T:Txt K mg a):aH P w K mg base aR 2 a.JU a.Ip ye (Pq K):=by
 refine T.Bw.F.ok zB ?_ ?_;walk_at "b1"
 refine⟨_,(ar (az 1 zB.nd (ao (pv 0)))
     (ar (gR vP rfl (T_ (pv 0)) (bQ (i:=2) zB.nd rfl (Or.inl rfl)) (av (bR (cz (au (gO T) hr T.gn (ae (pv 1) (ae (pv 2) af)))) (av (az 1 zB.nd (pv 2))) bS)))
     (av (aB (pv 1))))),?_⟩
 walk_at "cl";rw[show start ON [x0]=[some x0,none,none]from rfl];obtain⟨xs,hx,h1,bx,q⟩:=h;rcases hx with hx | hx
 . obtain⟨ap,us,rfl,hs,tu⟩:=cF.mp hx
   have hul:us.length=xs.length:=by rw[tu.length,wm]
   o_head kH hx (by decide) (by omega) (λv0 i0=>?_);have i0:Is K H v0 (N (mx (xs.getD 0 0) [])):=i0;o_head .inl (Eh hs (λi σ H'=>∃o v,σ = [some (.ref ap),some v,o]/\H'=H/\Is K H v (N (mx (xs.getD 0 0) (xs.take i)))) ⟨_,v0,rfl,rfl,by rw[Ua];exact i0⟩ (λi σ H' _ h=>by obtain⟨_,_,_,rfl,_⟩:=h;exact hs) ?_ ?_)
   . rintro i x σ H' hx' ⟨o,v,rfl,rfl,iv⟩
     obtain⟨hi,ix⟩:=dD tu hx';have b1:=RD bx h1 i;have b2:=bx i;k_few
     . rename_i z
       exact⟨_,x,rfl,rfl,by rw[oH hi,ya,if_pos z];exact ix⟩
     . rename_i z
       exact⟨_,v,rfl,rfl,by rw[oH hi,ya,if_neg z];exact iv⟩
   . rintro σ H' ⟨o,v,rfl,rfl,iv⟩
     rw[hul,Wr]at iv;k_few;exact q v iv
 . obtain⟨ap,us,rfl,hs,tu⟩:=bX.mp hx
   have hul:us.length=xs.length:=by rw[tu.length,wm]
   o_head zBi hx (by decide) (by omega) (λv0 i0=>?_);have i0:Is K H v0 (N (mx (xs.getD 0 0) [])):=i0;o_head .inr (Zw hs (λi σ H'=>∃o v,σ = [some (.ref ap),some v,o]/\H'=H/\Is K H v (N (mx (xs.getD 0 0) (xs.take i)))) ⟨_,v0,rfl,rfl,by rw[Ua];exact i0⟩ (λi σ H' _ h=>by obtain⟨_,_,_,rfl,_⟩:=h;exact hs) ?_ ?_)
   . rintro i x σ H' hx' ⟨o,v,rfl,rfl,iv⟩
     obtain⟨hi,ix⟩:=dD tu hx';have b1:=RD bx h1 i;have b2:=bx i;k_few
     . rename_i z
       exact⟨_,x,rfl,rfl,by rw[oH hi,ya,if_pos z];exact ix⟩
     . rename_i z
       exact⟨_,v,rfl,rfl,by rw[oH hi,ya,if_neg z];exact iv⟩
   . rintro σ H' ⟨o,v,rfl,rfl,iv⟩
     rw[hul,Wr]at iv;k_few;exact q v iv
def Of(K:wb):Sp:=λvs H Q _=>∃x0 x1,vs=[x0,x1] /\ ∃(xs:List Rat)(v:Rat),Is K H x0 (TN xs)/\Is K H x1 (N v)/\xs.length<=900 /\ ∀u H',ah H H'->Is K H' u (TW (f_ xs v))->Q u H'
theorem ztA{v:Rat}{w:V}(h1:Is K H w (TN xs))(h2:Is K H u (N v))(hl:xs.length<=900)(q:∀u H',ah H H'->Is K H' u (TW (f_ xs v))->Q u H'):Of K [w,u] H Q E:=⟨_,_,rfl,xs,v,h1,h2,hl,q⟩
theorem zto(T:Txt K mg a):aH P w K mg base aR 1 a.JE a.Ik zp (Of K):=by
 refine T.IP.F.ok zs0 ?_ ?_;walk_at "b2";refine⟨_,(av (aB (dY (show aK _ (.type "tuple") (eS K)from fZ) rfl T.z_tuple d5 (ae (d7 rfl (cR.by (N':=["worm","own","phase"]) (src:=[none,none,some 1]) rfl (show dg _ (aC sT).names yo ["worm","own","phase"] [none,none,some 1]=true from by decide +kernel)) (T1 rfl T.z_enumerate (ae (pv 0) af)) (λ_ _ _ _ _=>by exact(show PG _ _ (lP K 2 _)from my (n:=2) rfl (gH (bQ (i:=0) (show(["worm","own","phase"]:List Str).Nodup from by decide) rfl (Or.inl rfl)) (gH (bQ (i:=1) (show(["worm","own","phase"]:List Str).Nodup from by decide) rfl (Or.inl rfl)) mh)))) (λ_ _ _ _ _=>(yh (bZ (show aN _ (wT .Eq) (cO K)from dR hu) (pv 1) (pv 2) (bC _)))) (λ_ _ _ _ _=>(pv 0))) af)))),?_⟩;walk_at "cl";rw[show start yo [x0,x1]=[some x0,some x1]from rfl];obtain⟨xs,v,hx,hv,hl,q⟩:=h;obtain⟨ap,us,rfl,hu',tu⟩:=bX.mp hx;have hul:us.length=xs.length:=by rw[tu.length,wm]
 o_head zso hu' (λD i ys σ' H'=>(∃o1 o2,σ'=[o1,o2,some x1])/\H D=none/\ah H H'/\H' D=some (.lst (vz ((wt i).filter λw=>decide (xs.getD w 0=v))))) (λD H' n s e=>⟨⟨_,_,rfl⟩,n,s,e⟩) (λD i ys σ' H' h=>h.2.2.1.jP hu') ?_ ?_
 ·rintro D i x ys σ' H1 c H2 hx' ⟨⟨o1,o2,rfl⟩,n,S1,e1⟩ hc S2 e2
  obtain⟨hi,ix⟩:=dD tu hx';have T2:=S1.trans S2;have ix2:=ix.by T2;have hv2:=hv.by T2;have e12:=S2 _ _ e1
  have hfl:((wt i).filter λw=>decide (xs.getD w 0=v)).length<=i:=by
   have:=WK (λw=>decide (xs.getD w 0=v)) (wt i);rw[vx]at this;exact this
  refine lZ (.of e2) rfl ?_;k_few
  ·rename_i z
   refine lU e12 (by rw[ke];omega) (λH6 E6 e6=>⟨⟨_,_,rfl⟩,n,T2.grow n E6,?_⟩);rw[Yw (n:=i),decide_eq_true z,if_pos rfl,EL];exact e6
  ·rename_i z
   refine⟨[],⟨_,_,rfl⟩,n,T2,?_⟩;rw[Yw (n:=i),decide_eq_false z,if_neg (by decide),Wh];exact e12
 ·rintro D ys σ' H1 ⟨_,n,S1,e1⟩
  rw[hul]at e1;o_head AU (.of e1) (λl H2 n2 S2 e3=>?_);exact q _ H2 (S1.trans S2) (GK.mpr ⟨l,rfl,.of e3⟩)
def Te(K:wb):Sp:=λvs H Q _=>∃x0,vs=[x0] /\ ∃(a b:Rat)(xs:List Rat),Is K H x0 (aZ a b xs)/\xs.length<=8/\(∀i,ag 4000 (xs.getD i 0)) /\ ∀l H' us,H l=none->ah H H'->H' l=some (.lst us)->ak K H' us ((aj xs).map (j5 xs))->Q (.ref l) H'
theorem Cr{a:Rat}(h:Is K H v (aZ a b xs))(h8:xs.length<=8)(bx:∀i,ag 4000 (xs.getD i 0))(q:∀l H' us,H l=none->ah H H'->H' l=some (.lst us)->ak K H' us ((aj xs).map (j5 xs))->Q (.ref l) H'):Te K [v] H Q E:=⟨_,rfl,a,b,xs,h,h8,bx,q⟩
theorem ztV(b:∀i,ag m (xs.getD i 0))(h:x∈xs):ag m x:=by
 obtain⟨j,hj,rfl⟩:=wX h;have:=b j;rw[wa,wc hj]at this;exact this
theorem zwl{β:Type}(f : α -> β)(l:List α):(!(l.map f).isEmpty) = !l.isEmpty:=by cases l<;>rfl
theorem FZ(T:Txt K mg a):aH P w K mg base aR 3 a.Kn a.Jl A2 (Te K):=by
 refine T.sD.F.ok rD ?_ ?_;walk_at "b1"
 refine⟨_,(ar (az 1 rD.nd (eZ af))
     (ar (az 2 rD.nd (dY (show aK _ (.type "list") (jZ K)from sf) rfl T.z_list kY (ae (ao (pv 0)) af)))
     (ar (nu vP (sR (pv 2)) (ar (az 3 rD.nd (au (Px T) hr T.Bw (ae (pv 2) af)))
     (ar (nk (nR WT WQ WR mf (pv 1) (ae (br (ae (pv 3) (ae (au (zto T) hr T.IP (ae (ao (pv 0)) (ae (pv 3) af))) af))) af)))
     (av (ml (i:=2) rD.nd rfl (Or.inl rfl) rfl (cR.by (N':=["other","phase"]) (src:=[none,some 3]) rfl (show dg _ (aC Ah).names Dq ["other","phase"] [none,some 3]=true from by decide +kernel)) (gA (pv 2)) (λ_ _ _ _ _=>(bQ (i:=0) (show(["other","phase"]:List Str).Nodup from by decide) rfl (Or.inl rfl))) (λ_ _ _ _ _=>(yh (bZ (show aN _ (wT .NotEq) (gc K)from kz hu) (pv 0) (pv 1) (bC _)))) (λ_ _ _ _ _=>(pv 0)))))))
     (av (aB (pv 1)))))),?_⟩
 walk_at "cl";rw[show start Dq [x0]=[some x0,none,none,none]from rfl];obtain⟨ra,rb,xs,hw,h8,bx,q⟩:=h;o_head ft (by simp) (λlt H1 n1 S1 e1=>?_);o_head aA (j:=1) (hw.by S1) rfl (λvp ip=>?_);o_head A6 ip (λll H2 us n2 S2 e2 t2=>?_);have nlt:ll≠lt:=λz=>by subst z;rw[e1]at n2;cases n2
 o_head sQ (λm σ' H'=>∃(ll:we)(left done:List Rat)(us ws:List V)(f:Nat)(o3:Option V),σ'=[some x0,some (.ref lt),some (.ref ll),o3]/\m=left.length/\ah H H'/\ll≠lt/\H' lt=some (.lst ws)/\ak K H' ws (done.map (j5 xs))/\H' ll=some (.lst us)/\ak K H' us (left.map N)/\(∀y∈left,y∈xs)/\left.length<=f/\done.length+left.length<=xs.length/\done++iR f left=aj xs) _ ⟨ll,xs,[],us,[],xs.length,_,rfl,rfl,S1.trans S2,nlt,S2 _ _ e1,.nil,e2,t2,λy h=>h,wo _,by simp,rfl⟩ ?_;rintro m σ' H3 ⟨ll,left,done,us,ws,f,o3,rfl,rfl,S3,nl,et,tt',el,tl',sub,hf,hdl,heq⟩;o_head CN (dF el tl') ?_;rw[zwl]
 by_cases he:left=[]
 . rw[show(!left.isEmpty)=false by rw[he];rfl]
   refine m_ ?_;rw[he,Gu,Wh]at heq;rw[heq]at tt';k_few;exact q lt H3 ws n1 S3 et tt'
 . rw [show (!left.isEmpty) = true by cases left with
       | nil=>exact absurd rfl he
       | cons y l=>rfl]
   refine og ?_;refine AX ?_;have hpos:=qf.mpr he
   have bl:∀i,ag 4000 (left.getD i 0):=λi=>by
     rcases wA i left.length with z | z
     . exact ztV bx (sub _ (getD_mem z))
     . rw[wa,wL z];exact ag.zero.mono (by decide)
   obtain⟨f',rfl⟩:∃f',f=f'+1:=⟨f-1,by omega⟩;rw[oB he]at heq;have hless:=O9 he;have hwl:=tt'.length;rw[wm]at hwl;o_head OG (.inl (dF el tl')) hpos bl (λvm im=>?_);o_head lO (aQ.of et) ?_;o_head aA (j:=1) (hw.by S3) rfl (λvq iq=>?_);o_head ztA iq im (by omega) (λv4 H4 S4 i4=>?_);o_head cB (ds:=[N (cb left),TW (f_ xs (cb left))]) (by simp) (.cons (im.by S4) (.cons i4 .nil)) (λv5 H5 S5 i5=>?_);k_few;have T5:=S4.trans S5;refine lX (T5 _ _ et) (by omega) (λH6 E6 e6=>?_);have K6:=E6.keep (T5 _ _ et);have el6:=E6 _ _ nl (T5 _ _ el);have tl6:ak K H6 us (left.map N):=ak.keep (T5.keep.trans K6) _ _ (gD _) tl'
   have tt6:ak K H6 (ws++[v5]) ((done++[cb left]).map (j5 xs)):=by
     rw[vA];exact(ak.keep (T5.keep.trans K6) _ _ (zwq ..) tt').snoc (i5.ji K6 (Rz ..))
   have im6:=(im.by T5).gb K6;have S6:ah H H6:=(S3.trans T5).grow n1 E6;generalize hmx:cb left=mxx at *;o_head yH (.of el6) (λD i ys σ' H'=>(∃o,σ'=[o,some vm])/\H6 D=none/\ah H6 H'/\H' D=some (.lst ys)/\ak K H' ys (((left.take i).filter λy=>!decide (y=mxx)).map N)) (λD H' n s e=>⟨⟨_,rfl⟩,n,s,e,.nil⟩) (λD i ys σ' H' h=>h.2.2.1.seq (.of el6)) ?_ ?_
   . rintro D i x ys σ' H7 hx ⟨⟨o,rfl⟩,n7,S7,e7,t7⟩
     obtain⟨hi,ix⟩:=dD tl6 hx;have ix7:=ix.by S7;have im7:=im6.by S7;have hyl:=t7.length;rw[wm]at hyl;have hfl:=WK (λy=>!decide (y=mxx)) (left.take i);rw[Wq]at hfl;k_few
     . rename_i z
       refine lU e7 (by omega) (λH8 E8 e8=>⟨⟨_,rfl⟩,n7,S7.grow n7 E8,e8,?_⟩);have K8:=E8.keep e7;rw[oH hi,Va,W4,decide_eq_false z,vA];exact(ak.keep K8 _ _ (gD _) t7).append (.cons (ix7.gb K8) .nil)
     . rename_i z
       refine⟨ys,⟨_,rfl⟩,n7,S7,e7,?_⟩;rw[oH hi,Va,W4,decide_eq_true (by first | exact z | exact qy.mp z)];have:([]:List Rat).filter (λy=>!decide (y=mxx))=[]:=rfl
       simpa using t7
   . rintro D ys σ' H7 ⟨_,n7,S7,e7,t7⟩
     have hul:=tl6.length;rw[wm]at hul;rw[hul,Wr]at t7;k_few;exact⟨(left.filter λy=>!decide (y=mxx)).length,by omega,D,_,done++[mxx],ys,ws++[v5],f',_,rfl,rfl,S6.trans S7,(λz=>by subst z;rw[e6]at n7;cases n7),S7 _ _ e6,ak.same S7 _ _ tt6,e7,t7,λy hy=>sub y (vg.mp hy).1,by omega,by rw[wR];simp only[vV];omega,by rw[Vh];exact heq⟩
def Sw(K:wb):Sp:=λvs H Q _=>∃x0 x1,vs=[x0,x1] /\ ∃(lw:we)(left:List Nat)(ps:List Rat),x0=.ref lw/\H lw=some (.lst (vz left))/\Is K H x1 (LN ps)/\(∀w∈left,w<ps.length)/\left.length<=900/\(∀i,ag 4000 (ps.getD i 0)) /\ ∀v H',ah H H'->Is K H' v (TW (aG ps left))->Q v H'
theorem Mv{lw:we}{left:List Nat}(e:H lw=some (.lst (vz left)))(h:Is K H v (LN ps))(hw:∀w∈left,w<ps.length)(hl:left.length<=900)(b:∀i,ag 4000 (ps.getD i 0))(q:∀v H',ah H H'->Is K H' v (TW (aG ps left))->Q v H'):Sw K [.ref lw,v] H Q E:=⟨_,_,rfl,lw,left,ps,rfl,e,h,hw,hl,b,q⟩
theorem zxa(ps:List Rat)(l:List Nat):(aG ps l).length<=l.length:=WK _ _
theorem To(T:Txt K mg a):aH P w K mg base aR 2 a.IK a.HB A8 (Sw K):=by
 refine T.Bq.F.ok zoC ?_ ?_;walk_at "b2";refine⟨_,(av (aB (dY (show aK _ (.type "tuple") (eS K)from fZ) rfl T.z_tuple d5 (ae (d7 rfl (cR.by (N':=["worm","phases"]) (src:=[none,some 1]) rfl (show dg _ (aC s_).names yQ ["worm","phases"] [none,some 1]=true from by decide +kernel)) (gA (pv 0)) (λ_ _ _ _ _=>(bQ (i:=0) (show(["worm","phases"]:List Str).Nodup from by decide) rfl (Or.inl rfl))) (λ_ _ _ _ _=>(yh (cW (cz (au (gO (K:=K) (mg:=mg) (a:=a) T) hr T.gn (ae (dJ (show gP _ (dy K)from di) (pv 1) (pv 0) (λ_ _=>rfl)) (ae (b_ (v:=.ref a.d4) rfl T.fh rfl) af))))))) (λ_ _ _ _ _=>(pv 0))) af)))),?_⟩;walk_at "cl";rw[show start yQ [x0,x1]=[some x0,some x1]from rfl];obtain⟨lw,left,ps,rfl,e1,hx,hw,hl,bp,q⟩:=h;o_head yH (.of e1) (λD i ys σ' H'=>(∃o,σ'=[o,some x1])/\H D=none/\ah H H'/\H' D=some (.lst (vz (aG ps (left.take i))))) (λD H' n s e=>⟨⟨_,rfl⟩,n,s,e⟩) (λD i ys σ' H' h=>h.2.2.1.seq (.of e1)) ?_ ?_
 ·rintro D i x ys σ' H1 hx' ⟨⟨o,rfl⟩,n,S1,e2⟩
  obtain⟨hi,rfl⟩:=Dm hx';have hx1:=hx.by S1;have hlt:=hw _ (vK hi);have bw:=bp left[i];have hle:=zxa ps (left.take i);have htl:(left.take i).length<=900:=by rw[Wq];omega
  o_head kH hx1 (by omega) (by omega) (λv iv=>?_);rw[wP]at iv;generalize hww:left[i]=ww at *;k_few
  ·rename_i z
   refine lU e2 (by rw[ke];omega) (λH6 E6 e6=>⟨⟨_,rfl⟩,n,S1.grow n E6,?_⟩);rw[pZ hi,hww,zya z,EL];exact e6
  ·rename_i z
   refine⟨[],⟨_,rfl⟩,n,S1,?_⟩;rw[pZ hi,hww,zxu (by first | exact z | exact qy.mp z)];exact e2
 ·rintro D ys σ' H1 ⟨_,n,S1,e2⟩
  rw[ke,Wr]at e2;o_head AU (.of e2) (λl H2 n2 S2 e3=>?_);exact q _ H2 (S1.trans S2) (GK.mpr ⟨l,rfl,.of e3⟩)
def N9(K:wb):Sp:=λvs H Q _=>∃x0,vs=[x0] /\ ∃(a b:Rat)(xs:List Rat)(m:Nat),Is K H x0 (aZ a b xs)/\ag 10 a/\ag 10 b/\1<=xs.length/\xs.length<=8/\Cm m xs/\m+2+21*xs.length<=3950 /\ ∀v H',ah H H'->Is K H' v (GD a b xs)->Q v H'
theorem Eo{a:Rat}(h:Is K H v (aZ a b xs))(ba:ag 10 a)(bb:ag 10 b)(h1:1<=xs.length)(h8:xs.length<=8)(c:Cm m xs)(hm:m+2+21*xs.length<=3950)(q:∀v H',ah H H'->Is K H' v (GD a b xs)->Q v H'):N9 K [v] H Q E:=⟨_,rfl,a,b,xs,m,h,ba,bb,h1,h8,c,hm,q⟩
structure zDl(K:wb)(a b:Rat)(xs:List Rat)(m:Nat)(H H':Hp)(vw:V)(lp lv ll:we)(left:List Nat)(ps:List Rat)(done:List (List Nat))(f:Nat)(pv wv:List V)(vwave:V):Prop where
 same:ah H H'
 hp:H lp=none
 hv:H lv=none
 iw:Is K H' vw (N (1-cb xs))
 oj:lp≠lv
 Gn:ll≠lp
 AK:ll≠lv
 ep:H' lp=some (.lst pv)
 tp:ak K H' pv (ps.map N)
 el:H' ll=some (.lst (vz left))
 ev:H' lv=some (.lst wv)
 tv:ak K H' wv (done.map TW)
 iv:Is K H' vwave (TW (aG ps left))
 nd:left.Nodup
 lt:∀w∈left,w<xs.length
 len:ps.length=xs.length
 fl:left.length<=f
 dl:done.length+left.length<=xs.length
 cm:Cm (m+2+21*(xs.length-left.length)) ps
 w1:done++(cT a b f ps left).1=cE a b xs
 w2:(cT a b f ps left).2=(eH a b xs).2
def N8(K:wb)(a b:Rat)(xs:List Rat)(m:Nat)(H:Hp)(x0 vw:V)(lp lv:we)(k:Nat)(σ':L2.St)(H':Hp):Prop:=∃(ll:we)(left:List Nat)(ps:List Rat)(done:List (List Nat))(f:Nat)(pv wv:List V)(vwave:V)(o6 o7:Option V),σ'=[some x0,some vw,some (.ref lp),some (.ref ll),some (.ref lv),some vwave,o6,o7,none]/\k=left.length/\zDl K a b xs m H H' vw lp lv ll left ps done f pv wv vwave
theorem rC{q:we}{o:HO}(h:H p=none)(k:H q=some o):p≠q:=λe=>by rw[e,k]at h;cases h
theorem zxm{β γ:Type}(f : α -> β)(g : β -> γ)(l:List α):(!((l.map f).map g).isEmpty) = !l.isEmpty:=by cases l<;>rfl
theorem zzF{l:List α}(h:l≠[]):(!l.isEmpty)=true:=by cases l with
 | nil=>exact absurd rfl h
 | cons x l=>rfl
theorem Dd(T:Txt K mg a):aH P w K mg base aR 4 a.mQ a.J7 yK (N9 K):=by
 refine T.sH.F.ok iN ?_ ?_;walk_at "b1"
 refine⟨_,(ar (az 1 iN.nd (au (Ax T) hr T.oP (ae (b_ (v:=.ref a.d4) rfl T.fh rfl) (ae (au (Px T) hr T.Bw (ae (ao (pv 0)) af)) af))))
     (ar (ml (i:=2) iN.nd rfl (Or.inl rfl) rfl (cR.by (N':=["phase","wait"]) (src:=[none,some 1]) rfl (show dg _ (aC mY).names pF ["phase","wait"] [none,some 1]=true from by decide +kernel)) (j9 (ao (pv 0))) (λ_ _ _ _ _=>(bQ (i:=0) (show(["phase","wait"]:List Str).Nodup from by decide) rfl (Or.inl rfl))) (λ_ _ _ _ _=>dN) (λ_ _ _ _ _=>(au (gy (K:=K) (mg:=mg) (a:=a) T) hr T.fR (ae (pv 0) (ae (pv 1) af)))))
     (ar (az 3 iN.nd (zrr rfl rfl T.z_list rfl T.z_range (ae (bE (show aK _ (.builtin "len") (dj K)from eA) rfl T.z_len dU (ae (pv 2) af)) af)))
     (ar (az 4 iN.nd (eZ af))
     (ar (az 5 iN.nd (au (To T) hr T.Bq (ae (pv 3) (ae (pv 2) af))))
     (ar (nu vP (sR (pv 5)) (ar (nk (nR WT WQ WR mf (pv 4) (ae (pv 5) af)))
     (ar (az 3 iN.nd (d7 rfl (cR.by (N':=["worm","wave"]) (src:=[none,some 5]) rfl (show dg _ (aC mY).names pF ["worm","wave"] [none,some 5]=true from by decide +kernel)) (gA (pv 3)) (λ_ _ _ _ _=>(bQ (i:=0) (show(["worm","wave"]:List Str).Nodup from by decide) rfl (Or.inl rfl))) (λ_ _ _ _ _=>(yh (bZ (show aN _ (wT .NotIn) (lz K true)from zxs) (pv 0) (pv 1) (by with_unfolding_all rfl)))) (λ_ _ _ _ _=>(pv 0))))
     (ar (az 6 iN.nd (au (yx T) hr T.oO (ae (ao (pv 0)) (ae (bE (show aK _ (.builtin "len") (dj K)from eA) rfl T.z_len dU (ae (pv 5) af)) af))))
     (ar (gR vP rfl (gA (pv 3)) (bQ (i:=7) iN.nd rfl (Or.inl rfl)) (av (oD (au (Rc T) hr T.Bt (ae (pv 6) (ae (dJ di (pv 2) (pv 7) (λ_ _=>rfl)) af))) (oX (pv 2) (pv 7) pO))))
     (av (az 5 iN.nd (au (To T) hr T.Bq (ae (pv 3) (ae (pv 2) af))))))))))
     (ar (ml (i:=8) iN.nd rfl (Or.inl rfl) rfl (cR.by (N':=["worm","phase","left"]) (src:=[none,none,some 3]) rfl (show dg _ (aC mY).names pF ["worm","phase","left"] [none,none,some 3]=true from by decide +kernel)) (zzb rfl T.z_enumerate (ae (pv 2) af)) (λ_ _ _ _ _=>by exact(show PG _ _ (lP K 2 _)from my (n:=2) rfl (gH (bQ (i:=0) (show(["worm","phase","left"]:List Str).Nodup from by decide) rfl (Or.inl rfl)) (gH (bQ (i:=1) (show(["worm","phase","left"]:List Str).Nodup from by decide) rfl (Or.inl rfl)) mh)))) (λ_ _ _ _ _=>dN) (λ_ _ _ _ _=>(tO (bZ (show aN _ (wT .In) (lz K false)from zCQ) (pv 0) (pv 2) (by with_unfolding_all rfl)) (pv 1) (b_ (v:=.ref a.dA) rfl T.dX rfl))))
     (av (aB (br (ae (pv 1) (ae (dY (show aK _ (.type "tuple") (eS K)from fZ) rfl T.z_tuple d5 (ae (pv 4) af)) (ae (br (ae (ao (pv 0)) (ae (dY (show aK _ (.type "tuple") (eS K)from fZ) rfl T.z_tuple d5 (ae (pv 8) af)) af))) af))))))))))))),?_⟩
 walk_at "cl";rw[show start pF [x0]=[some x0,none,none,none,none,none,none,none,none]from rfl];obtain⟨ra,rb,xs,m,hw,ba,bb,h1,h8,cm,hm,q⟩:=h;have bx:∀i,ag 4000 (xs.getD i 0):=λi=>(cm.get i).mono (by omega)
 have bm:ag 3950 (cb xs):=(cm.d_ (ic h1)).mono (by omega);o_head aA (j:=1) hw rfl (λvp ip=>?_);o_head OG (.inr ip) h1 bx (λvm im=>?_);k_few;rename_i vw H1 S1 iw;refine aA (j:=1) (hw.by S1) rfl (λvp1 ip1=>?_);obtain⟨ap,us,rfl,hu,tu⟩:=bX.mp ip1;refine jz (o0:=none) (tl:=[some vw]) hu rfl (λj y H'=>Is K H' y (N ((bK xs).getD j 0))) ?_ ?_
 . intro D i x ys o H2 hx inv
   obtain⟨hi,ix⟩:=dD tu hx;have S2:=inv.same;have ix2:=ix.by S2;have iw2:=iw.by S2;have bi:=bx i;have bw:ag 3952 (1-cb xs):=(ag.one.sub bm).mono (by decide);k_few;rename_i v3 H3 S3 i3;exact d8 inv (by omega) fL ⟨_,rfl⟩ S3 (by rw[ZJ hi];exact i3)
 . intro lp ys H2 hnp S2 hD hl hr
   have hl':ys.length=(bK xs).length:=by rw[hl,tu.length,wm,fH]
   have tp:ak K H2 ys ((bK xs).map N):=fY hl' hr;have iw2:=iw.by S2;have T2:=S1.trans S2;have hpH:H lp=none:=jJ S1 hnp;clear hl hr hu tu ip1 ip im iw S1 S2 hnp;o_head ZP (dF hD tp) ?_;rw[fH];o_head zwV (n:=xs.length) (by omega) (λll H3 n3 S3 e3=>?_);o_head ft (by simp) (λlv H4 n4 S4 e4=>?_);k_few;have hD4:=S4 _ _ (S3 _ _ hD);have tp4:ak K H4 ys ((bK xs).map N):=ak.same (S3.trans S4) _ _ tp;have lu:Cm (m+2) (bK xs):=(Cm.rise (h:=0) (cm.kB (ys:=0::xs) λy hy=>by rcases wF.mp hy with rfl | hy;(exact .inr rfl);exact .inl hy) (ic h1)).kB λy hy=>.inl (wy _ hy)
   have b3:∀i,ag 4000 ((bK xs).getD i 0):=λi=>(lu.get i).mono (by omega)
   refine Mv (S4 _ _ e3) (dF hD4 tp4) (λw hw'=>by rw[fH];exact wH.mp hw') (by rw[vx];omega) b3 (λvwave H5 S5 i5=>?_);have T5:=T2.trans (S3.trans (S4.trans S5));have hvH:H lv=none:=jJ (T2.trans S3) n4;have oj:lp≠lv:=(rC n4 (S3 _ _ hD)).symm;have Gn:ll≠lp:=rC n3 hD;have AK:ll≠lv:=(rC n4 e3).symm
   have G0:N8 K ra rb xs m H x0 vw lp lv xs.length [some x0,some vw,some (.ref lp),some (.ref ll),some (.ref lv),some vwave,none,none,none] H5:=by
     refine⟨ll,wt xs.length,bK xs,[],xs.length,ys,[],vwave,none,none,rfl,by rw[vx],T5,hpH,hvH,iw2.by (S3.trans (S4.trans S5)),oj,Gn,AK,S5 _ _ hD4,ak.same S5 _ _ tp4,S5 _ _ (S4 _ _ e3),S5 _ _ e4,.nil,i5,W5,λw hw'=>wH.mp hw',fH xs,by rw[vx];exact wo _,by rw[vx];simp,lu.mono (by omega),?_,rfl⟩;rw[QD];rfl
   clear T5 S5 S4 S3 T2 hD hD4 tp tp4 b3 lu n3 n4 e3 e4 iw2 i5 hl';o_head sQ (N8 K ra rb xs m H x0 vw lp lv) _ G0 ?_;clear G0 oj Gn AK;rintro k σ' H6 ⟨ll,left,ps,done,f,pv,wv,vwave,o6,o7,rfl,hk,G⟩;have bp:∀i,ag 4000 (ps.getD i 0):=λi=>(G.cm.get i).mono (by have:=G.dl;omega)
   o_head zAv (show Is K H6 vwave (.tuple (((aG ps left).map λ(w:Nat)=>(w:Int)).map PyData.int))from G.iv) ?_;rw[zxm]
   by_cases he:aG ps left=[]
   . rw[show(!(aG ps left).isEmpty)=false by rw[he];rfl]
     refine m_ ?_;have w1:=G.w1;have w2:=G.w2;rw[oG he]at w1 w2;rw[Wh]at w1;have eps:ps=(eH ra rb xs).2.2:=congrArg Uo w2;have elf:left=(eH ra rb xs).2.1:=congrArg Um w2;have hph:jh left ps=dC ra rb xs:=by rw[dC,<- eps,<- elf]
     o_head zzc (.of G.ep) (o0:=none) (o0':=none) (tl:=[some (.ref ll)]) rfl (λj y H'=>Is K H' y (N ((jh left ps).getD j 0))) fL ?_ ?_
     . intro D i x zs o1 o2 H7 c hx inv hc
       obtain⟨hi,ix⟩:=dD G.tp hx;have S7:=inv.2.2.1;refine lZ (.of hc) rfl ?_;o_head zAL (aQ.of (S7 _ _ G.el)) ?_;k_few
       . rename_i z
         exact yd inv (by have:=G.len;omega) fL ⟨_,_,rfl⟩ (ah.refl _) (by rw[nI hi,if_pos z];exact ix.by S7)
       . rename_i z
         exact yd inv (by have:=G.len;omega) fL ⟨_,_,rfl⟩ (ah.refl _) (by rw[nI hi,if_neg z];exact eC 0 (T.eW _) rfl rfl)
     . intro D zs H7 hn S7 hD hl hr
       have hpl:=G.tp.length;rw[wm]at hpl;have tz:ak K H7 zs ((jh left ps).map N):=fY (by rw[hl,MA,hpl]) hr;rw[hph]at tz;have tv:=ak.same S7 _ _ G.tv;have ev:=S7 _ _ G.ev;have iw7:=G.iw.by S7;have T7:=G.same.trans S7;rw[w1]at tv;o_head iM (cF.mpr ⟨lv,wv,rfl,.of ev,tv⟩) (λv8 H8 S8 i8=>?_);o_head aA (j:=0) (hw.by (T7.trans S8)) rfl (λv9 i9=>?_);o_head iM (dF (S8 _ _ hD) (ak.same S8 _ _ tz)) (λv10 H10 S10 i10=>?_);o_head cB (ds:=[R ra rb,TN (dC ra rb xs)]) (by simp) (.cons (i9.by S10) (.cons i10 .nil)) (λv11 H11 S11 i11=>?_);o_head cB (ds:=[N (1-cb xs),mX (cE ra rb xs),aZ ra rb (dC ra rb xs)]) (by simp) (.cons (iw7.by (S8.trans (S10.trans S11))) (.cons (i8.by (S10.trans S11)) (.cons i11 .nil))) (λv12 H12 S12 i12=>?_);exact q v12 H12 (T7.trans (S8.trans (S10.trans (S11.trans S12)))) i12
   . rw[zzF he]
     refine og ?_;refine AX ?_;have hwl:=G.tv.length;rw[wm]at hwl;have hdl:=G.dl;have hlen:=Du ps left;have hpos:0<(aG ps left).length:=qf.mpr he;o_head lO (aQ.of G.ev) ?_;o_head lX G.ev (by omega) (λH7 E7 e7=>?_);have K7:bG H6 H7:=E7.keep G.ev;have S7:ah H H7:=G.same.grow G.hv E7;have el7:=E7 _ _ G.AK G.el;have ep7:=E7 _ _ G.oj G.ep;have tp7:=ak.keep K7 _ _ (gD _) G.tp;have iv7:=G.iv.ji K7 (FY _);have iw7:=G.iw.gb K7
     have tv7:ak K H7 (wv++[vwave]) ((done++[aG ps left]).map TW):=by
       rw[vA];exact(ak.keep K7 _ _ (AY _) G.tv).snoc iv7
     obtain⟨aw,rfl,hsw⟩:=GK.mp iv7;o_head yH (.of el7) (λD i ys σ' H'=>(∃o,σ'=[o,some (.ref aw)])/\H7 D=none/\ah H7 H'/\H' D=some (.lst (vz (bW (left.take i) (aG ps left))))) (λD H' n s e=>⟨⟨_,rfl⟩,n,s,e⟩) (λD i ys σ' H' h=>h.2.2.1.seq (.of el7)) ?_ ?_
     . rintro D i x ys σ' H8 hx' ⟨⟨o,rfl⟩,n,S8,e8⟩
       obtain⟨hi,rfl⟩:=Dm hx';have hle:(bW (left.take i) (aG ps left)).length<=(left.take i).length:=WK _ _;rw[Wq]at hle;o_head ZN (S8.jP hsw) ?_;generalize hww:left[i]=ww at *;k_few
       . rename_i z
         refine lU e8 (by rw[ke];omega) (λH9 E9 e9=>⟨⟨_,rfl⟩,n,S8.grow n E9,?_⟩);rw[pZ hi,hww,zwS z,EL];exact e9
       . rename_i z
         refine⟨[],⟨_,rfl⟩,n,S8,?_⟩;rw[pZ hi,hww,zt1 (by first | exact z | exact qy.mp z)];exact e8
     . rintro D ys σ' H8 ⟨_,n8,S8,e8⟩
       rw[ke,Wr]at e8;have nD1:D≠lp:=rC n8 ep7;have nD2:D≠lv:=rC n8 e7;have T8:=S7.trans S8;have iv8:=iv7.by S8;o_head aA (j:=0) (hw.by T8) rfl (λvr ir=>?_);o_head Mj iv8 ?_;o_head Dg ir ba bb (by omega) (by omega) (λvpush H9 S9 ipush=>?_);rw[wP]at ipush;have bf:ag 700 (ra^(aG ps left).length):=(ba.pow _).mono (by omega);have bg:ag 1500 (aE ra rb (aG ps left).length):=(ba.aE bb _).mono (by omega);have T9:=S8.trans S9;have ep9:=T9 _ _ ep7;have tp9:ak K H9 pv (ps.map N):=ak.same T9 _ _ tp7;have e9:=S9 _ _ e8;have ev9:=T9 _ _ e7;have ndl:=nB (wave:=aG ps left) G.nd;have ltl:=nX (wave:=aG ps left) G.lt;generalize hL:bW left (aG ps left)=left' at *;o_head Eh (.of e9) (λi σ'' H''=>∃o pv',σ''=[some x0,some vw,some (.ref lp),some (.ref D),some (.ref lv),some (.ref aw),some vpush,o,none]/\Exc lp H9 H''/\H'' lp=some (.lst pv')/\ak K H'' pv' ((cZ (ra^(aG ps left).length) (aE ra rb (aG ps left).length) ps (left'.take i)).map N)) ⟨_,pv,rfl,Exc.refl _ _,ep9,tp9⟩ (λi σ'' H'' _ ⟨_,_,_,e,_⟩=>.of (e _ _ nD1 e9)) ?_ ?_
       . rintro i x σ'' H10 hx' ⟨o,pv',rfl,E10,e10,t10⟩
         obtain⟨hi,rfl⟩:=Dm hx';have K10:bG H9 H10:=E10.keep ep9;have hlt:=ltl _ (vK hi);have hpl:=iT (ra^(aG ps left).length) (aE ra rb (aG ps left).length) (left'.take i) ps;have hps:=G.len
         have bq:ag 4000 ((cZ (ra^(aG ps left).length) (aE ra rb (aG ps left).length) ps (left'.take i)).getD left'[i] 0):=by
           have nt:(left'.take i).Nodup:=ndl.sublist (XW ..);rw[jI _ _ _ _ nt (λw hw'=>by rw[hps];exact ltl w (ut _ _ hw'))];rw[if_neg]
           . exact bp _
           . intro hm
             obtain⟨j,hj,ej⟩:=wX hm;rw[Wq]at hj;rw[X0]at ej;exact absurd ej ((We.mp ndl) j i (by omega) hi (by omega))
         have ip10:=ipush.ji K10 (DS _ _);generalize hww:left'[i]=ww at *;generalize hqs:cZ (ra^(aG ps left).length) (aE ra rb (aG ps left).length) ps (left'.take i)=qs at *;o_head kH (dF e10 t10) (by omega) (by omega) (λv11 i11=>?_);rw[wP]at i11;o_head NU ip10 i11 bf bg (bq.mono (by decide)) (λv12 H12 S12 i12=>?_);have e12:=S12 _ _ e10;have hvl:=t10.length;rw[wm]at hvl;o_head zt (j:=ww) e12 (by unfold iA;rw[if_pos (by omega),if_pos (by omega)];simp) (λH13 E13 e13=>?_);refine⟨_,_,rfl,E10.trans (S12.exc.trans E13),e13,?_⟩;have K13:=E13.keep e12;rw[pZ hi,hww,ztC,hqs];refine fY (by rw[VC,VC];exact hvl) (λj v hj=>?_);rw[VN]at hj
         by_cases hjw:ww=j
         . subst hjw
           rw[if_pos rfl,if_pos (by omega)]at hj;cases hj;rw[PY (by omega)];exact i12.gb K13
         . rw[if_neg hjw]at hj
           rw[LY hjw];obtain⟨_,ij⟩:=dD t10 hj;exact(ij.by S12).gb K13
       . rintro σ'' H10 ⟨o,pv',rfl,E10,e10,t10⟩
         rw[ke,Wr]at t10;have K10:bG H9 H10:=E10.keep ep9;have hps:=G.len
         have cm10:Cm (m+2+21*(xs.length-left'.length)) (cZ (ra^(aG ps left).length) (aE ra rb (aG ps left).length) ps left'):=by
           have c0:Cm (m+2+21*(xs.length-left.length)) (0::ps):=G.cm.kB λy hy=>by rcases wF.mp hy with rfl | hy;(exact .inr rfl);exact .inl hy
           exact((c0.wave ba bb (aG ps left).length ndl (λw hw'=>by rw[hps];exact ltl w hw')).kB λy hy=>.inl (wy _ hy)).mono (by omega)
         have hpl:=iT (ra^(aG ps left).length) (aE ra rb (aG ps left).length) left' ps;have w1:=G.w1;have w2:=G.w2;have hfl:=G.fl;obtain⟨f',rfl⟩:∃f',f=f'+1:=⟨f-1,by omega⟩;rw[jy he,hL]at w1 w2;generalize hqs:cZ (ra^(aG ps left).length) (aE ra rb (aG ps left).length) ps left'=qs at *;k_few;have e10':=E10 _ _ nD1 e9;refine Mv e10' (dF e10 t10) (λw hw'=>by rw[hpl,hps];exact ltl w hw') (by omega) (λi=>(cm10.get i).mono (by omega)) (λvwave2 H11 S11 i11=>?_);k_few;have KA:=T9.keep.trans K10;refine⟨left'.length,by omega,D,left',qs,done++[aG ps left],f',pv',wv++[V.ref aw],vwave2,_,_,rfl,rfl,?_⟩;exact⟨((S7.trans T9).grow G.hp E10).trans S11,G.hp,G.hv,(iw7.gb KA).by S11,G.oj,nD1,nD2,S11 _ _ e10,ak.same S11 _ _ t10,S11 _ _ e10',S11 _ _ (E10 _ _ G.oj.symm ev9),ak.same S11 _ _ (ak.keep KA _ _ (AY _) tv7),i11,ndl,ltl,by rw[hpl];exact hps,by omega,by rw[wR];simp;omega,cm10,by rw[Vh];exact w1,w2⟩
def Th(K:wb):Sp:=λvs H Q _=>∃x0 x1,vs=[x0,x1] /\ ∃(a b:Rat)(xs:List Rat)(n:Int),x1=.int n/\Is K H x0 (aZ a b xs)/\ag 10 a/\ag 10 b/\1<=xs.length/\xs.length<=8/\0<=n/\n<=40/\(∀i,i<=n.toNat->Cm 3700 (aF a b xs i::ai a b xs i)) /\ ∀l H',H l=none->ah H H'->Is K H' (.ref l) (.list (gx a b xs n.toNat))->Q (.ref l) H'
theorem Mt{a:Rat}{n:Int}(h:Is K H v (aZ a b xs))(ba:ag 10 a)(bb:ag 10 b)(h1:1<=xs.length)(h8:xs.length<=8)(n0:0<=n)(n1:n<=40)(c:∀i,i<=n.toNat->Cm 3700 (aF a b xs i::ai a b xs i))(q:∀l H',H l=none->ah H H'->Is K H' (.ref l) (.list (gx a b xs n.toNat))->Q (.ref l) H'):Th K [v,.int n] H Q E:=⟨_,_,rfl,a,b,xs,n,rfl,h,ba,bb,h1,h8,n0,n1,c,q⟩
theorem N3(T:Txt K mg a):aH P w K mg base aR 5 a.J8 a.IQ AH (Th K):=by
 refine T.By.F.ok lA ?_ ?_;walk_at "b2"
 refine⟨_,(ar (az 2 lA.nd (eZ af))
     (ar (az 3 lA.nd (b_ (v:=.ref a.dA) rfl T.dX rfl))
     (ar (az 4 lA.nd (pv 0))
     (ar (gR vP rfl (kc rfl T.z_range (ae (pv 1) af)) (bQ (i:=5) lA.nd rfl (Or.inl rfl)) (ar (az 6 lA.nd (au (Dd T) hr T.sH (ae (pv 4) af)))
     (ar (az 3 lA.nd (au (gy T) hr T.fR (ae (pv 3) (ae (ao (pv 6)) af))))
     (ar (az 4 lA.nd (ao (pv 6)))
     (av (nk (nR WT WQ WR mf (pv 2) (ae (br (ae (pv 3) (ae (ao (pv 6)) (ae (ao (pv 4)) af)))) af))))))))
     (av (aB (pv 2))))))),?_⟩
 walk_at "cl";rw[show start Tu [x0,x1]=[some x0,some x1,none,none,none,none,none]from rfl];obtain⟨ra,rb,xs,n,rfl,hw,ba,bb,h1,h8,n0,n1,cm,q⟩:=h;o_head ft (by simp) (λlr H1 nr S1 e1=>?_);o_head lI (n:=n) (by omega) (by omega) (λi σ H'=>∃vh vs o5 o6 us,σ = [some x0,some (.int n),some (.ref lr),some vh,some vs,o5,o6]/\ah H H'/\H' lr=some (.lst us)/\ak K H' us (gx ra rb xs i)/\Is K H' vh (N (aF ra rb xs i))/\Is K H' vs (aZ ra rb (ai ra rb xs i))) ⟨_,_,_,_,[],rfl,S1,e1,.nil,eC 0 (T.eW _) rfl rfl,hw.by S1⟩ ?_ ?_
 . rintro i σ H2 hi ⟨vh,vs,o5,o6,us,rfl,S2,e2,t2,ih,iw⟩
   have hc:=cm i (by omega);have hpl:=aY ra rb xs i;have bh:ag 3700 (aF ra rb xs i):=hc.d_ (wz ..);have hc':Cm 3700 (ai ra rb xs i):=hc.kB λy hy=>.inl (wy _ hy)
   have bw:ag 3702 (1-cb (ai ra rb xs i)):=(ag.one.sub (hc'.d_ (ic (by omega)))).mono (by decide);o_head Eo iw ba bb (by omega) (by omega) hc' (by rw[hpl];omega) (λv3 H3 S3 i3=>?_);o_head aA (j:=0) i3 rfl (λv4 i4=>?_);have ih3:=ih.by S3;k_few;rename_i v5 H5 S5 i5;refine aA (j:=2) (i3.by S5) rfl (λv6 i6=>?_);have T5:=S3.trans S5;o_head lO (aQ.of (T5 _ _ e2)) ?_;o_head aA (j:=1) (i3.by S5) rfl (λv7 i7=>?_);o_head aA (j:=1) i6 rfl (λv8 i8=>?_);o_head cB (ds:=[N (aF ra rb xs (i+1)),mX (cE ra rb (ai ra rb xs i)),TN (ai ra rb xs (i+1))]) (by simp) (.cons i5 (.cons i7 (.cons i8 .nil))) (λv9 H9 S9 i9=>?_);k_few;have T9:=T5.trans S9;have e9:=T9 _ _ e2;have hul:=t2.length;rw[DD]at hul;refine lX e9 (by omega) (λH10 E10 e10=>?_);have K10:=E10.keep e9;have i10:=i9.ji K10 (Nd _ _ _)
   have t10:ak K H10 (us++[v9]) (gx ra rb xs (i+1)):=by
     rw[ES];exact(ak.keep K10 _ _ (zqm ..) (ak.same T9 _ _ t2)).snoc i10
   exact⟨_,_,_,_,_,rfl,(S2.trans T9).grow nr E10,e10,t10,(i5.by S9).gb K10,(i6.by S9).ji K10 (NT _ _ _)⟩
 . rintro σ H2 ⟨vh,vs,o5,o6,us,rfl,S2,e2,t2,ih,iw⟩
   k_few;exact q lr H2 nr S2 (cF.mpr ⟨lr,us,rfl,.of e2,t2⟩)
def BD(a b:Rat)(xs:List Rat)(n:Nat):wC:=.tuple [N (aF a b xs n),aZ a b (ai a b xs n)]
def MJ(K:wb):Sp:=λvs H Q _=>∃x0 x1,vs=[x0,x1] /\ ∃(a b:Rat)(xs:List Rat)(n:Int),x1=.int n/\Is K H x0 (aZ a b xs)/\ag 10 a/\ag 10 b/\1<=xs.length/\xs.length<=8/\0<=n/\n<=40/\(∀i,i<=n.toNat->Cm 3700 (aF a b xs i::ai a b xs i)) /\ ∀v H',ah H H'->Is K H' v (BD a b xs n.toNat)->Q v H'
theorem FP{a:Rat}{n:Int}(h:Is K H v (aZ a b xs))(ba:ag 10 a)(bb:ag 10 b)(h1:1<=xs.length)(h8:xs.length<=8)(n0:0<=n)(n1:n<=40)(c:∀i,i<=n.toNat->Cm 3700 (aF a b xs i::ai a b xs i))(q:∀v H',ah H H'->Is K H' v (BD a b xs n.toNat)->Q v H'):MJ K [v,.int n] H Q E:=⟨_,_,rfl,a,b,xs,n,rfl,h,ba,bb,h1,h8,n0,n1,c,q⟩
theorem lM{d:wC}(h:Is K H v (.list (ds++[d])))(q:∀x,Is K H x d->Q x H):dy K v (.int (-1)) H Q:=by
 obtain⟨a,xs,rfl,hs,t⟩:=cF.mp h;have hl:=t.length;rw[wR,vV]at hl;obtain⟨x,e1,hx⟩:=t.get (i:=ds.length) (d:=d) (by rw[vi (wo _),Vf];rfl);exact iQ hs (CS (by rw[hl];exact e1)) (q x hx)
theorem Rb(T:Txt K mg a):aH P w K mg base aR 6 a.behind a.Jw zZ (MJ K):=by
 refine T.BE.F.ok FT ?_ ?_;walk_at "b2"
 refine⟨_,(ar (az 2 FT.nd (au (N3 T) hr T.By (ae (pv 0) (ae (pv 1) af))))
     (ar (bR (cW (sR (pv 2))) (av (aB (br (ae (b_ (v:=.ref a.dA) rfl T.dX rfl) (ae (pv 0) af))))) bS)
     (ar (az 3 FT.nd (dJ di (pv 2) (gI gB ay) (λ_ _=>rfl)))
     (av (aB (br (ae (ao (pv 3)) (ae (br (ae (ao (pv 0)) (ae (ao (pv 3)) af))) af)))))))),?_⟩
 walk_at "cl";rw[show start Ni [x0,x1]=[some x0,some x1,none,none]from rfl];obtain⟨ra,rb,xs,n,rfl,hw,ba,bb,h1,h8,n0,n1,cm,q⟩:=h;o_head Mt hw ba bb h1 h8 n0 n1 cm (λlr H1 nr S1 i1=>?_);o_head CN i1 ?_;generalize n.toNat=k at *;cases k with
 | zero =>
   rw[show(!(gx ra rb xs 0).isEmpty)=false from rfl];o_head cB (ds:=[N 0,aZ ra rb xs]) (by simp) (.cons (eC 0 (T.eW _) rfl rfl) (.cons (hw.by S1) .nil)) (λv H2 S2 i2=>?_);exact q v H2 (S1.trans S2) i2
 | succ k =>
   rw[ES]at i1;rw[show(!(gx ra rb xs (k+1)).isEmpty)=true by rw[ES];simp];o_head lM i1 (λv2 i2=>?_);have i2:Is K H1 v2 (zS (aF ra rb xs (k+1)) (cE ra rb (ai ra rb xs k)) (ai ra rb xs (k+1))):=i2;o_head aA (j:=0) i2 rfl (λv3 i3=>?_);o_head aA (j:=0) (hw.by S1) rfl (λv4 i4=>?_);o_head aA (j:=2) i2 rfl (λv5 i5=>?_);o_head cB (ds:=[R ra rb,TN (ai ra rb xs (k+1))]) (by simp) (.cons i4 (.cons i5 .nil)) (λv6 H6 S6 i6=>?_);o_head cB (ds:=[N (aF ra rb xs (k+1)),aZ ra rb (ai ra rb xs (k+1))]) (by simp) (.cons (i3.by S6) (.cons i6 .nil)) (λv7 H7 S7 i7=>?_);exact q v7 H7 (S1.trans (S6.trans S7)) i7
def Li(K:wb):Sp:=λvs H Q _=>∃x0,vs=[x0] /\ ∃(a b:Rat)(xs:List Rat),Is K H x0 (aZ a b xs)/\Q (.bl (decide (0∈xs))) H
theorem Cq{a:Rat}(h:Is K H v (aZ a b xs))(q:Q (.bl (decide (0∈xs))) H):Li K [v] H Q E:=⟨_,rfl,a,b,xs,h,q⟩
theorem Fp(T:Txt K mg a):aH P w K mg base aR 1 a.JW a.IH tV (Li K):=by
 refine T.sx.F.ok ztU ?_ ?_;walk_at "b1";refine⟨_,(av (aB (e_ (show aN _ (wT .In) (p0 K)from OS hu) (b_ (v:=.ref a.dA) rfl T.dX rfl) (ao (pv 0)) (by with_unfolding_all rfl)))),?_⟩;walk_at "cl";rw[show start Gd [x0]=[some x0]from rfl];obtain⟨ra,rb,xs,hw,q⟩:=h;o_head aA (j:=1) hw rfl (λvp ip=>?_);exact zA4 (eC 0 (T.eW _) rfl rfl) ip q
def bA(xs:List Rat):List Rat:=(aj xs).dropLast
def Pj(xs:List Rat):wC:=.tuple [TZ (aW xs),TN (bA xs)]
def SU(K:wb)(a:Ad):Sp:=λvs H Q E=>∃x0,vs=[x0] /\ ∃(ra rb:Rat)(xs:List Rat),Is K H x0 (aZ ra rb xs)/\xs.length<=8/\(∀i,ag 4000 (xs.getD i 0))/\(¬ 0∈xs->∀H',ah H H'->E (.ref a.oN) none H')/\(0∈xs->∀v H',ah H H'->Is K H' v (Pj xs)->Q v H')
theorem Be(h:Is K H v (aZ ra rb xs))(h8:xs.length<=8)(bx:∀i,ag 4000 (xs.getD i 0))(qe:¬ 0∈xs->∀H',ah H H'->E (.ref a.oN) none H')(q:0∈xs->∀v H',ah H H'->Is K H' v (Pj xs)->Q v H'):SU K a [v] H Q E:=⟨_,rfl,ra,rb,xs,h,h8,bx,qe,q⟩
theorem Sl:∀(n:Nat)(l:List Rat),(iR n l).length<=n
 | 0,l=>wo _
 | n+1,[]=>by rw[Gu];simp
 | n+1,x::l=>by
  rw[oB (by simp),vo];have:=Sl n ((x::l).filter λy=>!decide (y=cb (x::l)));omega
theorem Ay(T:Txt K mg a):aH P w K mg base (fc P w) 4 a.laid a.J0 zF (SU K a):=by
 refine T.oQ.F.oW AL ?_ ?_;walk_at "b1"
 refine⟨_,(ar (bR (cW (cz (au (Fp T) hr T.sx (ae (pv 0) af)))) (av (Pp T.YS rfl rfl T.YU MC (ae iU af))) bS)
     (ar (az 1 AL.nd (au (FZ T) hr T.sD (ae (pv 0) af)))
     (ar (az 2 AL.nd (dY (show aK _ (.type "tuple") (eS K)from fZ) rfl T.z_tuple d5 (ae (d7 rfl (cR.by (N':=["row"]) (src:=[none]) rfl (show dg _ (aC pJ).names zm ["row"] [none]=true from by decide +kernel)) (gA (pv 1)) (λ_ _ _ _ _=>(bQ (i:=0) (show(["row"]:List Str).Nodup from by decide) rfl (Or.inl rfl))) (λ_ _ _ _ _=>dN) (λ_ _ _ _ _=>(bE (show aK _ (.builtin "len") (dj K)from eA) rfl T.z_len dU (ae (mD (K:=K) di (pv 0)) af)))) af)))
     (ar (az 3 AL.nd (dY (show aK _ (.type "tuple") (eS K)from fZ) rfl T.z_tuple d5 (ae (d7 rfl (cR.by (N':=["row"]) (src:=[none]) rfl (show dg _ (aC pJ).names zm ["row"] [none]=true from by decide +kernel)) (gA (jQ j8 (pv 1) j4 (j3 (gI gB ay)))) (λ_ _ _ _ _=>(bQ (i:=0) (show(["row"]:List Str).Nodup from by decide) rfl (Or.inl rfl))) (λ_ _ _ _ _=>dN) (λ_ _ _ _ _=>(mD (K:=K) di (pv 0)))) af)))
     (av (aB (br (ae (pv 2) (ae (pv 3) af))))))))),?_⟩
 walk_at "cl";rw[show start zm [x0]=[some x0,none,none,none]from rfl];obtain⟨ra,rb,xs,hw,h8,bx,qe,q⟩:=h;have hvl:(aj xs).length<=8:=Wa (Sl _ _) h8;o_head Cq hw ?_;k_few
 . rename_i z
   exact⟨by simp;decide,qe z H (ah.refl _)⟩
 . rename_i z
   have z:=(by first | exact z | exact qy.mp z:0∈xs);refine Cr hw h8 bx (λlr H1 us n1 S1 e1 t1=>?_);have hul:=t1.length;rw[wm]at hul;o_head jC (.of e1) (o0:=none) (tl:=[]) rfl (λj y _=>y=.int ((aW xs).getD j 0)) ?_ ?_
   . intro D j x ys o H2 hx inv
     obtain⟨hj,ix⟩:=jq t1 hx;rw[wm]at hj;rw[wa,wu,wc hj]at ix;have ix2:Is K H2 x (j5 xs (aj xs)[j]):=ix.by inv.same;o_head aA (j:=1) ix2 rfl (λv3 i3=>?_);o_head Mj i3 ?_;o_head d8 inv (by omega) (λ_ _ _ _ _ h=>h) ⟨_,rfl⟩ (ah.refl _) ?_;unfold aW;rw[wa,wu,wc hj]
     rfl
   . intro D ys H2 hn S2 hD hl hr
     have hys:ys=(aW xs).map V.int:=TQ (by rw[hl,hul];unfold aW;rw[wm]) hr;subst hys;o_head AU (.of hD) (λl3 H3 n3 S3 e3=>?_);have i3:Is K H3 (.ref l3) (TZ (aW xs)):=p9.mpr ⟨l3,rfl,.of e3⟩;have T3:=S2.trans S3;o_head lF (cF.mpr ⟨lr,us,rfl,.of (T3 _ _ e1),ak.same T3 _ _ t1⟩) (λl4 H4 us4 n4 S4 e4 t4=>?_);rw[Gr,<- xc]at t4;o_head jC (.of e4) (o0:=none) (tl:=[]) rfl (λj y H'=>Is K H' y (N ((bA xs).getD j 0))) ?_ ?_
     . intro D' j x ys o H5 hx inv
       obtain⟨hj,ix⟩:=jq t4 hx;have hj2:j<(bA xs).length:=by rw[wm]at hj;exact hj
       have hj8:(bA xs).length<=8:=by unfold bA;rw[Xl];omega
       rw[wa,wu,wc (show j<(aj xs).dropLast.length from hj2)]at ix;have ix5:Is K H5 x (j5 xs (bA xs)[j]):=ix.by inv.same;o_head aA (j:=0) ix5 rfl (λv6 i6=>?_);o_head d8 inv (by omega) fL ⟨_,rfl⟩ (ah.refl _) ?_;rw[wa,wc hj2];exact i6
     . intro D' zs H5 hn5 S5 hD5 hl5 hr5
       have hu4:=t4.length;rw[wm]at hu4;have tz:ak K H5 zs ((bA xs).map N):=fY (by rw[hl5,hu4];rfl) hr5;o_head iM (dF hD5 tz) (λv6 H6 S6 i6=>?_);o_head cB (ds:=[TZ (aW xs),TN (bA xs)]) (by simp) (.cons (i3.by (S4.trans (S5.trans S6))) (.cons i6 .nil)) (λv7 H7 S7 i7=>?_);exact q z v7 H7 (S1.trans (T3.trans (S4.trans (S5.trans (S6.trans S7))))) i7
theorem zyU(h:Cm m xs)(i j:Nat):ag (m+2) (xs.getD i 0+(1-xs.getD j 0)):=by
 obtain⟨B,h0,h1,h2⟩:=h
 have key:∀i,∃t:Int,xs.getD i 0=wB t B/\Bd m t:=λi=>by
  rcases wA i xs.length with q | q
  ·rw[wa,wc q]
   exact h2 _ (vK q)
  ·rw[wa,wL q]
   exact⟨0,by simp,⟨by simp;exact Wi m⟩⟩
 obtain⟨t,et,bt⟩:=key i;obtain⟨z,ez,bz⟩:=key j
 have e2:wB t B+(1-wB z B)=wB (t+B-z) B:=by
  symm
  refine gj (by omega) ?_;have q1:=de t (show B≠0 by omega);have q2:=de z (show B≠0 by omega);have q3:((t+B-z:Int):Rat)=(t:Rat)+(B:Rat)-(z:Rat):=by push_cast;rfl
  rw[q3,<- q1,<- q2]
  grind
 rw[et,ez,e2];exact ag.divInt (by omega) (((bt.add h1).sub bz).mono (by omega)) (h1.mono (by omega))
def OL(K:wb):Sp:=λvs H Q _=>∃x0 x1 x2 x3,vs=[x0,x1,x2,x3] /\ ∃(a b:Rat)(n i:Int)(xs:List Rat)(m:Nat),x1=.int n/\x3=.int i/\Is K H x0 (R a b)/\Is K H x2 (LN xs)/\ag 10 a/\ag 10 b/\0<=n/\n<=64/\0<=i/\i<xs.length/\xs.length<=100/\Cm m xs/\m<=8000 /\
 ∀l H' us,H l=none->ah H H'->H' l=some (.lst us)->ak K H' us ((dM a b n.toNat xs i.toNat).map N)->Q (.ref l) H'
theorem zlH{a:Rat}{n i:Int}{w:V}(h1:Is K H v (R a b))(h2:Is K H w (LN xs))(b1:ag 10 a)(b2:ag 10 b)(h0:0<=n)(h64:n<=64)(i0:0<=i)(i1:i<xs.length)(hl:xs.length<=100)(hm:Cm m xs)(hm2:m<=8000)
  (q:∀l H' us,H l=none->ah H H'->H' l=some (.lst us)->ak K H' us ((dM a b n.toNat xs i.toNat).map N)->Q (.ref l) H'):OL K [v,.int n,w,.int i] H Q E:=⟨_,_,_,_,rfl,a,b,n,i,xs,m,rfl,rfl,h1,h2,b1,b2,h0,h64,i0,i1,hl,hm,hm2,q⟩
theorem zlD(T:Txt K mg a):aH P w K mg base aR 4 a.Hm a.G3 tY (OL K):=by
 refine T.G_.F.ok z7 ?_ ?_;walk_at "b4"
 refine⟨_,(ar (az 4 z7.nd (au (Ax T) hr T.oP (ae (b_ (v:=.ref a.d4) rfl T.fh rfl) (ae (dJ di (pv 2) (pv 3) (λ_ _=>rfl)) af))))
     (ar (az 5 z7.nd (au (yx T) hr T.oO (ae (pv 0) (ae (pv 1) af))))
     (ar (ml (i:=6) z7.nd rfl (Or.inl rfl) rfl (cR.by (N':=["phase","push","wait"]) (src:=[none,some 5,some 4]) rfl (show dg _ (aC yU).names Ec ["phase","push","wait"] [none,some 5,some 4]=true from by decide +kernel)) (gA (pv 2)) (λ_ _ _ _ _=>(bQ (i:=0) (show(["phase","push","wait"]:List Str).Nodup from by decide) rfl (Or.inl rfl))) (λ_ _ _ _ _=>dN) (λ_ _ _ _ _=>(au (Rc (K:=K) (mg:=mg) (a:=a) T) hr T.Bt (ae (pv 1) (ae (au (gy (K:=K) (mg:=mg) (a:=a) T) hr T.fR (ae (pv 0) (ae (pv 2) af))) af)))))
     (ar (oD (b_ (v:=.ref a.dA) rfl T.dX rfl) (oX (pv 6) (pv 3) pO))
     (av (aB (pv 6))))))),?_⟩
 walk_at "cl";rw[show start Ec [x0,x1,x2,x3]=[some x0,some x1,some x2,some x3,none,none,none]from rfl];obtain⟨a',b',n,i,xs,m,rfl,rfl,hr',hx,ba,bb,h0,h64,i0,i1,hl,hm,hm2,q⟩:=h;have bi:ag 8000 (xs.getD i.toNat 0):=(hm.get _).mono hm2;have bw:ag 8002 (1-xs.getD i.toNat 0):=(ag.one.sub bi).mono (by decide);have bf:ag 700 (a'^n.toNat):=(ba.pow n.toNat).mono (by omega);have bg:ag 1500 (aE a' b' n.toNat):=(ba.aE bb n.toNat).mono (by omega);o_head kH hx i0 i1 (λv1 iv1=>?_);k_few;rename_i v2 H2 S2 iv2;refine Dg (hr'.by S2) ba bb h0 h64 (λv3 H3 S3 iv3=>?_);have T3:=S2.trans S3;have iv2':=iv2.by S3;have hx3:=hx.by T3;clear iv1 iv2 S2 S3 hx hr';k_few;obtain⟨lx,vs,rfl,hs,t⟩:=cF.mp hx3;refine jC hs (o0:=none) (tl:=[some v3,some v2]) rfl (λj v H=>Is K H v (N ((xs.map λx=>push a' b' n.toNat (x+(1-xs.getD i.toNat 0))).getD j 0))) ?_ ?_
 . rintro D j x ys o H1 hx' inv
   obtain⟨hj,ix⟩:=dD t hx';have ix1:=ix.by inv.same;have jv2:=iv2'.by inv.same;have jv3:=iv3.by inv.same;have bx:ag 8000 (xs.getD j 0):=(hm.get j).mono hm2;k_few;rename_i v4 H4 S4 iv4;refine NU (jv3.by S4) iv4 bf bg ((zyU hm j i.toNat).mono (by omega)) (λv5 H5 S5 iv5=>?_);exact d8 inv (by omega) fL ⟨_,rfl⟩ (S4.trans S5) (by rw[oA hj,ib];exact iv5)
 . rintro D ys H4 hn S4 e4 hl4 hr4
   have hvl:=t.length;rw[wm]at hvl;have hyl:ys.length=xs.length:=by omega
   clear hs t hx3 iv2' iv3;o_head zt (j:=i.toNat) e4 (by unfold iA;rw[if_pos i0,if_pos (by omega)]) (λH5 E5 e5=>?_);k_few;have hD:=jJ T3 hn;refine q D H5 _ hD ((T3.trans S4).grow hD E5) e5 (fY (by rw[VC,iF];exact hyl) λj v hv=>?_);rw[VN]at hv
   by_cases hij:i.toNat=j
   . subst hij
     rw[if_pos rfl,if_pos (by omega)]at hv;cases hv;rw[gG _ _ _ _ _ _ (by omega),if_pos rfl];exact eC 0 (T.eW _) rfl rfl
   . rw[if_neg hij]at hv
     have hj:j<xs.length:=by
       rcases wA j ys.length with z | z
       . omega
       . rw[wL z]at hv;cases hv
     have hz:=hr4 j v hv;rw[oA hj]at hz;rw[gG _ _ _ _ _ _ hj,if_neg (WE hij)];exact hz.gb (E5.keep e4)
structure cU(a b:Rat)(ns:List Int)(xs:List Rat):Prop where
 ba:ag 10 a
 bb:ag 10 b
 n0:∀n∈ns,0<=n/\n<=64
 len:ns.length=xs.length+1
 bN:ns.length<=50
 cm:∃m,Cm m xs/\m+2*ns.length+21*upTo ns ns.length<=8000
theorem El : ∀{k j:Nat},k<=j->j<=ns.length->upTo ns k<=upTo ns j:=by
 intro k j hk
 induction j with
 | zero => intro _; have : k = 0 := by omega
           subst this;exact wo _
 | succ j ih =>
   intro hj;rcases wA k (j+1)with z | z
   . rw[pG (by omega)]
     have:=ih (by omega) (by omega);omega
   . have:k=j+1:=by omega
     subst this;exact wo _
theorem cU.row{a:Rat}(h:cU a b ns xs)(hk:k<=ns.length):∃m,Cm m (aM a b ns (xs++[0]) k)/\m<=8000:=by
 obtain⟨m,hm,hm2⟩:=h.cm;refine⟨_,(hm.snoc).rows h.ba h.bb k hk,?_⟩;have:=El (ns:=ns) hk (wo _);omega
def oF(a b:Rat)(ns:List Int)(xs:List Rat):List (List Rat):=(wt (ns.length+1)).map (aM a b ns (xs++[0]))
theorem rQ(a b:Rat)(ns:List Int)(xs:List Rat):(oF a b ns xs).length=ns.length+1:=by simp[oF]
theorem yY{a:Rat}(h:k<=ns.length):(oF a b ns xs).getD k []=aM a b ns (xs++[0]) k:=by
 unfold oF;rw[wa,wu,vM (by omega)]
 rfl
def UI(K:wb):Sp:=λvs H Q _=>∃x0 x1 x2,vs=[x0,x1,x2] /\ ∃(a b:Rat)(ns:List Int)(xs:List Rat),Is K H x0 (R a b)/\Is K H x1 (TZ ns)/\Is K H x2 (TN xs)/\cU a b ns xs /\ ∀l H',ah H H'->Is K H' (.ref l) (LL (oF a b ns xs))->Q (.ref l) H'
theorem Cj{a:Rat}{w:V}(h1:Is K H v (R a b))(h2:Is K H w (TZ ns))(h3:Is K H u (TN xs))(ok:cU a b ns xs)(q:∀l H',ah H H'->Is K H' (.ref l) (LL (oF a b ns xs))->Q (.ref l) H'):UI K [v,w,u] H Q E:=⟨_,_,_,rfl,a,b,ns,xs,h1,h2,h3,ok,q⟩
theorem Cv(T:Txt K mg a):aH P w K mg base aR 5 a.sG a.Jj Av (UI K):=by
 refine T.sC.F.ok yg ?_ ?_;walk_at "b3"
 refine⟨_,(ar (az 3 yg.nd (eZ (ae (aD cC (dY (show aK _ (.type "list") (jZ K)from sf) rfl T.z_list kY (ae (pv 2) af)) (eZ (ae (b_ (v:=.ref a.dA) rfl T.dX rfl) af))) af)))
     (ar (gR vP rfl (T1 rfl T.z_enumerate (ae (pv 1) af)) (my (n:=2) rfl (gH (bQ (i:=4) yg.nd rfl (Or.inl rfl)) (gH (bQ (i:=5) yg.nd rfl (Or.inl rfl)) mh))) (av (nk (nR WT WQ WR mf (pv 3) (ae (au (zlD T) hr T.G_ (by exact(@ae _ _ _ _ _ (pv 0) (@ae _ _ _ _ _ (pv 5) (@ae _ _ _ _ _ (dJ di (pv 3) (pv 4) (λ_ _=>rfl)) (@ae _ _ _ _ _ (pv 4) af fQ) ff) fQ) fQ))) af)))))
     (av (aB (pv 3))))),?_⟩
 walk_at "cl";rw[show start NB [x0,x1,x2]=[some x0,some x1,some x2,none,none,none]from rfl];obtain⟨a',b',ns,xs,hr',hn',hp',ok,q⟩:=h;have hlen:=ok.len;have hfew:=ok.bN;o_head A6 hp' (λl1 H1 us hl1 S1 e1 t1=>?_);have hul:=t1.length;rw[wm]at hul;o_head ft (by simp) (λl2 H2 hl2 S2 e2=>?_);refine jS (S2 _ _ e1) e2 (Ve (jo (by simp;omega))) (λl3 H3 hl3 S3 e3=>?_);o_head ft (by simp) (λlt H4 hlt S4 e4=>?_);have T4:ah H H4:=S1.trans (S2.trans (S3.trans S4));have e3':=S4 _ _ e3;have ne43:l3≠lt:=λz=>by subst z;rw[e3]at hlt;cases hlt
 have t3:ak K H4 (us++[V.ref a.dA]) ((xs++[0]).map N):=by
   rw[vA];exact(ak.same (S2.trans (S3.trans S4)) _ _ t1).append (.cons (eC 0 (T.eW _) rfl rfl) .nil)
 have hD:=jJ (S1.trans (S2.trans S3)) hlt;clear hl1 hl2 hl3 S1 S2 S3 S4 e1 e2 e3 t1 hlt;k_few;obtain⟨an,rfl,hsn⟩:=p9.mp hn'
 refine zw6 (T4.jP hsn) (λk σ H'=>∃o1 o2 vs,σ = [some x0,some (.ref an),some x2,some (.ref lt),o1,o2]/\ah H H'/\H' lt=some (.lst vs)/\vs.length=k+1 /\ ∀j v,vs[j]? = some v->∃lj ws,v=.ref lj/\lj≠lt/\H' lj=some (.lst ws)/\ak K H' ws ((aM a' b' ns (xs++[0]) j).map N))
   ⟨_,_,_,rfl,T4,e4,rfl,λj v hv=>?_⟩ (λk σ H' _ ⟨_,_,_,_,s,_⟩=>s.jP hsn) ?_ ?_
 . match j,hv with
   | 0,e=>cases wM e;exact⟨l3,_,rfl,ne43,e3',t3⟩
   | j+1,e=>simp at e
 . rintro k x σ H5 t H6 hx ⟨o1,o2,vs,rfl,S5,e5,hl5,hr5⟩ ht S6 e6
   have hk:k<ns.length:=by
     rcases wA k ns.length with z | z
     . exact z
     . rw[wL (by simpa using z)]at hx;cases hx
   have hxv:x=.int (ns.getD k 0):=by
     rw[wu,wc hk]at hx;rw[wa,wc hk];exact(wM hx).symm
   subst hxv;have hnk:=ok.n0 (ns.getD k 0) (by rw[wa,wc hk];exact vK hk);refine lZ (.of e6) rfl ?_;k_few;have e5':=S6 _ _ e5;refine lO (aQ.of e5') ?_;k_few;have hkv:∃v,vs[k]? = some v:=⟨vs[k]'(by omega),wc (by omega)⟩;obtain⟨v,hv⟩:=hkv;obtain⟨lk,ws,rfl,nek,ek,tk⟩:=hr5 k v hv;refine iQ (aQ.of e5') (kP hv) ?_;k_few;obtain⟨m,hm,hm2⟩:=ok.row (k:=k) (by omega);have hrl:=c_ a' b' ns (xs++[0]) k;rw[wR]at hrl;have T6:=S5.trans S6;refine zlH (hr'.by T6) (dF (S6 _ _ ek) (ak.same S6 _ _ tk)) ok.ba ok.bb hnk.1 hnk.2 (by omega) (by rw[hrl];simp;omega) (by rw[hrl];simp;omega) hm hm2 (λl7 H7 us7 hl7 S7 e7 t7=>?_);have e5'':=S7 _ _ e5';have ne7:l7≠lt:=λz=>by subst z;rw[e5']at hl7;cases hl7
   o_head lX e5'' (by omega) (λH8 E8 e8=>?_);have K8:bG H7 H8:=E8.keep e5'';refine⟨_,_,_,rfl,(T6.trans S7).grow hD E8,e8,by simp[hl5],λj v hv=>?_⟩;rcases wA j vs.length with z | z
   . rw[vI z]at hv
     obtain⟨lj,wj,rfl,nej,ej,tj⟩:=hr5 j v hv;exact⟨lj,wj,rfl,nej,E8 _ _ nej (S7 _ _ (S6 _ _ ej)),ak.keep (S6.keep.trans (S7.keep.trans K8)) _ _ (gD _) tj⟩
   . have hj:j=vs.length:=by
       rcases wA vs.length j with q | q
       . rw[wL (by simp;omega)]at hv;cases hv
       . omega
     subst hj;rw[vi (wo _),Vf]at hv;cases wM hv;rw[hl5];refine⟨l7,us7,rfl,ne7,E8 _ _ ne7 e7,ak.keep K8 _ _ (gD _) ?_⟩;rw[aM]
     simpa using t7
 . rintro σ H5 ⟨o1,o2,vs,rfl,S5,e5,hl5,hr5⟩
   o_head q lt H5 S5 (cF.mpr ⟨lt,vs,rfl,.of e5,M_ (by rw[hl5,rQ];simp) λj v hv=>?_⟩)
   have hj:j<vs.length:=by
     rcases wA j vs.length with z | z
     . exact z
     . rw[wL z]at hv;cases hv
   obtain⟨lj,wj,rfl,nej,ej,tj⟩:=hr5 j v hv;rw[yY (by simp at hl5;omega)];exact dF ej tj
def cK(a b:Rat)(ns:List Int)(xs:List Rat):List Rat:=(aM a b ns (xs++[0]) ns.length).dropLast
def MH(K:wb):Sp:=λvs H Q _=>∃x0 x1 x2,vs=[x0,x1,x2] /\ ∃(a b:Rat)(ns:List Int)(xs:List Rat),Is K H x0 (R a b)/\Is K H x1 (TZ ns)/\Is K H x2 (TN xs)/\cU a b ns xs /\ ∀v H',ah H H'->Is K H' v (TN (cK a b ns xs))->Q v H'
theorem Uz{a:Rat}{w:V}(h1:Is K H v (R a b))(h2:Is K H w (TZ ns))(h3:Is K H u (TN xs))(ok:cU a b ns xs)(q:∀v H',ah H H'->Is K H' v (TN (cK a b ns xs))->Q v H'):MH K [v,w,u] H Q E:=⟨_,_,_,rfl,a,b,ns,xs,h1,h2,h3,ok,q⟩
theorem K0(T:Txt K mg a):aH P w K mg base aR 6 a.HP a.G8 tE (MH K):=by
 refine T.Bp.F.ok zmy ?_ ?_;walk_at "b3";refine⟨_,(av (aB (dY (show aK _ (.type "tuple") (eS K)from fZ) rfl T.z_tuple d5 (ae (jQ j8 (dJ di (au (Cv T) hr T.sC (ae (pv 0) (ae (pv 1) (ae (pv 2) af)))) (gI gB ay) (λ_ _=>rfl)) j4 (j3 (gI gB ay))) af)))),?_⟩;walk_at "cl";rw[show start C6 [x0,x1,x2]=[some x0,some x1,some x2]from rfl];obtain⟨a',b',ns,xs,hr',hn',hp',ok,q⟩:=h;o_head Cj hr' hn' hp' ok (λl H1 S1 i1=>?_);o_head zwJ i1 (by rw[rQ];omega) (λv2 i2=>?_);rw[rQ,qZ,yY (wo _)]at i2;o_head lF i2 (λl3 H3 ys hn3 S3 e3 t3=>?_);rw[Gr,<- xc]at t3;o_head iM (dF e3 t3) (λw H4 S4 i4=>?_);exact q w H4 (S1.trans (S3.trans S4)) i4
theorem LC{a:Rat}(ok:cU a b ns xs)(c:Cm m xs)(hm:m+2*ns.length+21*upTo ns ns.length<=8000)(hk:k<=ns.length):Cm 8000 (eO a b ns (xs++[0]) k::aM a b ns (xs++[0]) k):=by
 have h1:=El (ns:=ns) hk (wo _);exact(c.snoc.BM ok.ba ok.bb (ns:=ns) k hk).mono (by omega)
def Yn(K:wb):Sp:=λvs H Q _=>∃x0 x1 x2,vs=[x0,x1,x2] /\ ∃(a b:Rat)(ns:List Int)(xs:List Rat)(m:Nat),Is K H x0 (R a b)/\Is K H x1 (TZ ns)/\Is K H x2 (TN xs)/\cU a b ns xs/\Cm m xs/\m+2*ns.length+21*upTo ns ns.length<=8000 /\ ∀v H',ah H H'->Is K H' v (N (fu a b ns xs))->Q v H'
theorem zox{a:Rat}{w:V}(h1:Is K H v (R a b))(h2:Is K H w (TZ ns))(h3:Is K H u (TN xs))(ok:cU a b ns xs)(hm:Cm m xs)(hm2:m+2*ns.length+21*upTo ns ns.length<=8000)(q:∀v H',ah H H'->Is K H' v (N (fu a b ns xs))->Q v H'):Yn K [v,w,u] H Q E:=⟨_,_,_,rfl,a,b,ns,xs,m,h1,h2,h3,ok,hm,hm2,q⟩
theorem zoH(T:Txt K mg a):aH P w K mg base aR 6 a.Je a.Ho zr (Yn K):=by
 refine T.HL.F.ok rk ?_ ?_;walk_at "b3"
 refine⟨_,(ar (az 3 rk.nd (b_ (v:=.ref a.dA) rfl T.dX rfl))
     (ar (az 4 rk.nd (au (Cv T) hr T.sC (ae (pv 0) (ae (pv 1) (ae (pv 2) af)))))
     (ar (gR vP rfl (kc rfl T.z_range (ae (bE (show aK _ (.builtin "len") (dj K)from eA) rfl T.z_len dU (ae (pv 1) af)) af)) (bQ (i:=5) rk.nd rfl (Or.inl rfl)) (av (az 3 rk.nd (au (gy T) hr T.fR (ae (pv 3) (ae (au (Ax T) hr T.oP (ae (b_ (v:=.ref a.d4) rfl T.fh rfl) (ae (dJ di (dJ di (pv 4) (pv 5) (λ_ _=>rfl)) (pv 5) (λ_ _=>rfl)) af))) af))))))
     (av (aB (pv 3)))))),?_⟩
 walk_at "cl";rw[show start Yq [x0,x1,x2]=[some x0,some x1,some x2,none,none,none]from rfl];obtain⟨a',b',ns,xs,m,hr',hn',hp',ok,hm,hm2,q⟩:=h;o_head Cj hr' hn' hp' ok (λl H1 S1 i1=>?_);o_head Cu (hn'.by S1) ?_;have hlen:=ok.len;have hfew:=ok.bN;refine lI (n:=(ns.length:Int)) (by omega) (by omega) (λk σ H'=>∃v o,σ = [some x0,some x1,some x2,some v,some (.ref l),o]/\ah H1 H'/\Is K H' v (N (eO a' b' ns (xs++[0]) k))) ⟨_,_,rfl,ah.refl _,eC 0 (T.eW _) rfl rfl⟩ ?_ ?_
 . rintro k σ H2 hk ⟨v,o,rfl,S2,iv⟩
   have hk':k<ns.length:=by simpa using hk
   have c:=LC ok hm hm2 (k:=k) (by omega);have b1:ag 8000 (eO a' b' ns (xs++[0]) k):=c.d_ (wz ..);have b2:ag 8000 ((aM a' b' ns (xs++[0]) k).getD k 0):=(lB c λy hy=>wy _ hy).get k;have b4:ag 8002 (1-(aM a' b' ns (xs++[0]) k).getD k 0):=(ag.one.sub b2).mono (by decide);have i2:=i1.by S2;o_head NK i2 (by omega) (by rw[rQ];omega) (λv3 i3=>?_);rw[wP,yY (by omega)]at i3;o_head kH i3 (by omega) (by rw[c_,wR];simp;omega) (λv4 i4=>?_);rw[wP]at i4;k_few;exact⟨_,_,rfl,S2.trans (ah.trans (by assumption) (by assumption)),by assumption⟩
 . rintro σ H2 ⟨v,o,rfl,S2,iv⟩
   k_few;exact q _ _ (S1.trans S2) iv
def dE(a b:Rat)(ns:List Int)(xs:List Rat):List Rat:=(wt ns.length).map λk=>(aM a b ns (xs++[0]) (k+1)).getD ((k+1) % ns.length) 0
theorem iY(a b:Rat)(ns:List Int)(xs:List Rat):(dE a b ns xs).length=ns.length:=by simp[dE]
theorem kr{a:Rat}(h:k<ns.length):(dE a b ns xs).getD k 0=(aM a b ns (xs++[0]) (k+1)).getD ((k+1) % ns.length) 0:=by
 unfold dE;rw[wa,wu,vM h]
 rfl
def TL(K:wb):Sp:=λvs H Q _=>∃x0 x1 x2,vs=[x0,x1,x2] /\ ∃(a b:Rat)(ns:List Int)(xs:List Rat),Is K H x0 (R a b)/\Is K H x1 (TZ ns)/\Is K H x2 (TN xs)/\cU a b ns xs /\ ∀v H',ah H H'->Is K H' v (TN (dE a b ns xs))->Q v H'
theorem UY{a:Rat}{w:V}(h1:Is K H v (R a b))(h2:Is K H w (TZ ns))(h3:Is K H u (TN xs))(ok:cU a b ns xs)(q:∀v H',ah H H'->Is K H' v (TN (dE a b ns xs))->Q v H'):TL K [v,w,u] H Q E:=⟨_,_,_,rfl,a,b,ns,xs,h1,h2,h3,ok,q⟩
theorem Ye(T:Txt K mg a):aH P w K mg base aR 6 a.iI a.J_ z9 (TL K):=by
 refine T.BK.F.ok C5 ?_ ?_;walk_at "b3"
 refine⟨_,(ar (az 3 C5.nd (au (Cv T) hr T.sC (ae (pv 0) (ae (pv 1) (ae (pv 2) af)))))
     (ar (az 4 C5.nd (bE (show aK _ (.builtin "len") (dj K)from eA) rfl T.z_len dU (ae (pv 1) af)))
     (av (aB (dY (show aK _ (.type "tuple") (eS K)from fZ) rfl T.z_tuple d5 (ae (d7 rfl (cR.by (N':=["turn","rows","count"]) (src:=[none,some 3,some 4]) rfl (show dg _ (aC tN).names FK ["turn","rows","count"] [none,some 3,some 4]=true from by decide +kernel)) (kc rfl T.z_range (ae (pv 4) af)) (λ_ _ _ _ _=>(bQ (i:=0) (show(["turn","rows","count"]:List Str).Nodup from by decide) rfl (Or.inl rfl))) (λ_ _ _ _ _=>dN) (λ_ _ _ _ _=>(dJ (show gP _ (dy K)from di) (dJ (show gP _ (dy K)from di) (pv 1) (aD cC (pv 0) ay) (λ_ _=>rfl)) (aD gQ (aD cC (pv 0) ay) (pv 2)) (λ_ _=>rfl)))) af)))))),?_⟩
 walk_at "cl";rw[show start FK [x0,x1,x2]=[some x0,some x1,some x2,none,none]from rfl];obtain⟨a',b',ns,xs,hr',hn',hp',ok,q⟩:=h;have hlen:=ok.len;have hfew:=ok.bN;o_head Cj hr' hn' hp' ok (λl H1 S1 i1=>?_);o_head Cu (hn'.by S1) ?_;o_head Z3 (n:=(ns.length:Int)) (by omega) (by omega) (o0:=none) (tl:=[some (.ref l),some (.int (ns.length:Int))]) rfl (λi v H=>Is K H v (N ((dE a' b' ns xs).getD i 0))) ?_ ?_
 . rintro D i ys o H2 hi inv
   have hi':i<ns.length:=by simpa using hi
   have i2:=i1.by inv.same;have hn0:(0:Int)<(ns.length:Int):=by omega
   o_head NK i2 (by omega) (by rw[rQ];omega) (λv3 i3=>?_);rw[show((i:Int)+1).toNat=i+1 by omega,yY (by omega)]at i3;k_few;have e:((i:Int)+1) % (ns.length:Int)=(((i+1) % ns.length:Nat):Int):=by push_cast;rfl
   have hm:(i+1) % ns.length<ns.length:=qm _ (by omega);rw[e];refine kH i3 (by omega) (by rw[c_,wR];simp;omega) (λv4 i4=>?_);rw[wP,<- kr hi']at i4;exact d8 inv (by omega) fL ⟨_,rfl⟩ (ah.refl _) i4
 . rintro D ys H2 hn S2 e2 hl2 hr2
   o_head iM (dF e2 (fY (by rw[hl2,iY];simp) hr2)) (λw H3 S3 i3=>?_);exact q w H3 (S1.trans (S2.trans S3)) i3
theorem Aq{bs:List Bool}{zs:List V}(hl:zs.length=bs.length)(h:∀j z,zs[j]? = some z->z=V.bl (bs.getD j true)):zs=bs.map V.bl:=by
 refine WN (by rw[wm];exact hl) λi h1 h2=>?_
 rw[h i _ (wc h1),Vp,wa,wc (by omega)]
 rfl
def dH(xs:List Rat):List Rat:=[1]++xs++[0]
theorem yR(xs:List Rat):(dH xs).length=xs.length+2:=by simp[dH]
def nH(xs:List Rat):List Bool:=(wt (xs.length+1)).map λi=>decide ((dH xs).getD (i+1) 0<(dH xs).getD i 0)
def lE(ts:List Rat):List Bool:=ts.map λx=>decide (x<1)
def dG(a b:Rat)(ns:List Int)(xs:List Rat):Bool:=(nH xs).all id&&(lE (dE a b ns xs)).all id
theorem zup(h:i<xs.length+1):(nH xs).getD i true=decide ((dH xs).getD (i+1) 0<(dH xs).getD i 0):=by
 unfold nH;rw[wa,wu,vM h]
 rfl
theorem ZM{ts:List Rat}(h:i<ts.length):(lE ts).getD i true=decide (ts.getD i 0<1):=by
 unfold lE;rw[wa,wu,wa,wc h]
 rfl
theorem RB(h:Cm m xs)(i:Nat):ag m ((dH xs).getD i 0):=by
 unfold dH;rcases XT i with rfl | hi
 ·exact ag.one.mono h.pos
 ·obtain⟨j,rfl⟩:∃j,i=j+1:=⟨i-1,by omega⟩
  exact h.snoc.get j
theorem Pn{a:Rat}(ok:cU a b ns xs)(hi:i<ns.length):ag 8000 ((dE a b ns xs).getD i 0):=by
 rw[kr hi];obtain⟨m,hm,hm2⟩:=ok.row (k:=i+1) (by omega);exact(hm.get _).mono hm2
def UC(K:wb):Sp:=λvs H Q _=>∃x0 x1 x2,vs=[x0,x1,x2] /\ ∃(a b:Rat)(ns:List Int)(xs:List Rat),Is K H x0 (R a b)/\Is K H x1 (TZ ns)/\Is K H x2 (TN xs)/\cU a b ns xs /\ ∀H',ah H H'->Q (.bl (dG a b ns xs)) H'
theorem pR{a:Rat}{w:V}(h1:Is K H v (R a b))(h2:Is K H w (TZ ns))(h3:Is K H u (TN xs))(ok:cU a b ns xs)(q:∀H',ah H H'->Q (.bl (dG a b ns xs)) H'):UC K [v,w,u] H Q E:=⟨_,_,_,rfl,a,b,ns,xs,h1,h2,h3,ok,q⟩
theorem rJ(T:Txt K mg a):aH P w K mg base aR 7 a.JZ a.Jd tZ (UC K):=by
 refine T.mO.F.ok RU ?_ ?_;walk_at "b3"
 refine⟨_,(ar (az 3 RU.nd (aD cC (aD cC (eZ (ae (b_ (v:=.ref a.d4) rfl T.fh rfl) af)) (dY (show aK _ (.type "list") (jZ K)from sf) rfl T.z_list kY (ae (pv 2) af))) (eZ (ae (b_ (v:=.ref a.dA) rfl T.dX rfl) af))))
     (ar (bR (cW (cz (bE (show aK _ (.builtin "all") (kK K)from oK rfl) rfl T.z_all oE (ae (d7 rfl (cR.by (N':=["upper","lower"]) (src:=[none,none]) rfl (show dg _ (aC sa).names AD ["upper","lower"] [none,none]=true from by decide +kernel)) (SI rfl T.z_zip (ae (pv 3) (ae (jQ j8 (pv 3) (j3 ay) j4) af))) (λ_ _ _ _ _=>by exact(show PG _ _ (lP K 2 _)from my (n:=2) rfl (gH (bQ (i:=0) (show(["upper","lower"]:List Str).Nodup from by decide) rfl (Or.inl rfl)) (gH (bQ (i:=1) (show(["upper","lower"]:List Str).Nodup from by decide) rfl (Or.inl rfl)) mh)))) (λ_ _ _ _ _=>dN) (λ_ _ _ _ _=>(au (gO (K:=K) (mg:=mg) (a:=a) T) hr T.gn (ae (pv 1) (ae (pv 0) af))))) af)))) (av (aB eF)) bS)
     (av (aB (bE (show aK _ (.builtin "all") (kK K)from oK rfl) rfl T.z_all oE (ae (d7 rfl (cR.by (N':=["top"]) (src:=[none]) rfl (show dg _ (aC sa).names AD ["top"] [none]=true from by decide +kernel)) (j9 (au (Ye T) hr T.BK (ae (pv 0) (ae (pv 1) (ae (pv 2) af))))) (λ_ _ _ _ _=>(bQ (i:=0) (show(["top"]:List Str).Nodup from by decide) rfl (Or.inl rfl))) (λ_ _ _ _ _=>dN) (λ_ _ _ _ _=>(au (gO (K:=K) (mg:=mg) (a:=a) T) hr T.gn (ae (pv 0) (ae (b_ (v:=.ref a.d4) rfl T.fh rfl) af))))) af)))))),?_⟩
 walk_at "cl";rw[show start AD [x0,x1,x2]=[some x0,some x1,some x2,none]from rfl];obtain⟨a',b',ns,xs,hr',hn',hp',ok,q⟩:=h;have hlen:=ok.len;have hfew:=ok.bN;obtain⟨m,hcm,hcm2⟩:=ok.cm;o_head ft (by simp) (λl0 H1 n1 S1 e1=>?_);o_head A6 (hp'.by S1) (λl1 H2 us n2 S2 e2 t2=>?_);have hul:=t2.length;rw[wm]at hul;refine jS (S2 _ _ e1) e2 (Ve (jo (by simp;omega))) (λl2 H3 n3 S3 e3=>?_);o_head ft (by simp) (λl3 H4 n4 S4 e4=>?_);refine jS (S4 _ _ e3) e4 (Ve (jo (by simp;omega))) (λl5 H5 n5 S5 e5=>?_);have T5:ah H H5:=S1.trans (S2.trans (S3.trans (S4.trans S5)))
 have t5:ak K H5 ([V.ref a.d4]++us++[V.ref a.dA]) ((dH xs).map N):=by
   unfold dH;rw[vA,vA];exact(ak.append (.cons (eC 1 (T.sL _) rfl rfl) .nil) (ak.same (S3.trans (S4.trans S5)) _ _ t2)).append (.cons (eC 0 (T.eW _) rfl rfl) .nil)
 have ir5:=hr'.by T5;have in5:=hn'.by T5;have ip5:=hp'.by T5;clear n1 n2 n3 n4 n5 S1 S2 S3 S4 S5 e1 e2 e3 e4 t2 hr' hn' hp';generalize [V.ref a.d4]++us++[V.ref a.dA]=ws at e5 t5;have hws:=t5.length;rw[wm,yR]at hws;o_head lF (dF e5 t5) (λl6 H6 ys n6 S6 e6 t6=>?_);rw[show(1:Int)=((1:Nat):Int)from rfl,zy7 _ _ (by rw[wm,yR];omega),<- Xo]at t6;have hys:=t6.length;rw[wm,vR,yR]at hys;have e56:=S6 _ _ e5;have t56:=ak.same S6 _ _ t5;have T6:=T5.trans S6;have ir6:=ir5.by S6;have in6:=in5.by S6;have ip6:=ip5.by S6;clear ir5 in5 ip5 T5 S6 e5 t5 n6;o_head zym (t:=false) (u:=false) (aQ.of e56) (aQ.of e6) (by omega) (o0:=none) (o0':=none) (tl:=[]) rfl (λi v H=>v=V.bl ((nH xs).getD i true)) (λ_ _ _ _ _ h=>h) ?_ ?_
 . rintro D i x y zs o1 o2 H7 c hx hy inv e7
   obtain⟨hi,ix⟩:=dD t56 hx;obtain⟨hj,iy⟩:=dD t6 hy;rw[vR,yR]at hj
   have ed:((dH xs).drop 1).getD i 0=(dH xs).getD (i+1) 0:=by
     rw[wa,Q0,wa,QC]
   rw[ed]at iy;have S7:=inv.2.2.1;have b1:ag 8000 ((dH xs).getD i 0):=(RB hcm i).mono (by omega);have b2:ag 8000 ((dH xs).getD (i+1) 0):=(RB hcm (i+1)).mono (by omega);refine MQ (lZ (.of e7) rfl ?_);have ix7:=ix.by S7;have iy7:=iy.by S7;k_few;exact yd inv (by omega) (λ_ _ _ _ _ h=>h) ⟨_,_,rfl⟩ (ah.refl _) (by rw[zup (by omega)])
 . rintro D zs H7 hn S7 e7 hl7 hr7
   have hz:=Aq (bs:=nH xs) (by unfold nH;rw[wm,vx];omega) hr7;rw[hz]at e7;o_head l_ (.of e7) ?_;k_few
   . rename_i z
     have ef:dG a' b' ns xs=false:=by unfold dG;rw[z];rfl
     rw[<- ef];exact q _ (T6.trans S7)
   . rename_i z
     have ef:dG a' b' ns xs=(lE (dE a' b' ns xs)).all id:=by unfold dG;rw[z];rfl
     rw[ef]at q;refine UY (ir6.by S7) (in6.by S7) (ip6.by S7) ok (λv8 H8 S8 i8=>?_);have T8:=T6.trans (S7.trans S8);obtain⟨a8,us8,rfl,hs8,t8⟩:=bX.mp i8;have hl8:=t8.length;rw[wm,iY]at hl8;refine jz hs8 (o0:=none) (tl:=[]) rfl (λi v H=>v=V.bl ((lE (dE a' b' ns xs)).getD i true)) ?_ ?_
     . rintro D i x ys' o H9 hx inv
       obtain⟨hi,ix⟩:=dD t8 hx;rw[iY]at hi;have ix9:=ix.by inv.same;have b1:ag 8000 ((dE a' b' ns xs).getD i 0):=Pn ok hi;have b2:ag 8000 1:=ag.one.mono (by decide);k_few;exact d8 inv (by omega) (λ_ _ _ _ _ h=>h) ⟨_,rfl⟩ (ah.refl _) (by rw[ZM (by rw[iY];exact hi)])
     . rintro D ys' H9 hn9 S9 e9 hl9 hr9
       have hz':=Aq (bs:=lE (dE a' b' ns xs)) (by unfold lE;rw[wm,iY];omega) hr9;rw[hz']at e9;o_head l_ (.of e9) ?_;exact q _ (T8.trans S9)
def cP(n:Nat):List Rat:=vc n 0
theorem Ph(n i:Nat):(cP n).getD i 0=0:=by
 unfold cP;rw[wa,xu]
 split<;>rfl
theorem rT(n:Nat):Cm 1 (cP n):=by
 refine⟨1,by decide,⟨by decide⟩,λx hx=>⟨0,?_,⟨by decide⟩⟩⟩;rw[List.eq_of_mem_replicate hx]
 rfl
def Ts(K:wb):Sp:=λvs H Q _=>∃x0 x1,vs=[x0,x1] /\ ∃(a b:Rat)(ns:List Int),Is K H x0 (R a b)/\Is K H x1 (TZ ns)/\cU a b ns (cP (ns.length-1))/\0<=ns.sum/\ns.sum<=64 /\ ∀v H',ah H H'->Is K H' v (.tuple [N (a^ns.sum.toNat),TN (cK a b ns (cP (ns.length-1)))])->Q v H'
theorem rl{a:Rat}{w:V}(h1:Is K H v (R a b))(h2:Is K H w (TZ ns))(ok:cU a b ns (cP (ns.length-1)))(h0:0<=ns.sum)(h64:ns.sum<=64)(q:∀v H',ah H H'->Is K H' v (.tuple [N (a^ns.sum.toNat),TN (cK a b ns (cP (ns.length-1)))])->Q v H'):Ts K [v,w] H Q E:=⟨_,_,rfl,a,b,ns,h1,h2,ok,h0,h64,q⟩
theorem rO(T:Txt K mg a):aH P w K mg base aR 7 a.Jt a.HI Ak (Ts K):=by
 refine T.mL.F.ok DQ ?_ ?_;walk_at "b2"
 refine⟨_,(ar (az 2 DQ.nd (ao (au (yx T) hr T.oO (ae (pv 0) (ae (bE (show aK _ (.builtin "sum") (E_ K)from zw1 rfl) rfl T.z_sum U_ (ae (pv 1) af)) af)))))
     (ar (az 3 DQ.nd (dY (show aK _ (.type "tuple") (eS K)from fZ) rfl T.z_tuple d5 (ae (d7 rfl (cR.by (N':=["size"]) (src:=[none]) rfl (show dg _ (aC AF).names DV ["size"] [none]=true from by decide +kernel)) (j9 (jQ j8 (pv 1) (j3 ay) j4)) (λ_ _ _ _ _=>(bQ (i:=0) (show(["size"]:List Str).Nodup from by decide) rfl (Or.inl rfl))) (λ_ _ _ _ _=>dN) (λ_ _ _ _ _=>(b_ (v:=.ref a.dA) rfl T.dX rfl))) af)))
     (av (aB (br (ae (pv 2) (ae (au (K0 T) hr T.Bp (ae (pv 0) (ae (pv 1) (ae (pv 3) af)))) af))))))),?_⟩
 walk_at "cl";rw[show start DV [x0,x1]=[some x0,some x1,none,none]from rfl];obtain⟨a',b',ns,hr',hn',ok,h0,h64,q⟩:=h;have hlen:=ok.len;have hfew:=ok.bN;o_head zzD hn' ?_;o_head Dg hr' ok.ba ok.bb h0 h64 (λv1 H1 S1 i1=>?_);k_few;rename_i v2 i2;have hn1:Is K H1 x1 (.tuple (ns.map PyData.int)):=hn'.by S1;refine Ng hn1 ?_ (λv3 H3 S3 i3=>?_)
 . rintro ⟨e,_⟩
   have e':min 1 (ns.map PyData.int).length=0:=e;rw[wm]at e';omega
 rw[Gf]at i3;obtain⟨a3,vs3,rfl,hs3,t3⟩:=bX.mp i3;have hl3:=t3.length;rw[Qv,wm]at hl3;have hzl:(cP (ns.length-1)).length=ns.length-1:=Wx ..;o_head jz hs3 (o0:=none) (tl:=[]) rfl (λi v H=>Is K H v (N ((cP (ns.length-1)).getD i 0))) ?_ ?_
 . rintro D i x ys o H4 hx inv
   have hi:i<vs3.length:=by
     rcases wA i vs3.length with z | z
     . exact z
     . rw[wL z]at hx;cases hx
   k_few;exact d8 inv (by omega) fL ⟨_,rfl⟩ (ah.refl _) (by rw[Ph];exact eC 0 (T.eW _) rfl rfl)
 . rintro D ys H4 hn4 S4 e4 hl4 hr4
   o_head iM (dF (xs:=cP (ns.length-1)) e4 (fY (by omega) hr4)) (λv5 H5 S5 i5=>?_);have T5:ah H1 H5:=S3.trans (S4.trans S5);o_head Uz ((hr'.by S1).by T5) ((hn'.by S1).by T5) i5 ok (λv6 H6 S6 i6=>?_);k_few;exact cB (by simp) (.cons (i2.by (T5.trans S6)) (.cons i6 .nil)) (λv H' S h=>q v H' (S1.trans (T5.trans (S6.trans S))) h)
def cQ(a b:Rat)(ns:List Int):List Rat:=(cK a b ns (cP (ns.length-1))).map (λs=>s / (1-a^ns.sum.toNat))
theorem mI{a:Rat}(h:ns.length=xs.length+1):(cK a b ns xs).length=xs.length:=by
 unfold cK;rw[Xl,c_];simp
theorem DI{a:Rat}(h:ns.length=xs.length+1)(hi:i<xs.length):(cK a b ns xs).getD i 0=(aM a b ns (xs++[0]) ns.length).getD i 0:=by
 unfold cK;have hl:(aM a b ns (xs++[0]) ns.length).length=xs.length+1:=by rw[c_];simp
 rw[wa,wa,List.getElem?_dropLast,if_pos (by omega)]
theorem ER(h:i<xs.length):(xs++[0]).getD i 0=xs.getD i 0:=by
 rw[wa,wa,vI h]
theorem pL : (xs++[0]).getD xs.length 0=0:=by
 rw[wa,vi (wo _),Vf]
 rfl
theorem Yk:∀{ns:List Int},(∀n∈ns,0<=n)->((ns.map xD).sum:Int)=ns.sum
 | [],_=>rfl
 | n::ns,h=>by
  have h1:=Yk (ns:=ns) λm hm=>h m (wy _ hm)
  have h2:=h n (wz ..);rw[vd,Vk,Vk];omega
theorem Tc(h:∀n∈ns,0<=n):upTo ns ns.length=ns.sum.toNat:=by
 have:=Yk h;unfold GM.upTo;rw[Wr];omega
theorem zoF{a:Rat}(h:ns.length=xs.length+1)(hn:∀n∈ns,0<=n)(hi:i<xs.length):(cK a b ns xs).getD i 0=a^ns.sum.toNat*xs.getD i 0+(cK a b ns (cP (ns.length-1))).getD i 0:=by
 have hz:(cP (ns.length-1)).length=xs.length:=by unfold cP;rw[Wx];omega
 have hu:=Tc hn;rw[DI h hi,DI (by omega) (by omega)];have hr:=CV a b ns (xs++[0]) (cP (ns.length-1)++[0]) (by simp[hz]) (by simp[h]) xs.length (by simp) (by rw[pL];rw[<- hz,pL]) ns.length (wo _) i (by simp;omega);rw[if_neg (by omega),show ns.length-1=xs.length by omega]at hr;rw[show ns.length-1=xs.length by omega]at hz ⊢;rw[pL,ER hi,ER (by omega),Ph,hu]at hr
 have hl0:(cP xs.length++[0]).getD xs.length 0=0:=by
  have:=pL (xs:=cP xs.length);rw[hz]at this;exact this
 rw[hl0]at hr
 grind
theorem rn{a:Rat}(h:1<=ns.length):(cQ a b ns).length=ns.length-1:=by
 unfold cQ;rw[wm,mI (by unfold cP;rw[Wx];omega)];unfold cP;rw[Wx]
theorem Pc{a:Rat}(h:i<(cQ a b ns).length):(cQ a b ns).getD i 0=(cK a b ns (cP (ns.length-1))).getD i 0 / (1-a^ns.sum.toNat):=by
 unfold cQ at *;rw[wm]at h;rw[wa,wu,wa,wc h];rfl
theorem KO{g:Rat}(h:Cm m xs)(bg:ag n g)(hg:g≠0):Cm (m+n) (xs.map (λs=>s / g)):=by
 obtain⟨B,h0,bB,hx⟩:=h;have hgn:=yk hg
 have key:∀(t:Int),wB t B / g=wB (t*(g.den:Int)) (B*g.num):=by
  intro t
  conv=>lhs;rw[<- Vy g]
  rw[xN,Rat.inv_divInt,xX]
 rcases Int.lt_or_gt_of_ne hgn with z | z
 ·refine⟨B * -g.num,vQ h0 (by omega),bB.mul bg.t.neg,λx hxm=>?_⟩
  obtain⟨s,hs,rfl⟩:=wU.mp hxm;obtain⟨t,rfl,bt⟩:=hx s hs;refine⟨-(t*(g.den:Int)),?_,(bt.mul bg.b).neg⟩
  show wB t B / g=_
  rw[key t,ud,Rat.divInt_neg',Int.neg_neg]
 ·refine⟨B*g.num,vQ h0 (by omega),bB.mul bg.t,λx hxm=>?_⟩
  obtain⟨s,hs,rfl⟩:=wU.mp hxm;obtain⟨t,rfl,bt⟩:=hx s hs;exact⟨t*(g.den:Int),key t,bt.mul bg.b⟩
theorem Ci{a:Rat}(ba:ag 10 a)(bb:ag 10 b)(hm:Cm m xs):Cm (m+2*ns.length+21*upTo ns ns.length) (cK a b ns xs):=by
 obtain⟨B,h0,h1,h2⟩:=(hm.snoc).rows ba bb (ns:=ns) ns.length (wo _);exact⟨B,h0,h1,λx hx=>h2 x (List.dropLast_subset _ hx)⟩
theorem zxX{a:Rat}(ba:ag 10 a)(bb:ag 10 b)(h8:ns.length<=8)(hu:upTo ns ns.length<=8)(hs:ns.sum.toNat<=8)(hF:a^ns.sum.toNat≠1):Cm 268 (cQ a b ns):=by
 have bF:ag 81 (a^ns.sum.toNat):=(ba.pow ns.sum.toNat).mono (by omega);have bg:ag 83 (1-a^ns.sum.toNat):=(ag.one.sub bF).mono (by decide);have hg:1-a^ns.sum.toNat≠0:=λe=>hF (by grind)
 exact(KO (Ci (ns:=ns) ba bb (rT (ns.length-1))) bg hg).mono (by omega)
theorem zqZ{a:Rat}(ok:cU a b ns (cP (ns.length-1)))(h8:ns.sum<=8)(i:Nat):ag 400 ((cK a b ns (cP (ns.length-1))).getD i 0):=((Ci ok.ba ok.bb (rT _)).get i).mono (by
 have h1:=Tc (λn hn=>(ok.n0 n hn).1);have h2:=ok.bN;omega)
def MT(K:wb):Sp:=λvs H Q _=>∃x0 x1,vs=[x0,x1] /\ ∃(a b:Rat)(ns:List Int),Is K H x0 (R a b)/\Is K H x1 (TZ ns)/\cU a b ns (cP (ns.length-1))/\0<=ns.sum/\ns.sum<=8/\(a^ns.sum.toNat=1->∀H',ah H H'->Q .a_ H')/\(a^ns.sum.toNat≠1->∀v H',ah H H'->Is K H' v (TN (cQ a b ns))->Q v H')
theorem Ms{a:Rat}{w:V}(h1:Is K H v (R a b))(h2:Is K H w (TZ ns))(ok:cU a b ns (cP (ns.length-1)))(h0:0<=ns.sum)(h8:ns.sum<=8)(q1:a^ns.sum.toNat=1->∀H',ah H H'->Q .a_ H')(q2:a^ns.sum.toNat≠1->∀v H',ah H H'->Is K H' v (TN (cQ a b ns))->Q v H'):MT K [v,w] H Q E:=⟨_,_,rfl,a,b,ns,h1,h2,ok,h0,h8,q1,q2⟩
theorem Ta(T:Txt K mg a):aH P w K mg base aR 8 a.Ks a.JH yn (MT K):=by
 refine T.BH.F.ok ED ?_ ?_;walk_at "b2"
 refine⟨_,(ar (az 2 ED.nd (au (rO T) hr T.mL (ae (pv 0) (ae (pv 1) af))))
     (ar (bR (bZ (show aN _ (wT .Eq) (cO K)from dR hu) (ao (pv 2)) (b_ (v:=.ref a.d4) rfl T.fh rfl) (bC _)) (av (aB fP)) bS)
     (ar (az 3 ED.nd (au (Ax T) hr T.oP (ae (b_ (v:=.ref a.d4) rfl T.fh rfl) (ae (ao (pv 2)) af))))
     (av (aB (dY (show aK _ (.type "tuple") (eS K)from fZ) rfl T.z_tuple d5 (ae (d7 rfl (cR.by (N':=["shift","gap"]) (src:=[none,some 3]) rfl (show dg _ (aC tM).names Ey ["shift","gap"] [none,some 3]=true from by decide +kernel)) (j9 (ao (pv 2))) (λ_ _ _ _ _=>(bQ (i:=0) (show(["shift","gap"]:List Str).Nodup from by decide) rfl (Or.inl rfl))) (λ_ _ _ _ _=>dN) (λ_ _ _ _ _=>(au (Nu (K:=K) (mg:=mg) (a:=a) T) hr T.BL (ae (pv 0) (ae (pv 1) af))))) af))))))),?_⟩
 walk_at "cl";rw[show start Ey [x0,x1]=[some x0,some x1,none,none]from rfl];obtain⟨ra,rb,ns,hr',hn',ok,h0,h8,q1,q2⟩:=h;have bF:ag 100 (ra^ns.sum.toNat):=(ok.ba.pow ns.sum.toNat).mono (by omega);o_head rl hr' hn' ok h0 (by omega) (λv1 H1 S1 i1=>?_);o_head aA (j:=0) i1 rfl (λv2 i2=>?_);k_few
 . rename_i z
   exact q1 z H1 S1
 . rename_i z
   refine aA (j:=0) i1 rfl (λv3 i3=>?_);k_few;rename_i v4 H4 S4 i4;have hg:(1-ra^ns.sum.toNat)≠0:=λe=>z (by grind)
   have bg:ag 102 (1-ra^ns.sum.toNat):=(ag.one.sub bF).mono (by decide);refine aA (j:=1) (i1.by S4) rfl (λv5 i5=>?_);obtain⟨ap,us,rfl,hu,tu⟩:=bX.mp i5;refine jz (o0:=none) (tl:=[some v4]) hu rfl (λj y H'=>Is K H' y (N ((cQ ra rb ns).getD j 0))) ?_ ?_
   . intro D i x ys o H5 hx inv
     obtain⟨hi,ix⟩:=dD tu hx;have ix5:=ix.by inv.same;have i45:=i4.by inv.same
     have hi1000:i<=1000:=by
       have h1:=ok.len;have h2:=ok.bN;have h3:=mI (a:=ra) (b:=rb) (show ns.length=(cP (ns.length-1)).length+1 from ok.len);omega
     o_head SY ix5 i45 ((zqZ ok h8 i).mono (by decide)) (bg.mono (by decide)) hg (λv6 H6 S6 i6=>?_);k_few
     have e:(cQ ra rb ns).getD i 0=(cK ra rb ns (cP (ns.length-1))).getD i 0 / (1-ra^ns.sum.toNat):=by
       unfold cQ;rw[wa,wu,wa,wc hi];rfl
     exact d8 inv hi1000 fL ⟨_,rfl⟩ S6 (by rw[e];exact i6)
   . intro D ys H5 hn S5 hD hl hr5
     have hl':ys.length=(cQ ra rb ns).length:=by
       unfold cQ;rw[hl,tu.length,wm,wm]
     refine iM (dF hD (fY hl' hr5)) (λw H6 S6 i6=>?_);k_few;exact q2 z w H6 (S1.trans (S4.trans (S5.trans S6))) i6
def gf(p q:Rat)(xs ss:List Rat):List Rat:=(wt xs.length).map λi=>p*xs.getD i 0+q*ss.getD i 0
theorem oJ(p q:Rat)(xs ss:List Rat):(gf p q xs ss).length=xs.length:=by unfold gf;rw[wm,vx]
theorem S_{p q:Rat}(h:i<xs.length):(gf p q xs ss).getD i 0=p*xs.getD i 0+q*ss.getD i 0:=by
 unfold gf;rw[wa,wu,vM h];rfl
def Yu(K:wb):Sp:=λvs H Q _=>∃x0 x1 x2 x3,vs=[x0,x1,x2,x3] /\ ∃(d:wC)(p q:Rat)(xs ss:List Rat),Is K H x0 (.tuple [d,TN ss])/\Is K H x1 (TN xs)/\Is K H x2 (N p)/\Is K H x3 (N q)/\ss.length=xs.length/\xs.length<=50/\ag 2000 p/\ag 2000 q/\(∀i,ag 6900 (xs.getD i 0))/\(∀i,ag 6900 (ss.getD i 0)) /\ ∀v H',ah H H'->Is K H' v (TN (gf p q xs ss))->Q v H'
theorem Yc{d:wC}{p q':Rat}{w z:V}(h0:Is K H v (.tuple [d,TN ss]))(h1:Is K H w (TN xs))(h2:Is K H u (N p))(h3:Is K H z (N q'))(hl:ss.length=xs.length)(hf:xs.length<=50)(b1:ag 2000 p)(b2:ag 2000 q')(b3:∀i,ag 6900 (xs.getD i 0))(b4:∀i,ag 6900 (ss.getD i 0))(q:∀v H',ah H H'->Is K H' v (TN (gf p q' xs ss))->Q v H'):Yu K [v,w,u,z] H Q E:=⟨_,_,_,_,rfl,d,p,q',xs,ss,h0,h1,h2,h3,hl,hf,b1,b2,b3,b4,q⟩
theorem LO(T:Txt K mg a):aH P w K mg base aR 3 a.JX a.IE ym (Yu K):=by
 refine T.Bx.F.ok ZT ?_ ?_;walk_at "b4";refine⟨_,(av (aB (dY (show aK _ (.type "tuple") (eS K)from fZ) rfl T.z_tuple d5 (ae (d7 rfl (cR.by (N':=["place","shift","of_place","of_shift"]) (src:=[none,none,some 2,some 3]) rfl (show dg _ (aC AG).names Bh ["place","shift","of_place","of_shift"] [none,none,some 2,some 3]=true from by decide +kernel)) (zBn rfl T.z_zip (ae (pv 1) (ae (ao (pv 0)) af))) (λ_ _ _ _ _=>by exact(show PG _ _ (lP K 2 _)from my (n:=2) rfl (gH (bQ (i:=0) (show(["place","shift","of_place","of_shift"]:List Str).Nodup from by decide) rfl (Or.inl rfl)) (gH (bQ (i:=1) (show(["place","shift","of_place","of_shift"]:List Str).Nodup from by decide) rfl (Or.inl rfl)) mh)))) (λ_ _ _ _ _=>dN) (λ_ _ _ _ _=>(au (gy (K:=K) (mg:=mg) (a:=a) T) hr T.fR (ae (au (lg (K:=K) (mg:=mg) (a:=a) T) hr T.jM (ae (pv 2) (ae (pv 0) af))) (ae (au (lg (K:=K) (mg:=mg) (a:=a) T) hr T.jM (ae (pv 3) (ae (pv 1) af))) af))))) af)))),?_⟩;walk_at "cl";rw[show start Bh [x0,x1,x2,x3]=[some x0,some x1,some x2,some x3]from rfl];obtain⟨d,p,q',xs,ss,h0,h1,h2,h3,hl,hf,b1,b2,b3,b4,q⟩:=h;obtain⟨a1,us,rfl,hs1,t1⟩:=bX.mp h1;o_head aA (j:=1) h0 rfl (λv5 i5=>?_);obtain⟨a2,ws,rfl,hs2,t2⟩:=bX.mp i5;have l1:=t1.length;have l2:=t2.length;rw[wm]at l1 l2;o_head zBg (t:=true) (u:=true) hs1 hs2 (by omega) (o0:=none) (o0':=none) (tl:=[some x2,some x3]) rfl (λj y H'=>Is K H' y (N ((gf p q' xs ss).getD j 0))) fL ?_ ?_
 ·intro D j y z zs o1 o2 H7 c hy hz inv hc
  obtain⟨hj,iy⟩:=dD t1 hy;obtain⟨_,iz⟩:=dD t2 hz;have S7:=inv.2.2.1;have iy7:=iy.by S7;have iz7:=iz.by S7;have ip7:=h2.by S7;have iq7:=h3.by S7;have c1:=b3 j;have c2:=b4 j;have m1:ag 8999 (p*xs.getD j 0):=(b1.mul c1).mono (by decide);have m2:ag 8999 (q'*ss.getD j 0):=(b2.mul c2).mono (by decide);refine lZ (.of hc) rfl ?_;k_few;rename_i v8 H8 S8 i8 v9 H9 S9 i9 v10 H10 S10 i10;rw[<- S_ hj]at i10;exact yd inv (by omega) fL ⟨_,_,rfl⟩ (S8.trans (S9.trans S10)) i10
 ·intro D zs H7 hn S7 hD hl7 hr7
  have tz:ak K H7 zs ((gf p q' xs ss).map N):=fY (by rw[hl7,oJ];omega) hr7;o_head iM (dF hD tz) (λv8 H8 S8 i8=>?_);exact q v8 H8 (S7.trans S8) i8
structure dq(ns:List Int):Prop where
 some:1<=ns.length
 bN:ns.length<=8
 each:∀n∈ns,1<=n/\n<=8
 sum:ns.sum<=8
theorem tG:∀{ns:List Int},(∀n∈ns,0<=n)->((ns.map xD).sum:Int)=ns.sum
 | [],_=>rfl
 | n::ns,h=>by
  have h1:=tG (ns:=ns) λm hm=>h m (wy _ hm)
  have h2:=h n (wz ..);rw[vd,Vk,Vk];omega
theorem dq.upTo(h:dq ns):upTo ns ns.length<=8:=by
 have h1:=tG (ns:=ns) λn hn=>by have:=h.each n hn;omega
 have h2:=h.sum;unfold GM.upTo;rw[Wr];omega
def dk(a b:Rat)(ns:List Int):List Rat:=cK a b ns (cP (ns.length-1))
def cf(a b:Rat)(ns:List Int)(n:Nat)(xs:List Rat):List Rat:=(wt xs.length).map λi=>fI (a^ns.sum.toNat) ((dk a b ns).getD i 0) n (xs.getD i 0)
theorem As(n:Nat):(cP n).length=n:=Wx ..
theorem mU{a:Rat}(h:1<=ns.length):(dk a b ns).length=ns.length-1:=by
 unfold dk;rw[mI (by rw[As];omega),As]
theorem du(a b:Rat)(ns:List Int)(n:Nat)(xs:List Rat):(cf a b ns n xs).length=xs.length:=by unfold cf;rw[wm,vx]
theorem jK{a:Rat}(h:i<xs.length):(cf a b ns n xs).getD i 0=fI (a^ns.sum.toNat) ((dk a b ns).getD i 0) n (xs.getD i 0):=by
 unfold cf;rw[wa,wu,vM h];rfl
theorem DK(hl:xs.length=ys.length)(h:∀i,i<xs.length->xs.getD i 0=ys.getD i 0):xs=ys:=WN hl λi h1 h2=>by
 have:=h i h1;rw[wa,wa,wc h1,wc h2]at this;exact this
theorem kW(a b:Rat)(ns:List Int)(xs:List Rat):cf a b ns 0 xs=xs:=DK (du ..) λi hi=>by
 rw[du]at hi;rw[jK hi,zwL]
theorem pI(a b:Rat)(ns:List Int)(m n:Nat)(xs:List Rat):cf a b ns n (cf a b ns m xs)=cf a b ns (m+n) xs:=DK (by rw[du,du,du]) λi hi=>by
 rw[du,du]at hi;rw[jK (by rw[du];exact hi),jK hi,jK hi,zzu]
theorem p8{a:Rat}(h:ns.length=xs.length+1)(hn:∀n∈ns,0<=n):cf a b ns 1 xs=cK a b ns xs:=DK (by rw[du,mI h]) λi hi=>by
 rw[du]at hi;rw[jK hi,zx6,zoF h hn hi]
 rfl
structure d9(a b:Rat)(ns:List Int)(n:Nat):Prop where
 ok:aS a b
 sz:dq ns
 bN:n<=60
 k:(6*ns.sum.toNat+1+1)*n<=1600
theorem NG{a:Rat}(h:aS a b):ag 6 a:=by
 have h1:=h.a0;have h2:=h.a4;have h3:=h.ad;have n0:0<=a.num:=Qi.mpr (vT h1)
 have n1:a.num<=4*a.den:=by
  have:=(Xh a 4).mp h2
  simpa using this
 have e:(2:Nat)^6=64:=by decide
 exact⟨⟨by rw[e];omega⟩,⟨by rw[e];omega⟩⟩
theorem jB{a:Rat}(h:aS a b)(S:Nat):ag (6*S+1) (a^S):=(NG h).pow S
theorem d9.le{a:Rat}(h:d9 a b ns n)(e:m<=n):d9 a b ns m:=⟨h.ok,h.sz,Wa e h.bN,Wa (qM _ e) h.k⟩
theorem d9.pow{a:Rat}(h:d9 a b ns n)(hi:i<=n):ag 1601 ((a^ns.sum.toNat)^i):=((jB h.ok _).pow i).mono (by
 have h1:=(h.le hi).k;have h2:=Wf i (show 6*ns.sum.toNat+1<=6*ns.sum.toNat+1+1 by omega);omega)
theorem d9.aE{a:Rat}(h:d9 a b ns n)(hi:i<=n):ag 1601 (aE (a^ns.sum.toNat) 1 i):=(Pm (jB h.ok _) i).mono (by have:=(h.le hi).k;omega)
theorem nq{a:Rat}(h:aS a b)(k:dq ns):cU a b ns (cP (ns.length-1)):=⟨h.ba,h.bb,λn hn=>by have:=k.each n hn;omega,by rw[As];have:=k.some;omega,by have:=k.bN;omega,⟨1,rT _,by have:=k.bN;have:=k.upTo;omega⟩⟩
theorem Cw{a:Rat}(h:aS a b)(k:dq ns):Cm 185 (dk a b ns):=(Ci (ns:=ns) h.ba h.bb (rT (ns.length-1))).mono (by have:=k.bN;have:=k.upTo;omega)
theorem A7{a:Rat}(h:aS a b)(k:dq ns)(i:Nat):ag 185 ((dk a b ns).getD i 0):=(Cw h k).get i
theorem dq.nn(k:dq ns):∀n∈ns,0<=n:=λn hn=>by have:=k.each n hn;omega
theorem dq.pos(k:dq ns):1<=ns.sum/\ns.sum<=8:=by
 refine⟨?_,k.sum⟩;have h1:=tG k.nn;have h2:=k.some
 match ns,h2,k.each with
 | n::ns,_,he =>
  have:=he n (wz ..);rw[vd,Vk]at h1;omega
theorem rY{a:Rat}(h:aS a b){S:Nat}(hS:1<=S):a^S=1 ↔ a=1:=by
 obtain⟨m,rfl⟩:∃m,S=m+1:=⟨S-1,by omega⟩
 constructor
 ·intro e
  by_cases z:a<1
  ·have:=LJ h.a0 z m
   rw[e]at this;exact absurd this (by grind)
  ·by_cases y:a=1
   ·exact y
   ·have z3:1<a:=Qa (Vu.mp z) (WE y)
    have:=zu1 z3 m;rw[e]at this;exact absurd this (by grind)
 ·intro e
  rw[e,GM.one_pow']
theorem zwB{a:Rat}(hF:a^ns.sum.toNat≠1)(hi:i<(cQ a b ns).length):(cQ a b ns).getD i 0*(1-a^ns.sum.toNat)=(dk a b ns).getD i 0:=by
 rw[Pc hi];exact W8 (λe=>hF (by grind))
theorem Z_{a:Rat}(h:aS a b)(S n:Nat):ag ((6*S+3)*n+1) ((a^S)^n):=((jB h S).pow n).mono (by have:=Wf n (show 6*S+1<=6*S+3 by omega);omega)
theorem RN{a:Rat}(h:aS a b)(S n:Nat):ag ((6*S+3)*n+1) (aE (a^S) 1 n):=(Pm (jB h S) n).mono (by have:=Wf n (show 6*S+1+1<=6*S+3 by omega);omega)
def Se(K:wb):Sp:=λvs H Q _=>∃x0 x1 x2,vs=[x0,x1,x2] /\ ∃(F:Rat)(n:Int)(xs ss:List Rat),x2=.int n/\Is K H x0 (.tuple [N F,TN ss])/\Is K H x1 (TN xs)/\0<=n/\n<=64/\ss.length=xs.length/\xs.length<=50/\ag 2000 F/\(∀i,i<=n.toNat->ag 2000 (F^i))/\(∀i,i<=n.toNat->ag 2000 (aE F 1 i))/\(∀i,ag 6900 (xs.getD i 0))/\(∀i,ag 6900 (ss.getD i 0)) /\ ∀v H',ah H H'->Is K H' v (TN ((wt xs.length).map λi=>fI F (ss.getD i 0) n.toNat (xs.getD i 0)))->Q v H'
theorem KZ{F:Rat}{n:Int}{w:V}(h0:Is K H v (.tuple [N F,TN ss]))(h1:Is K H w (TN xs))(n0:0<=n)(n1:n<=64)(hl:ss.length=xs.length)(hf:xs.length<=50)(b0:ag 2000 F)(b1:∀i,i<=n.toNat->ag 2000 (F^i))(b2:∀i,i<=n.toNat->ag 2000 (aE F 1 i))(b3:∀i,ag 6900 (xs.getD i 0))(b4:∀i,ag 6900 (ss.getD i 0))(q:∀v H',ah H H'->Is K H' v (TN ((wt xs.length).map λi=>fI F (ss.getD i 0) n.toNat (xs.getD i 0)))->Q v H'):Se K [v,w,.int n] H Q E:=⟨_,_,_,rfl,F,n,xs,ss,rfl,h0,h1,n0,n1,hl,hf,b0,b1,b2,b3,b4,q⟩
theorem RS(T:Txt K mg a):aH P w K mg base aR 4 a.Km a.Jh zN (Se K):=by
 refine T.BC.F.ok Oe ?_ ?_;walk_at "b3"
 refine⟨_,(ar (az 3 Oe.nd (au (yx T) hr T.oO (ae (br (ae (ao (pv 0)) (ae (b_ (v:=.ref a.d4) rfl T.fh rfl) af))) (ae (pv 2) af))))
     (av (aB (au (LO T) hr T.Bx (by exact(@ae _ _ _ _ _ (pv 0) (@ae _ _ _ _ _ (pv 1) (@ae _ _ _ _ _ (ao (pv 3)) (@ae _ _ _ _ _ (ao (pv 3)) af ff) ff) fQ) fQ)))))),?_⟩
 walk_at "cl";rw[show start MV [x0,x1,x2]=[some x0,some x1,some x2,none]from rfl];obtain⟨F,n,xs,ss,rfl,h0,h1,n0,n1,hl,hf,b0,b1,b2,b3,b4,q⟩:=h;o_head aA (j:=0) h0 rfl (λv1 i1=>?_);o_head Fc i1 (eC 1 (T.sL _) rfl rfl) (λv2 H2 S2 i2=>?_);o_head Rx i2 (b0.mono (by decide)) (ag.one.mono (by decide)) n0 n1 (λi hi=>(b1 i hi).mono (by decide)) (λi hi=>(b2 i hi).mono (by decide)) (λv3 H3 S3 i3=>?_);k_few;rename_i v4 i4 v5 i5;have T3:=S2.trans S3;refine Yc (h0.by T3) (h1.by T3) i4 i5 hl hf (b1 _ (wo _)) (b2 _ (wo _)) b3 b4 (λv6 H6 S6 i6=>?_);exact q v6 H6 (T3.trans S6) i6
def Sq(K:wb):Sp:=λvs H Q _=>∃x0 x1 x2 x3,vs=[x0,x1,x2,x3] /\ ∃(ra rb:Rat)(ns:List Int)(xs:List Rat)(n:Int),x3=.int n/\Is K H x0 (R ra rb)/\Is K H x1 (TZ ns)/\Is K H x2 (TN xs)/\ns.length=xs.length+1/\0<=n/\d9 ra rb ns n.toNat/\(∀i,ag 6900 (xs.getD i 0)) /\ ∀v H',ah H H'->Is K H' v (TN (cf ra rb ns n.toNat xs))->Q v H'
theorem Yj{n:Int}{w:V}(h0:Is K H v (R ra rb))(h1:Is K H w (TZ ns))(h2:Is K H u (TN xs))(hl:ns.length=xs.length+1)(n0:0<=n)(ok:d9 ra rb ns n.toNat)(b:∀i,ag 6900 (xs.getD i 0))(q:∀v H',ah H H'->Is K H' v (TN (cf ra rb ns n.toNat xs))->Q v H'):Sq K [v,w,u,.int n] H Q E:=⟨_,_,_,_,rfl,ra,rb,ns,xs,n,rfl,h0,h1,h2,hl,n0,ok,b,q⟩
theorem OO(T:Txt K mg a):aH P w K mg base aR 8 a.Hw a.G1 z_ (Sq K):=by
 refine T.Bm.F.ok zlv ?_ ?_;walk_at "b4";refine⟨_,(av (aB (au (RS T) hr T.BC (ae (au (rO T) hr T.mL (ae (pv 0) (ae (pv 1) af))) (ae (pv 2) (ae (pv 3) af)))))),?_⟩;walk_at "cl";rw[show start DL [x0,x1,x2,x3]=[some x0,some x1,some x2,some x3]from rfl];obtain⟨ra,rb,ns,xs,n,rfl,hr',hn',hx',hl,n0,ok,bx,q⟩:=h;have h8:=ok.sz.bN;have hp:=ok.sz.pos;have hn60:=ok.bN;o_head rl hr' hn' (nq ok.ok ok.sz) (by omega) (by omega) (λv1 H1 S1 i1=>?_);o_head KZ (ss:=dk ra rb ns) i1 (hx'.by S1) n0 (by omega) (by rw[mU (by omega)];omega) (by omega) (by have:=ok.sz.sum;exact(jB ok.ok _).mono (by omega)) (λi hi=>(ok.pow hi).mono (by decide)) (λi hi=>(ok.aE hi).mono (by decide)) bx (λi=>(A7 ok.ok ok.sz i).mono (by decide)) (λv2 H2 S2 i2=>?_);exact q v2 H2 (S1.trans S2) i2
theorem Yl{k:Nat}{F:Rat}(h:ag k F):∀i:Nat,∃U:Int,GM.sumTo (aE F 1) i=wB U ((F.den:Int)^i)/\Bd ((k+2)*i+2) U
 | 0=>⟨0,by simp[GM.sumTo],⟨by simp⟩⟩
 | i+1=>by
  obtain⟨U,e,bU⟩:=Yl h i;obtain⟨T,e2,bT,bd⟩:=Az h i;have hd:(F.den:Int)^i≠0:=qo (gM F);have hd1:(F.den:Int)^(i+1)≠0:=qo (gM F);have ed:(F.den:Int)^(i+1)=(F.den:Int)^i*(F.den:Int):=V9 ..;have h1:(k+2)*(i+1)=(k+2)*i+(k+2):=qY ..;have h2:(k+1)*i<=(k+2)*i:=Wf i (by omega);refine⟨(U+T)*(F.den:Int),?_,((bU.add bT).mul h.b).mono (by omega)⟩
  symm
  refine gj hd1 ?_;have k1:=de U hd;have k2:=de T hd;have e3:(((U+T)*(F.den:Int):Int):Rat)=((U:Rat)+(T:Rat))*((F.den:Int):Rat):=by rw[vS,qP]
  rw[GM.sumTo,e,e2,ed,vS,e3,<- k1,<- k2]
  grind
theorem LM{F:Rat}(h:ag k F)(i:Nat):ag ((k+2)*i+2) (GM.sumTo (aE F 1) i):=by
 obtain⟨U,e,bU⟩:=Yl h i;obtain⟨T,e2,bT,bd⟩:=Az h i;rw[e];exact ag.divInt (qo (gM F)) bU (bd.mono (by have:=Wf i (show k<=k+2 by omega);omega))
theorem d9.sums{a:Rat}(h:d9 a b ns n)(hi:i<=n):ag 1662 (GM.sumTo (GM.aE (a^ns.sum.toNat) 1) i):=(LM (jB h.ok _) i).mono (by
 have h1:=(h.le hi).k;have h2:=(h.le hi).bN;have e:(6*ns.sum.toNat+1+2)*i=(6*ns.sum.toNat+1+1)*i+i:=by rw[<- qB]
 omega)
theorem zAy(F s x:Rat)(n:Nat):GM.sumTo (λk=>fI F s k x) n=aE F 1 n*x+GM.sumTo (aE F 1) n*s:=by
 unfold fI;rw[Tj]
 have e1:GM.sumTo (λk=>F^k*x) n=aE F 1 n*x:=by
  rw[<- Oy F n,Qf,<- DU];exact zO n λk _=>Qf ..
 have e2:GM.sumTo (λk=>aE F 1 k*s) n=GM.sumTo (aE F 1) n*s:=by
  rw[Qf (GM.sumTo (aE F 1) n) s,<- DU];exact zO n λk _=>Qf ..
 rw[e1,e2]
def Ys(K:wb):Sp:=λvs H Q _=>∃x0 x1 x2,vs=[x0,x1,x2] /\ ∃(a b:Rat)(ns:List Int)(n:Int)(xs:List Rat),x2=.int n/\Is K H x0 (.tuple [N (a^ns.sum.toNat),TN (dk a b ns)])/\Is K H x1 (TN xs)/\0<=n/\d9 a b ns n.toNat/\ns.length=xs.length+1/\(∀i,ag 6900 (xs.getD i 0)) /\ ∀v H',ah H H'->Is K H' v (TN (gf (aE (a^ns.sum.toNat) 1 n.toNat) (GM.sumTo (aE (a^ns.sum.toNat) 1) n.toNat) xs (dk a b ns)))->Q v H'
theorem zke{a:Rat}{n:Int}{w:V}(h0:Is K H v (.tuple [N (a^ns.sum.toNat),TN (dk a b ns)]))(h1:Is K H w (TN xs))(n0:0<=n)(ok:d9 a b ns n.toNat)(hl:ns.length=xs.length+1)(bx:∀i,ag 6900 (xs.getD i 0))(q:∀v H',ah H H'->Is K H' v (TN (gf (aE (a^ns.sum.toNat) 1 n.toNat) (GM.sumTo (aE (a^ns.sum.toNat) 1) n.toNat) xs (dk a b ns)))->Q v H'):Ys K [v,w,.int n] H Q E:=⟨_,_,_,rfl,a,b,ns,n,xs,rfl,h0,h1,n0,ok,hl,bx,q⟩
theorem zkb(T:Txt K mg a):aH P w K mg base aR 4 a.Hl a.GS yb (Ys K):=by
 refine T.GZ.F.ok nM ?_ ?_;walk_at "b3"
 refine⟨_,(ar (az 3 nM.nd (b_ (v:=.ref a.dA) rfl T.dX rfl))
     (ar (az 4 nM.nd (b_ (v:=.ref a.dA) rfl T.dX rfl))
     (ar (gR vP rfl (kc rfl T.z_range (ae (pv 2) af)) (bQ (i:=5) nM.nd rfl (Or.inl rfl)) (ar (az 4 nM.nd (au (gy T) hr T.fR (ae (pv 4) (ae (pv 3) af))))
     (av (az 3 nM.nd (au (gy T) hr T.fR (ae (au (lg T) hr T.jM (ae (ao (pv 0)) (ae (pv 3) af))) (ae (b_ (v:=.ref a.d4) rfl T.fh rfl) af)))))))
     (av (aB (au (LO T) hr T.Bx (by exact(@ae _ _ _ _ _ (pv 0) (@ae _ _ _ _ _ (pv 1) (@ae _ _ _ _ _ (pv 3) (@ae _ _ _ _ _ (pv 4) af fQ) fQ) fQ) fQ)))))))),?_⟩
 walk_at "cl";rw[show start TM [x0,x1,x2]=[some x0,some x1,some x2,none,none,none]from rfl];obtain⟨ra,rb,ns,n,xs,rfl,h0,h1,n0,ok,hl,bx,q⟩:=h;have h8:=ok.sz.bN;have h60:=ok.bN;have bF:ag 49 (ra^ns.sum.toNat):=(jB ok.ok _).mono (by have:=ok.sz.sum;omega);generalize hF:ra^ns.sum.toNat=F at *;o_head lI (n:=n) (by omega) (by omega) (λi σ H'=>∃(f g:V)(o:Option V),σ = [some x0,some x1,some (.int n),some f,some g,o]/\ah H H'/\Is K H' f (N (aE F 1 i))/\Is K H' g (N (GM.sumTo (aE F 1) i))) ⟨_,_,_,rfl,ah.refl H,eC 0 (T.eW _) rfl rfl,eC 0 (T.eW _) rfl rfl⟩ ?_ ?_
 . rintro i σ H' hi ⟨f,g,o,rfl,S1,hf,hg⟩
   have h01:=h0.by S1;have bf:ag 1601 (aE F 1 i):=by rw[<- hF];exact ok.aE (by omega)
   have bg:ag 1662 (GM.sumTo (aE F 1) i):=by rw[<- hF];exact ok.sums (by omega)
   have bm:ag 1700 (F*aE F 1 i):=(bF.mul bf).mono (by decide);k_few;rename_i v2 H2 S2 i2;refine aA (j:=0) (h01.by S2) rfl (λv3 i3=>?_);have hf2:=hf.by S2;k_few;rename_i v4 H4 S4 i4 v5 H5 S5 i5;exact⟨_,_,_,rfl,S1.trans (S2.trans (S4.trans S5)),i5,i2.by (S4.trans S5)⟩
 . rintro σ H' ⟨f,g,o,rfl,S1,hf,hg⟩
   have bf:ag 2000 (aE F 1 n.toNat):=by rw[<- hF];exact(ok.aE (wo _)).mono (by decide)
   have bg:ag 2000 (GM.sumTo (aE F 1) n.toNat):=by rw[<- hF];exact(ok.sums (wo _)).mono (by decide)
   o_head Yc (h0.by S1) (h1.by S1) hf hg (by rw[mU (by omega)];omega) (by omega) bf bg bx (λi=>(A7 ok.ok ok.sz i).mono (by decide)) (λv2 H2 S2 i2=>?_);exact q v2 H2 (S1.trans S2) i2
theorem Nw{c d:Nat}{p q:Rat}(hx:Cm m xs)(hs:Cm j ss)(bp:ag c p)(bq:ag d q):Cm (m+j+c+d+1) (gf p q xs ss):=by
 obtain⟨B,h0,h1,h2⟩:=hx;obtain⟨D,g0,g1,g2⟩:=hs;have hb:0<B*(p.den:Int)*(D*(q.den:Int)):=vQ (vQ h0 (den_pos p)) (vQ g0 (den_pos q));refine⟨_,hb,((h1.mul bp.b).mul (g1.mul bq.b)).mono (by omega),λx hx=>?_⟩;obtain⟨i,hi,rfl⟩:=wU.mp hx;have hi:=wH.mp hi;obtain⟨u,eu,bu⟩:=h2 _ (getD_mem (d:=0) hi)
 have hv:∃v:Int,ss.getD i 0=wB v D/\Bd j v:=by
  rcases wA i ss.length with z | z
  ·exact g2 _ (getD_mem z)
  ·rw[wa,wL z]
   exact⟨0,by simp,⟨by simp;exact Wi j⟩⟩
 obtain⟨v,ev,bv⟩:=hv;refine⟨p.num*u*(D*(q.den:Int))+q.num*v*(B*(p.den:Int)),?_,(((bp.t.mul bu).mul (g1.mul bq.b)).add ((bq.t.mul bv).mul (h1.mul bp.b))).mono (by omega)⟩
 symm
 show wB _ _=p*xs.getD i 0+q*ss.getD i 0
 refine gj (by omega) ?_;have k1:=de u (show B≠0 by omega);have k2:=de v (show D≠0 by omega);have k3:=j7 p;have k4:=j7 q;rw[eu,ev];simp only[qP,vS];rw[<- k1,<- k2,<- k3,<- k4];generalize wB u B=y;generalize wB v D=z;generalize (B:Rat)=B';generalize (D:Rat)=D';generalize ((p.den:Int):Rat)=P';generalize ((q.den:Int):Rat)=Q'
 grind
theorem zCW{a:Rat}(ok:d9 a b ns n)(c:Cm m xs):Cm (m+188+2*((6*ns.sum.toNat+3)*n)) (cf a b ns n xs):=(Nw c (Cw ok.ok ok.sz) (Z_ ok.ok _ n) (RN ok.ok _ n)).mono (by omega)
def rH(a b:Rat)(ns:List Int)(xs:List Rat)(n:Nat):Rat:=GM.sumTo (λk=>fu a b ns (cf a b ns k xs)) n
def iX(a b:Rat)(ns:List Int)(xs:List Rat)(n:Nat):List Rat:=(gf (aE (a^ns.sum.toNat) 1 n) (GM.sumTo (aE (a^ns.sum.toNat) 1) n) xs (dk a b ns)).map λt=>t / ((n:Int):Rat)
theorem Nc(a b:Rat)(ns:List Int)(xs:List Rat)(n:Nat):(iX a b ns xs n).length=xs.length:=by unfold iX;rw[wm,oJ]
theorem F8(h:1<=n):((n:Int):Rat)≠0:=λe=>by
 have:=Vn.mp e;omega
theorem NY{a:Rat}(hi:i<xs.length):(iX a b ns xs n).getD i 0=(gf (aE (a^ns.sum.toNat) 1 n) (GM.sumTo (aE (a^ns.sum.toNat) 1) n) xs (dk a b ns)).getD i 0 / ((n:Int):Rat):=by
 unfold iX;rw[wa,wu,wc (by rw[oJ];exact hi),wa,wc (by rw[oJ];exact hi)]
 rfl
theorem zsu{a:Rat}(hl:ns.length=xs.length+1)(h1:1<=n):((n:Int):Rat)*fu a b ns (iX a b ns xs n)=rH a b ns xs n:=by
 unfold rH;refine Tp hl (λk=>cf a b ns k xs) (λk=>du ..) n _ h1 (Nc ..) λi hi=>?_
 rw[NY hi,W8 (F8 h1),S_ hi,<- zAy];exact zO n λk _=>(jK hi).symm
theorem PQ(h:n<=60):ag 6 ((n:Int):Rat):=by
 have e:(2:Nat)^6=64:=by decide
 exact⟨⟨by rw[uX,e];omega⟩,⟨by rw[uY];decide⟩⟩
theorem zx1{a:Rat}(h:aS a b)(S n:Nat):ag ((6*S+3)*n+2) (GM.sumTo (aE (a^S) 1) n):=LM (jB h S) n
theorem L7{a:Rat}(ok:d9 a b ns n)(c:Cm m xs):Cm (m+189+2*((6*ns.sum.toNat+3)*n)) (gf (aE (a^ns.sum.toNat) 1 n) (GM.sumTo (aE (a^ns.sum.toNat) 1) n) xs (dk a b ns)):=(Nw c (Cw ok.ok ok.sz) (RN ok.ok _ n) (zx1 ok.ok _ n)).mono (by omega)
theorem zxU{a:Rat}(ok:d9 a b ns n)(h1:1<=n)(c:Cm m xs):Cm (m+195+2*((6*ns.sum.toNat+3)*n)) (iX a b ns xs n):=by
 unfold iX;exact(KO (L7 ok c) (PQ ok.bN) (F8 h1)).mono (by omega)
def TV(K:wb):Sp:=λvs H Q _=>∃x0 x1 x2 x3,vs=[x0,x1,x2,x3] /\ ∃(ra rb:Rat)(ns:List Int)(xs:List Rat)(n:Int)(m:Nat),x3=.int n/\Is K H x0 (R ra rb)/\Is K H x1 (TZ ns)/\Is K H x2 (TN xs)/\ns.length=xs.length+1/\0<=n/\d9 ra rb ns n.toNat/\Cm m xs/\m+2*((6*ns.sum.toNat+3)*n.toNat)<=6700 /\ ∀v H',ah H H'->Is K H' v (N (rH ra rb ns xs n.toNat))->Q v H'
theorem zn1{n:Int}{w:V}(h0:Is K H v (R ra rb))(h1:Is K H w (TZ ns))(h2:Is K H u (TN xs))(hl:ns.length=xs.length+1)(n0:0<=n)(ok:d9 ra rb ns n.toNat)(c:Cm m xs)(hm:m+2*((6*ns.sum.toNat+3)*n.toNat)<=6700)(q:∀v H',ah H H'->Is K H' v (N (rH ra rb ns xs n.toNat))->Q v H'):TV K [v,w,u,.int n] H Q E:=⟨_,_,_,_,rfl,ra,rb,ns,xs,n,m,rfl,h0,h1,h2,hl,n0,ok,c,hm,q⟩
theorem zBl{n:Int}(q:∀v H',ah H H'->Is K H' v (N (n:Rat))->Q v H'):mr K [.int n,.int 1] H Q:=fb (r:=(n:Rat)) (uX n).symm (by rw[uY];rfl) q
theorem znA(T:Txt K mg a):aH P w K mg base aR 8 a.Im a.Hh Bg (TV K):=by
 refine T.Hu.F.ok CY ?_ ?_;walk_at "b4"
 refine⟨_,(ar (bR (bZ m6 (pv 3) ay (bC _)) (av (aB (b_ (v:=.ref a.dA) rfl T.dX rfl))) bS)
     (ar (az 4 CY.nd (br (ae (pv 3) (ae ay af))))
     (ar (az 5 CY.nd (dY (show aK _ (.type "tuple") (eS K)from fZ) rfl T.z_tuple d5 (ae (d7 rfl (cR.by (N':=["total","count"]) (src:=[none,some 4]) rfl (show dg _ (aC AI).names Fh ["total","count"] [none,some 4]=true from by decide +kernel)) (j9 (au (zkb T) hr T.GZ (ae (au (rO T) hr T.mL (ae (pv 0) (ae (pv 1) af))) (ae (pv 2) (ae (pv 3) af))))) (λ_ _ _ _ _=>(bQ (i:=0) (show(["total","count"]:List Str).Nodup from by decide) rfl (Or.inl rfl))) (λ_ _ _ _ _=>dN) (λ_ _ _ _ _=>(au (Nu (K:=K) (mg:=mg) (a:=a) T) hr T.BL (ae (pv 0) (ae (pv 1) af))))) af)))
     (av (aB (au (lg T) hr T.jM (ae (pv 4) (ae (au (zoH T) hr T.HL (ae (pv 0) (ae (pv 1) (ae (pv 5) af)))) af)))))))),?_⟩
 walk_at "cl";rw[show start Fh [x0,x1,x2,x3]=[some x0,some x1,some x2,some x3,none,none]from rfl];obtain⟨ra,rb,ns,xs,n,m,rfl,hr',hn',hx',hl,n0,ok,c,hm,q⟩:=h;have h8:=ok.sz.bN;have hp:=ok.sz.pos;have h60:=ok.bN;have hu:=ok.sz.upTo;obtain⟨n,rfl⟩:∃j:Nat,n=(j:Int):=⟨n.toNat,by omega⟩;rw[wP]at q ok h60 hm;k_few
 . rename_i z
   have hz:n=0:=by omega
   subst hz;exact q _ H (ah.refl _) (eC 0 (T.eW _) rfl rfl)
 . rename_i z
   have h1n:1<=n:=by omega
   have cM:=zxU ok h1n c;have hml:=Nc ra rb ns xs n;have hne:=F8 h1n;have bn:ag 6 ((n:Int):Rat):=PQ h60;refine zBl (λv1 H1 S1 i1=>?_);o_head rl (hr'.by S1) (hn'.by S1) (nq ok.ok ok.sz) (by omega) (by omega) (λv2 H2 S2 i2=>?_);have T2:=S1.trans S2;o_head zke (a:=ra) (b:=rb) (ns:=ns) i2 (hx'.by T2) (by omega) (by rw[wP];exact ok) hl (λi=>(c.get i).mono (by omega)) (λv3 H3 S3 i3=>?_);rw[wP]at i3;have i13:=i1.by (S2.trans S3);obtain⟨a3,us,rfl,hs3,t3⟩:=bX.mp i3;have hul:=t3.length;rw[wm,oJ]at hul;have bw:∀i,ag 8100 ((gf (aE (ra^ns.sum.toNat) 1 n) (GM.sumTo (aE (ra^ns.sum.toNat) 1) n) xs (dk ra rb ns)).getD i 0):=λi=>((L7 ok c).get i).mono (by omega)
   o_head jz hs3 (o0:=none) (tl:=[some v1]) rfl (λj y H'=>Is K H' y (N ((iX ra rb ns xs n).getD j 0))) ?_ ?_
   . intro D j x ys o H4 hx inv
     obtain⟨hj,ix⟩:=dD t3 hx;rw[oJ]at hj;o_head SY (ix.by inv.same) (i13.by inv.same) ((bw j).mono (by decide)) (bn.mono (by decide)) hne (λv5 H5 S5 i5=>?_);rw[<- NY hj]at i5;exact d8 inv (by omega) fL ⟨_,rfl⟩ S5 i5
   . intro D ys H4 hn4 S4 e4 hl4 hr4
     have tz:ak K H4 ys ((iX ra rb ns xs n).map N):=fY (by rw[hl4,hul,hml]) hr4;o_head iM (dF e4 tz) (λv5 H5 S5 i5=>?_);have T5:=T2.trans (S3.trans (S4.trans S5));have rok:cU ra rb ns (iX ra rb ns xs n):=⟨ok.ok.ba,ok.ok.bb,λk hk=>by have:=ok.sz.each k hk;omega,by rw[hml];exact hl,by omega,⟨_,cM,by omega⟩⟩;o_head zox (hr'.by T5) (hn'.by T5) i5 rok cM (by omega) (λv6 H6 S6 i6=>?_);have bt:ag 8000 (fu ra rb ns (iX ra rb ns xs n)):=(LC rok cM (by omega) (wo _)).d_ (wz ..);have i16:=i13.by (S4.trans (S5.trans S6));k_few;rename_i v7 H7 S7 i7;rw[zsu hl h1n]at i7;exact q v7 H7 (T5.trans (S6.trans S7)) i7
def nh(ts:List Rat):List Bool:=ts.map λx=>decide (1<x)
theorem zwR{ts:List Rat}(h:i<ts.length):(nh ts).getD i true=decide (1<ts.getD i 0):=by
 unfold nh;rw[wa,wu,wa,wc h]
 rfl
def j_(a b:Rat)(ns:List Int):Bool:=!((nh (dE a b ns (cQ a b ns))).any id)
theorem zrP{a:Rat}(h:aS a b)(k:dq ns)(hF:a^ns.sum.toNat≠1):cU a b ns (cQ a b ns):=⟨h.ba,h.bb,λn hn=>by have:=k.each n hn;omega,by rw[rn k.some];have:=k.some;omega,by have:=k.bN;omega,⟨268,zxX h.ba h.bb k.bN k.upTo (by have:=k.sum;omega) hF,by have:=k.bN;have:=k.upTo;omega⟩⟩
def SF(K:wb):Sp:=λvs H Q _=>∃x0 x1,vs=[x0,x1] /\ ∃(a b:Rat)(ns:List Int),Is K H x0 (R a b)/\Is K H x1 (TZ ns)/\aS a b/\dq ns/\a≠1 /\ ∀H',ah H H'->Q (.bl (j_ a b ns)) H'
theorem OA{a:Rat}{w:V}(h1:Is K H v (R a b))(h2:Is K H w (TZ ns))(ok:aS a b)(sz:dq ns)(ha:a≠1)(q:∀H',ah H H'->Q (.bl (j_ a b ns)) H'):SF K [v,w] H Q E:=⟨_,_,rfl,a,b,ns,h1,h2,ok,sz,ha,q⟩
theorem N7(T:Txt K mg a):aH P w K mg base aR 9 a.HW a.G9 yF (SF K):=by
 refine T.Bo.F.ok zmA ?_ ?_;walk_at "b2";refine⟨_,(av (aB (ng (bE (show aK _ (.builtin "any") (Dx K)from zwT rfl) rfl T.z_any zDI (ae (d7 rfl (cR.by (N':=["top"]) (src:=[none]) rfl (show dg _ (aC zg).names zC ["top"] [none]=true from by decide +kernel)) (j9 (au (Ye T) hr T.BK (ae (pv 0) (ae (pv 1) (ae (au (Ta T) hr T.BH (ae (pv 0) (ae (pv 1) af))) af))))) (λ_ _ _ _ _=>(bQ (i:=0) (show(["top"]:List Str).Nodup from by decide) rfl (Or.inl rfl))) (λ_ _ _ _ _=>dN) (λ_ _ _ _ _=>(au (gO (K:=K) (mg:=mg) (a:=a) T) hr T.gn (ae (b_ (v:=.ref a.d4) rfl T.fh rfl) (ae (pv 0) af))))) af))))),?_⟩;walk_at "cl";rw[show start zC [x0,x1]=[some x0,some x1]from rfl];obtain⟨ra,rb,ns,hr',hn',ok,sz,ha,q⟩:=h;have h8:=sz.bN;have hps:=sz.pos;have hF:ra^ns.sum.toNat≠1:=λe=>ha ((rY ok (by omega)).mp e)
 have rok:=zrP ok sz hF;o_head Ms hr' hn' (nq ok sz) (by omega) (by omega) (λe=>absurd e hF) (λ_ v1 H1 S1 i1=>?_);o_head UY (hr'.by S1) (hn'.by S1) i1 rok (λv2 H2 S2 i2=>?_);obtain⟨a2,us,rfl,hs2,t2⟩:=bX.mp i2;have hl2:=t2.length;rw[wm,iY]at hl2;refine jz hs2 (o0:=none) (tl:=[]) rfl (λi v H=>v=V.bl ((nh (dE ra rb ns (cQ ra rb ns))).getD i true)) ?_ ?_
 ·rintro D i x ys o H3 hx inv
  obtain⟨hi,ix⟩:=dD t2 hx;rw[iY]at hi;have ix3:=ix.by inv.same;have b1:=Pn rok hi;have b2:ag 1 1:=ag.one;k_few;exact d8 inv (by omega) (λ_ _ _ _ _ h=>h) ⟨_,rfl⟩ (ah.refl _) (by rw[zwR (by rw[iY];exact hi)])
 ·rintro D ys H3 hn3 S3 e3 hl3 hr3
  have hz:=Aq (bs:=nh (dE ra rb ns (cQ ra rb ns))) (by unfold nh;rw[wm,iY];omega) hr3;rw[hz]at e3;o_head zAX (.of e3) ?_;k_few;exact q _ (S1.trans (S2.trans S3))
def nT(ss:List Rat):List Bool:=ss.map λs=>decide (s=0)
theorem zww{ts:List Rat}(h:i<ts.length):(nT ts).getD i true=decide (ts.getD i 0=0):=by
 unfold nT;rw[wa,wu,wa,wc h]
 rfl
def eK(a b:Rat)(ns:List Int)(xs:List Rat):Bool:=if 1<a then decide (xs=cQ a b ns)else if a=1 then(nT (dk a b ns)).all id else j_ a b ns
def Td(K:wb):Sp:=λvs H Q _=>∃x0 x1 x2,vs=[x0,x1,x2] /\ ∃(a b:Rat)(ns:List Int)(xs:List Rat),Is K H x0 (R a b)/\Is K H x1 (TZ ns)/\Is K H x2 (TN xs)/\aS a b/\dq ns /\ ∀H',ah H H'->Q (.bl (eK a b ns xs)) H'
theorem zoO{a:Rat}{w:V}(h1:Is K H v (R a b))(h2:Is K H w (TZ ns))(h3:Is K H u (TN xs))(ok:aS a b)(sz:dq ns)(q:∀H',ah H H'->Q (.bl (eK a b ns xs)) H'):Td K [v,w,u] H Q E:=⟨_,_,_,rfl,a,b,ns,xs,h1,h2,h3,ok,sz,q⟩
theorem zoy(T:Txt K mg a):aH P w K mg base aR 10 a.II a.Ht A3 (Td K):=by
 refine T.HF.F.ok Rk ?_ ?_;walk_at "b3"
 refine⟨_,(ar (az 3 Rk.nd (au (Sr T) hr T.BJ (ae (pv 0) af)))
     (ar (bR (bZ (show aN _ (wT .Eq) (cO K)from dR hu) (pv 3) iU (bC _)) (av (aB (e_ (show aN _ (wT .Eq) (cO K)from dR hu) (dY (show aK _ (.type "tuple") (eS K)from fZ) rfl T.z_tuple d5 (ae (pv 2) af)) (au (Ta T) hr T.BH (ae (pv 0) (ae (pv 1) af))) (bC _)))) bS)
     (ar (bR (bZ (show aN _ (wT .Eq) (cO K)from dR hu) (pv 3) iU (bC _)) (av (aB (bE (show aK _ (.builtin "all") (kK K)from oK rfl) rfl T.z_all oE (ae (d7 rfl (cR.by (N':=["shift"]) (src:=[none]) rfl (show dg _ (aC tW).names C4 ["shift"] [none]=true from by decide +kernel)) (j9 (ao (au (rO T) hr T.mL (ae (pv 0) (ae (pv 1) af))))) (λ_ _ _ _ _=>(bQ (i:=0) (show(["shift"]:List Str).Nodup from by decide) rfl (Or.inl rfl))) (λ_ _ _ _ _=>dN) (λ_ _ _ _ _=>(e_ (show aN _ (wT .Eq) (cO K)from dR hu) (pv 0) (b_ (v:=.ref a.dA) rfl T.dX rfl) (bC _)))) af)))) bS)
     (av (aB (au (N7 T) hr T.Bo (ae (pv 0) (ae (pv 1) af)))))))),?_⟩
 walk_at "cl";rw[show start C4 [x0,x1,x2]=[some x0,some x1,some x2,none]from rfl];obtain⟨ra,rb,ns,xs,hr',hn',hx',ok,sz,q⟩:=h;have h8:=sz.bN;have h1:=sz.some;have hps:=sz.pos;o_head UT hr' (ok.ba.mono (by decide)) ?_;unfold pU;unfold eK at q
 by_cases z1:1<ra
 . rw[if_pos z1]at q ⊢
   have hF:ra^ns.sum.toNat≠1:=λe=>absurd ((rY ok (by omega)).mp e) (by grind)
   o_head kh _ _ true (by rw[wY];decide) ?_;o_head Lg hx' ?_;o_head Ms hr' hn' (nq ok sz) (by omega) (by omega) (λe=>absurd e hF) (λ_ v1 H1 S1 i1=>?_);o_head B0 (hx'.by S1) i1 ?_;exact q _ S1
 . rw[if_neg z1]at q ⊢
   by_cases z2:ra=1
   . rw[if_pos z2]at q ⊢
     o_head kh _ _ false (by rw[wY];decide) ?_;o_head kh _ _ true (by rw[wY];decide) ?_;o_head rl hr' hn' (nq ok sz) (by omega) (by omega) (λv1 H1 S1 i1=>?_);o_head aA (j:=1) i1 rfl (λv2 i2=>?_);obtain⟨a2,us,rfl,hs2,t2⟩:=bX.mp i2;have hl2:=t2.length;rw[wm]at hl2;have hsl:(dk ra rb ns).length=ns.length-1:=mU h1;have t2:ak K H1 us ((dk ra rb ns).map N):=t2;have hl2:us.length=(dk ra rb ns).length:=hl2;refine jz hs2 (o0:=none) (tl:=[]) rfl (λi v H=>v=V.bl ((nT (dk ra rb ns)).getD i true)) ?_ ?_
     . rintro D i x ys o H3 hx inv
       obtain⟨hi,ix⟩:=dD t2 hx;have ix3:=ix.by inv.same;k_few;exact d8 inv (by omega) (λ_ _ _ _ _ h=>h) ⟨_,rfl⟩ (ah.refl _) (by rw[zww hi])
     . rintro D ys H3 hn3 S3 e3 hl3 hr3
       have hz:=Aq (bs:=nT (dk ra rb ns)) (by unfold nT;rw[wm];omega) hr3;rw[hz]at e3;o_head l_ (.of e3) ?_;exact q _ (S1.trans S3)
   . rw[if_neg z2]at q ⊢
     o_head kh _ _ false (by rw[wY];decide) ?_;o_head kh _ _ false (by rw[wY];decide) ?_;k_few;exact OA hr' hn' ok sz z2 q
theorem LV{a:Rat}(hF:a^ns.sum.toNat≠1)(hl:ns.length=xs.length+1)(k:Nat):cf a b ns k xs=fB ((a^ns.sum.toNat)^k) (cQ a b ns) xs:=by
 have hs:(cQ a b ns).length=xs.length:=by rw[rn (by omega)];omega
 refine kg (by rw[du,oI hs,hs]) λi hi=>?_
 rw[du]at hi;rw[kR hs (by omega),jK hi,zzi (zwB hF (by omega))]
theorem zAO{c:Rat}(c0:0<c)(c1:c<=1)(h:x<=1)(k:y<1):x+c*(y-x)<1:=by
 have h1:=Qj (show 0<=1-c by grind) (show 0<=1-x by grind);have h2:=VZ c0 (show 0<1-y by grind)
 grind
theorem p7{a:Rat} : dG a b ns xs=true ↔ (∀i,i<xs.length+1->(dH xs).getD (i+1) 0<(dH xs).getD i 0) /\ ∀i,i<ns.length->(dE a b ns xs).getD i 0<1:=by
 unfold dG;rw[wZ,WO,WO]
 constructor
 ·rintro ⟨h1,h2⟩
  refine⟨λi hi=>?_,λi hi=>?_⟩
  ·have:=h1 _ (wU.mpr ⟨i,wH.mpr hi,rfl⟩)
   exact of_decide_eq_true this
  ·have:=h2 _ (wU.mpr ⟨_,getD_mem (d:=0) (show i<(dE a b ns xs).length by rw[iY];exact hi),rfl⟩)
   exact of_decide_eq_true this
 ·rintro ⟨h1,h2⟩
  refine⟨λx hx=>?_,λx hx=>?_⟩
  ·obtain⟨i,hi,rfl⟩:=wU.mp hx
   exact decide_eq_true (h1 i (wH.mp hi))
  ·obtain⟨t,ht,rfl⟩:=wU.mp hx
   obtain⟨i,hi,rfl⟩:=wU.mp ht;have:=h2 i (wH.mp hi);rw[kr (wH.mp hi)]at this;exact decide_eq_true this
theorem zyo{a:Rat}(c:Rat)(hn:ns.length=xs.length+1)(h:xs.length=ys.length)(hi:i<ns.length):(dE a b ns (fB c xs ys)).getD i 0=(dE a b ns xs).getD i 0+c*((dE a b ns ys).getD i 0-(dE a b ns xs).getD i 0):=by
 have hm:(i+1) % ns.length<ns.length:=qm _ (by omega);rw[kr hi,kr hi,kr hi,<- N6 c h,FA a b ns c (by simp[h]) (i+1) (by simp;omega),kR (by rw[c_,c_];simp[h]) (by rw[c_];simp;omega)]
theorem Yr:∀l:List Rat,(∀i,i+1<l.length->l.getD (i+1) 0<l.getD i 0)->l.Pairwise (· > ·)
 | [],_=>.nil
 | x::l,h=>by
  have h':∀i,i+1<l.length->l.getD (i+1) 0<l.getD i 0:=λi hi=>by
   have:=h (i+1) (by simp;omega)
   simpa using this
  have hd:∀j,j<l.length->l.getD j 0<x:=λj=>by
   induction j with
   | zero=>intro hj;have:=h 0 (by simp;omega);simpa using this
   | succ j ih=>intro hj;have h3:=h' j hj;have h4:=ih (by omega);grind
  refine W9.mpr ⟨λy hy=>?_,Yr l h'⟩;obtain⟨j,hj,e⟩:=wX hy;have:=hd j hj;rw[wa,wc hj]at this
  show y<x
  rw[<- e];exact this
theorem zyO{l:List Rat}(h:l.Pairwise (· > ·))(hi:i+1<l.length):l.getD (i+1) 0<l.getD i 0:=by
 rw[wa,wa,wc hi,wc (show i<l.length by omega)];exact(We.mp h) i (i+1) (by omega) hi (by omega)
theorem om(xs:List Rat)(i:Nat):(dH xs).getD (i+1) 0=(xs++[0]).getD i 0:=by
 unfold dH;rw[Vh]
 rfl
theorem PU(h:∀i,i<xs.length+1->(dH xs).getD (i+1) 0<(dH xs).getD i 0):h9 (xs++[0])/\(xs++[0]).getD 0 0<1:=by
 have pw:(xs++[0]).Pairwise (· > ·):=Yr _ λi hi=>by
  have:=h (i+1) (by simp at hi;omega);rw[om,om]at this;exact this
 refine⟨⟨pw,λy hy=>?_⟩,?_⟩
 ·rcases vX.mp hy with z | z
  ·exact vT ((qH.mp pw).2.2 y z 0 (w6.mpr rfl))
  ·rw[w6.mp z];exact WZ
 ·have:=h 0 (by omega)
  rw[om]at this;exact this
theorem Py(pw:(xs++[0]).Pairwise (· > ·))(one:(xs++[0]).getD 0 0<1):∀i,i<xs.length+1->(dH xs).getD (i+1) 0<(dH xs).getD i 0
 | 0,_=>by rw[om];exact one
 | i+1,hi=>by rw[om,om];exact zyO pw (by simp;omega)
theorem BQ{a:Rat}(h:ns.length=xs.length+1):cK a b ns xs++[0]=aM a b ns (xs++[0]) ns.length:=by
 have hl:=mI (a:=a) (b:=b) h;have hr:(aM a b ns (xs++[0]) ns.length).length=xs.length+1:=by rw[c_];simp
 refine kg (by rw[hr,wR,hl];rfl) λi hi=>?_
 rw[wR,hl]at hi;have hi:i<xs.length+1:=hi;rcases wA i xs.length with z | z
 ·rw[ER (by omega),DI h z]
 ·have e:i=xs.length:=by omega
  have e2:(cK a b ns xs++[0]).getD i 0=0:=by rw[e,<- hl];exact pL
  rw[e2,e,h,aM,gG _ _ _ _ _ _ (by rw[c_];simp),if_pos rfl]
theorem O7{a b:Rat}(a0:0<a)(b0:0<=b){ns:List Int}{row:List Rat}(F:h9 row)(one:row.getD 0 0<1)(iI:∀t,t<row.length->eJ a b ns row t<1):∀i,i<=row.length->h9 (turned a b ns row i)
 | 0,_=>F
 | i+1,hi=>by
  have ih:=O7 a0 b0 F one iI i (by omega)
  have oi:(aM a b ns row i).getD i 0<1:=by
   cases i with
   | zero=>exact one
   | succ j =>
    have:=iI j (by omega);unfold eJ at this;rw[xp (by omega)]at this;exact this
  obtain⟨x,l,ex⟩:∃x l,turned a b ns row i=x::l:=by
   cases e:turned a b ns row i with
   | nil =>
    have:=GN a b ns row (by omega) i;rw[e]at this;simp at this;omega
   | cons x l=>exact⟨x,l,rfl⟩
  have hx:x=(aM a b ns row i).getD i 0:=by
   have:=CW a b ns row (show i<row.length by omega);rw[ex]at this;exact this
  show h9 (mz a b (ns.getD i 0).toNat (turned a b ns row i))
  rw[ex]at ih ⊢;exact ih.step a0 b0 (by rw[hx];exact oi)
theorem Nh{a:Rat}(ok:aS a b)(hn:ns.length=xs.length+1)(f:dG a b ns xs=true):∀i,i<(cK a b ns xs).length+1->(dH (cK a b ns xs)).getD (i+1) 0<(dH (cK a b ns xs)).getD i 0:=by
 obtain⟨h1,h2⟩:=p7.mp f;obtain⟨F,one⟩:=PU h1;have hl:(xs++[0]).length=ns.length:=by simp[hn]
 have iI:∀t,t<(xs++[0]).length->eJ a b ns (xs++[0]) t<1:=λt ht=>by
  have:=h2 t (by omega);rw[kr (by omega)]at this;unfold eJ;rw[hl];exact this
 have Fl:=O7 ok.a0 ok.b0 F one iI (xs++[0]).length (wo _);rw[hl,zux a b ns _ hl.symm,<- BQ hn]at Fl;have t:=iI (ns.length-1) (by omega);unfold eJ at t;rw[hl,show ns.length-1+1=ns.length by omega,Nat.mod_self,<- BQ hn]at t;exact Py Fl.pw t
theorem zDy{a:Rat}(h:aS a b){S:Nat}(hS:1<=S)(ha:a<1):0<a^S/\a^S<=1:=by
 obtain⟨m,rfl⟩:∃m,S=m+1:=⟨S-1,by omega⟩;exact⟨lQ h.a0 _,vT (LJ h.a0 ha m)⟩
theorem zwN{a:Rat}(ok:aS a b)(sz:dq ns)(hn:ns.length=xs.length+1)(ha:a<1)(d:j_ a b ns=true)(f:dG a b ns xs=true):dG a b ns (cf a b ns 1 xs)=true:=by
 have hps:=sz.pos
 have hF:a^ns.sum.toNat≠1:=λe=>by
  have:=(rY ok (by omega)).mp e;rw[this]at ha;exact absurd ha (by decide)
 have hs:(cQ a b ns).length=xs.length:=by rw[rn sz.some];omega
 refine p7.mpr ⟨?_,λi hi=>?_⟩
 ·rw[p8 hn sz.nn]
  exact Nh ok hn f
 ·rw[LV hF hn 1,zyo _ (by omega) hs hi]
  have hp:=zDy ok (show 1<=ns.sum.toNat by omega) ha;have e1:(a^ns.sum.toNat)^1=a^ns.sum.toNat:=by rw[WL,V8,QW]
  rw[e1];refine zAO hp.1 hp.2 ?_ ((p7.mp f).2 i hi);unfold j_ at d;rw[WV,List.any_eq_false]at d;have:=d (decide (1<(dE a b ns (cQ a b ns)).getD i 0)) (wU.mpr ⟨_,getD_mem (d:=0) (show i<(dE a b ns (cQ a b ns)).length by rw[iY];exact hi),rfl⟩)
  by_cases z:1<(dE a b ns (cQ a b ns)).getD i 0
  ·exact absurd (decide_eq_true z) this
  ·exact Vu.mp z
theorem zyv(c:Rat)(xs:List Rat):fB c xs xs=xs:=kg (oI rfl) λi hi=>by
 rw[oI rfl]at hi;rw[kR rfl hi]
 grind
def cj(a b:Rat)(ns:List Int)(xs:List Rat)(k:Nat):Bool:=dG a b ns (cf a b ns k xs)
theorem p5{a:Rat}(ok:aS a b)(sz:dq ns)(hk:k<=31):d9 a b ns k:=⟨ok,sz,by omega,by
 have h1:=sz.sum;have h2:(6*ns.sum.toNat+1+1)*k<=50*k:=Wf k (by omega);omega⟩
theorem Ln{a:Rat}(ok:aS a b)(sz:dq ns)(c:Cm m xs)(hk:k<=31):Cm (m+188+102*k) (cf a b ns k xs):=(zCW (p5 ok sz hk) c).mono (by
 have h1:=sz.sum;have h2:(6*ns.sum.toNat+3)*k<=51*k:=Wf k (by omega);omega)
theorem Ef{a:Rat}(ok:aS a b)(sz:dq ns)(hn:ns.length=xs.length+1)(c:Cm m xs)(hm:m<=3700)(hk:k<=30):cU a b ns (cf a b ns k xs):=⟨ok.ba,ok.bb,λn hn=>by have:=sz.each n hn;omega,by rw[du];exact hn,by have:=sz.bN;omega,⟨_,Ln ok sz c (by omega),by have:=sz.bN;have:=sz.upTo;omega⟩⟩
def Ce(K:wb)(a:Ad):Sp:=λvs H Q E=>∃x0 x1 x2,vs=[x0,x1,x2] /\ ∃(ra rb:Rat)(ns:List Int)(xs:List Rat),Is K H x0 (R ra rb)/\Is K H x1 (TZ ns)/\Is K H x2 (TN xs)/\aS ra rb/\dq ns/\ns.length=xs.length+1/\cU ra rb ns xs/\(eK ra rb ns xs=false->∃n:Nat,n<=30/\(n=30\/cj ra rb ns xs n=false)/\(∀k,k<=n->cU ra rb ns (cf ra rb ns k xs))/\(∀k,k<n->∀j,ag 6900 ((cf ra rb ns k xs).getD j 0))) /\
 (cj ra rb ns xs 0=false->∀H',ah H H'->Q (.int 0) H') /\
 (cj ra rb ns xs 0=true->eK ra rb ns xs=true->∀H',ah H H'->Q .a_ H') /\
 (∀c:Nat,1<=c->c<=30->eK ra rb ns xs=false->(∀k,k<c->cj ra rb ns xs k=true)->cj ra rb ns xs c=false->∀H',ah H H'->Q (.int (c:Int)) H') /\
 (eK ra rb ns xs=false->(∀k,k<=30->cj ra rb ns xs k=true)->∀H',ah H H'->E (.ref a.fD) none H')
theorem zmu{w:V}(h1:Is K H v (R ra rb))(h2:Is K H w (TZ ns))(h3:Is K H u (TN xs))(ok:aS ra rb)(sz:dq ns)(hn:ns.length=xs.length+1)(r0:cU ra rb ns xs)(hb:eK ra rb ns xs=false->∃n:Nat,n<=30/\(n=30\/cj ra rb ns xs n=false)/\(∀k,k<=n->cU ra rb ns (cf ra rb ns k xs))/\(∀k,k<n->∀j,ag 6900 ((cf ra rb ns k xs).getD j 0)))
  (q0:cj ra rb ns xs 0=false->∀H',ah H H'->Q (.int 0) H')
  (q1:cj ra rb ns xs 0=true->eK ra rb ns xs=true->∀H',ah H H'->Q .a_ H')
  (q2:∀c:Nat,1<=c->c<=30->eK ra rb ns xs=false->(∀k,k<c->cj ra rb ns xs k=true)->cj ra rb ns xs c=false->∀H',ah H H'->Q (.int (c:Int)) H')
  (q3:eK ra rb ns xs=false->(∀k,k<=30->cj ra rb ns xs k=true)->∀H',ah H H'->E (.ref a.fD) none H'):Ce K a [v,w,u] H Q E:=⟨_,_,_,rfl,ra,rb,ns,xs,h1,h2,h3,ok,sz,hn,r0,hb,q0,q1,q2,q3⟩
theorem zne{w:V}(h1:Is K H v (R ra rb))(h2:Is K H w (TZ ns))(h3:Is K H u (TN xs))(ok:aS ra rb)(sz:dq ns)(hn:ns.length=xs.length+1)(c:Cm m xs)(hm:m<=3700)
  (q0:cj ra rb ns xs 0=false->∀H',ah H H'->Q (.int 0) H')
  (q1:cj ra rb ns xs 0=true->eK ra rb ns xs=true->∀H',ah H H'->Q .a_ H')
  (q2:∀c:Nat,1<=c->c<=30->eK ra rb ns xs=false->(∀k,k<c->cj ra rb ns xs k=true)->cj ra rb ns xs c=false->∀H',ah H H'->Q (.int (c:Int)) H')
  (q3:eK ra rb ns xs=false->(∀k,k<=30->cj ra rb ns xs k=true)->∀H',ah H H'->E (.ref a.fD) none H'):Ce K a [v,w,u] H Q E :=
 zmu h1 h2 h3 ok sz hn (by have:=Ef ok sz hn c hm (k:=0) (by decide);rw[kW]at this;exact this) (λ_=>⟨30,wo 30,.inl rfl,λk hk=>Ef ok sz hn c hm hk,λk hk j=>((Ln ok sz c (k:=k) (by omega)).get j).mono (by omega)⟩) q0 q1 q2 q3
theorem znd(T:Txt K mg a):aH P w K mg base (fc P w) 11 a.IA a.Hf An (Ce K a):=by
 refine T.Hq.F.oW pX ?_ ?_;walk_at "b3"
 refine⟨_,(ar (bR (cW (cz (au (rJ T) hr T.mO (ae (pv 0) (ae (pv 1) (ae (pv 2) af)))))) (av (aB ay)) bS)
     (ar (bR (cz (au (zoy T) hr T.HF (ae (pv 0) (ae (pv 1) (ae (pv 2) af))))) (av (aB fP)) bS)
     (ar (az 3 pX.nd (au (rO T) hr T.mL (ae (pv 0) (ae (pv 1) af))))
     (ar (az 4 pX.nd (pv 2))
     (ar (gR ub rfl (zwx rfl T.z_range (ae ay (ae (aD cC (lY rfl T.Ir) ay) af))) (bQ (i:=5) pX.nd rfl (Or.inl rfl)) (ar (az 4 pX.nd (au (RS T) hr T.BC (ae (pv 3) (ae (pv 4) (ae ay af)))))
     (av (bR (cW (cz (au (rJ T) hr T.mO (ae (pv 0) (ae (pv 1) (ae (pv 4) af)))))) (av (aB (pv 5))) bS))))
     (av (Pp T.YT rfl rfl T.BB MC (ae iU af)))))))),?_⟩
 walk_at "cl";rw[show start LB [x0,x1,x2]=[some x0,some x1,some x2,none,none,none]from rfl];obtain⟨ra,rb,ns,xs,hr',hn',hx',ok,sz,hn,r0,hb,q0,q1,q2,q3⟩:=h;have h8:=sz.bN;have h1:=sz.some;have hps:=sz.pos;have e0:cj ra rb ns xs 0=dG ra rb ns xs:=by unfold cj;rw[kW]
 o_head pR hr' hn' hx' r0 (λH1 S1=>?_);k_few
 . rename_i z
   exact q0 (by rw[e0];exact z) H1 S1
 . rename_i z
   have hr1:=hr'.by S1;have hn1:=hn'.by S1;have hx1:=hx'.by S1;refine zoO hr1 hn1 hx1 ok sz (λH2 S2=>?_);k_few
   . rename_i y
     exact q1 (by rw[e0];exact z) y H2 (S1.trans S2)
   . rename_i y
     have y:eK ra rb ns xs=false:=by first | exact y | exact uw _ ▸ y
     obtain⟨n,n30,stop,rd,bd⟩:=hb y;refine rl (hr1.by S2) (hn1.by S2) (nq ok sz) (by omega) (by omega) (λv3 H3 S3 i3=>?_);have T3:ah H H3:=S1.trans (S2.trans S3);have hr3:=hr'.by T3;have hn3:=hn'.by T3;have hx3:=hx'.by T3;clear hr1 hn1 hx1 S1 S2 S3;o_head zyq ?_;o_head zuu (lo:=1) (hi:=31) (by decide) (by decide) (by decide) (by decide) (λi σ H'=>∃(v:V)(o:Option V),σ = [some x0,some x1,some x2,some v3,some v,o]/\ah H3 H'/\Is K H' v (TN (cf ra rb ns i xs)) /\ ∀k,k<=i->cj ra rb ns xs k=true) ⟨_,_,rfl,ah.refl _,by rw[kW];exact hx3,λk hk=>by rw[show k=0 by omega,e0];exact z⟩ ?_ ?_
     . rintro i σ H4 hi ⟨v,o,rfl,S4,iv,fr⟩
       have hi:i<30:=hi;have i34:=i3.by S4
       have hin:i<n:=by
         rcases stop with e | e
         . omega
         . rcases wA i n with u | u
           . exact u
           . rw[fr n u]at e;cases e
       o_head KZ (ss:=dk ra rb ns) i34 iv (by decide) (by decide) (by rw[mU h1,du];omega) (by rw[du];omega) ((jB ok _).mono (by have:=sz.sum;omega)) (λj hj=>((p5 ok sz (k:=1) (by decide)).pow hj).mono (by decide)) (λj hj=>((p5 ok sz (k:=1) (by decide)).aE hj).mono (by decide)) (λj=>bd i hin j) (λj=>(A7 ok sz j).mono (by decide)) (λv5 H5 S5 i5=>?_);have i5:Is K H5 v5 (TN (cf ra rb ns 1 (cf ra rb ns i xs))):=i5;rw[pI]at i5;have T5:=S4.trans S5;o_head pR (hr3.by T5) (hn3.by T5) i5 (rd (i+1) (by omega)) (λH6 S6=>?_);have T6:=T5.trans S6;k_few
       . rename_i w
         have q:=q2 (i+1) (by omega) (by omega) y (λk hk=>fr k (by omega)) (by unfold cj;exact w) H6 (T3.trans T6);rw[show((i+1:Nat):Int)=1+(i:Int) by omega]at q;exact q
       . rename_i w
         refine⟨_,_,rfl,T6,i5.by S6,λk hk=>?_⟩;rcases wA k (i+1)with u | u
         . exact fr k (by omega)
         . have:k=i+1:=by omega
           subst this;unfold cj
           first | exact w | exact Bool.not_eq_false _ ▸ w
     . rintro σ H4 ⟨v,o,rfl,S4,iv,fr⟩
       k_few;exact⟨by simp;decide,q3 y (λk hk=>fr k hk) H4 (T3.trans S4)⟩
def SQ(K:wb):Sp:=λvs H Q _=>∃x0 x1,vs=[x0,x1] /\ ∃(h:Rat)(xs:List Rat)(ds:List wC),Is K H x0 (.tuple (N h::TN xs::ds))/\x1=.int (xs.length:Int)/\xs.length<=8 /\ ∀H',ah H H'->Q (.bl true) H'
theorem Ri(i:Is K H v (.tuple (N h::TN xs::ds)))(h8:xs.length<=8)(q:∀H',ah H H'->Q (.bl true) H'):SQ K [v,.int (xs.length:Int)] H Q E:=⟨_,_,rfl,h,xs,ds,i,rfl,h8,q⟩
theorem Pu(T:Txt K mg a):aH P w K mg base aR 3 a.Js a.HK yW (SQ K):=by
 refine T.Bs.F.ok zrj ?_ ?_;walk_at "b2"
 refine⟨_,(ar (bR (PW.pt (fG (cW (cz (au (oY T) hr T.mK (ae (ao (pv 0)) af)))) (fG (cW (cz (bE (show aK _ (.builtin "isinstance") (eQ K)from jt) rfl T.z_isinstance jb (ae (ao (pv 0)) (ae (iH (v:=.ty "tuple") rfl T.z_tuple d5 rfl) af))))) (iC (bZ (show aN _ (wT .NotEq) (gc K)from kz hu) (bE (show aK _ (.builtin "len") (dj K)from eA) rfl T.z_len dU (ae (ao (pv 0)) af)) (pv 1) (bC _)))))) (av (aB eF)) bS)
     (av (aB (bE (show aK _ (.builtin "all") (kK K)from oK rfl) rfl T.z_all oE (ae (d7 rfl (cR.by (N':=["phase"]) (src:=[none]) rfl (show dg _ (aC zP).names yl ["phase"] [none]=true from by decide +kernel)) (j9 (ao (pv 0))) (λ_ _ _ _ _=>(bQ (i:=0) (show(["phase"]:List Str).Nodup from by decide) rfl (Or.inl rfl))) (λ_ _ _ _ _=>dN) (λ_ _ _ _ _=>(au (oY (K:=K) (mg:=mg) (a:=a) T) hr T.mK (ae (pv 0) af)))) af))))),?_⟩
 walk_at "cl";rw[show start yl [x0,x1]=[some x0,some x1]from rfl];obtain⟨hh,xs,ds,hi,rfl,h8,q⟩:=h;o_head aA (j:=0) hi rfl (λv0 i0=>?_);k_few
 all_goals first | (rename_i e;rw[rN]at e;cases (show true=false from e)) | skip
 refine aA (j:=1) hi rfl (λv1 i1=>?_);k_few
 all_goals first | (rename_i e;cases (show true=false from e)) | skip
 refine aA (j:=1) hi rfl (λv2 i2=>?_);o_head K_ i2 ?_;k_few
 all_goals first | (rename_i e;exact absurd rfl e) | skip
 refine aA (j:=1) hi rfl (λv3 i3=>?_);k_few;obtain⟨a3,vs3,rfl,s3,t3⟩:=bX.mp i3;refine jz s3 (o0:=none) (tl:=[]) rfl (λj y _=>y=.bl true) ?_ ?_
 . intro D j x ys o H1 hx inv
   obtain⟨hj,ix⟩:=dD t3 hx;have ix:=ix.by inv.2.2.1;k_few;rw[rN];exact d8 inv (by omega) (λ_ _ _ _ _ h=>h) ⟨_,rfl⟩ (ah.refl _) rfl
 . intro D ys H1 n1 S1 e1 l1 r1
   have ey:ys=(vc ys.length true).map V.bl:=by
     refine WN (by simp) λi h1 h2=>?_
     rw[r1 i ys[i] (wc h1)];simp
   rw[ey]at e1;o_head l_ (.of e1) ?_;rw[show(vc ys.length true).all id=true by simp];exact q _ S1
def Rv(K:wb):Sp:=λvs H Q _=>∃x0 x1,vs=[x0,x1] /\ ∃(h:Rat)(xs:List Rat)(f g:Int),Is K H x0 (.tuple [N h,TN xs,.int f,.int g])/\x1=.int (xs.length:Int)/\xs.length<=8/\0<=f/\f<=30/\0<=g/\g<=40 /\ ∀H',ah H H'->Q (.bl true) H'
theorem zwF{f g:Int}(e:xs.length=n)(i:Is K H v (.tuple [N h,TN xs,.int f,.int g]))(h8:xs.length<=8)(f0:0<=f)(f1:f<=30)(g0:0<=g)(g1:g<=40)(q:∀H',ah H H'->Q (.bl true) H'):Rv K [v,.int (n:Int)] H Q E:=⟨_,_,rfl,h,xs,f,g,i,by rw[e],h8,f0,f1,g0,g1,q⟩
theorem zwn(T:Txt K mg a):aH P w K mg base aR 4 a.Ko a.Jn Ac (Rv K):=by
 refine T.JK.F.ok zw9 ?_ ?_;walk_at "b2"
 refine⟨_,(ar (bR (PW.pt (fG (cW (cz (bE (show aK _ (.builtin "isinstance") (eQ K)from jt) rfl T.z_isinstance jb (ae (pv 0) (ae (iH (v:=.ty "tuple") rfl T.z_tuple d5 rfl) af))))) (fG (bZ (show aN _ (wT .NotEq) (gc K)from kz hu) (bE (show aK _ (.builtin "len") (dj K)from eA) rfl T.z_len dU (ae (pv 0) af)) ay (bC _)) (iC (cW (cz (au (Pu T) hr T.Bs (ae (pv 0) (ae (pv 1) af))))))))) (av (aB eF)) bS)
     (av (aB (eU (au (Lj T) hr T.Bk (ae ay (ae (lY rfl T.Ir) (ae (ao (pv 0)) af)))) (gK (au (Lj T) hr T.Bk (ae ay (ae (lY rfl T.YM) (ae (ao (pv 0)) af))))))))),?_⟩
 walk_at "cl";rw[show start Cd [x0,x1]=[some x0,some x1]from rfl];obtain⟨hh,xs,f,g,hi,rfl,h8,f0,f1,g0,g1,q⟩:=h;k_few
 all_goals first | (rename_i e;cases (show true=false from e)) | skip
 refine ly hi ?_;k_few
 all_goals first | (rename_i e;exact absurd rfl e) | skip
 refine Ri hi h8 (λH1 S1=>?_);have hi1:=hi.by S1;o_head aA (j:=2) hi1 rfl (λv2 i2=>?_);o_head KS i2 ?_;rw[show mB 0 30 (.int f)=true by simp[mB,f0,f1]];o_head aA (j:=3) hi1 rfl (λv3 i3=>?_);o_head KS i3 ?_;rw[show mB 0 40 (.int g)=true by simp[mB,g0,g1]];exact q _ S1
def iL(w:String):Prop:=w="one"\/w="rests"\/w="drawn"
def O5(K:wb):Sp:=λvs H Q _=>∃x0 x1,vs=[x0,x1] /\ ∃(h:Rat)(xs:List Rat)(w:String),Is K H x0 (.tuple [N h,TN xs,.str (wW w)])/\x1=.int (xs.length:Int)/\xs.length<=8/\iL w /\ ∀H',ah H H'->Q (.bl true) H'
theorem znE{w:String}(e:xs.length=n)(i:Is K H v (.tuple [N h,TN xs,.str (wW w)]))(h8:xs.length<=8)(hw:iL w)(q:∀H',ah H H'->Q (.bl true) H'):O5 K [v,.int (n:Int)] H Q E:=⟨_,_,rfl,h,xs,w,i,by rw[e],h8,hw,q⟩
def pf:List wC:=[.str (wW "one"),.str (wW "rests"),.str (wW "drawn")]
theorem yy{w:PySem.Str}(h:XI w=true):Sh 1 (.str w):=⟨by simpa [vU] using h,by simp[Vg]⟩
theorem zuJ :vU (.tuple pf)=true:=(nZ (n:=1) λd hd=>by
 simp only[pf,wF,WA,or_false]at hd;rcases hd with rfl | rfl | rfl<;>exact yy (sk _)).1
theorem zCq{w:String}(t:aU K H p [.str (wW "one"),.str (wW "rests"),.str (wW "drawn")])(h:iL w)(q:Q (.bl true) H):p0 K (.str (wW w)) (.ref p) H Q:=by
 refine⟨.str (wW w),pf,eX.mpr rfl,bX.mpr ⟨p,_,rfl,t,.cons (eX.mpr rfl) (.cons (eX.mpr rfl) (.cons (eX.mpr rfl) .nil))⟩,(yy (sk _)).mono (by decide),zuJ,?_⟩
 rw[show pf.any (wY · (.str (wW w)))=true by
  unfold pf;simp only[Qt,List.any_nil,wY,Ud,uM,beq_iff_eq];rcases h with rfl | rfl | rfl<;>simp]
 exact q
theorem zmS(T:Txt K mg a):aH P w K mg base aR 4 a.Iw a.Hg v_ (O5 K):=by
 refine T.HA.F.ok zov ?_ ?_;walk_at "b2";have hgd:=hr.gd
 refine⟨_,(ar (bR (PW.pt (fG (cW (cz (bE (show aK _ (.builtin "isinstance") (eQ K)from jt) rfl T.z_isinstance jb (ae (pv 0) (ae (iH (v:=.ty "tuple") rfl T.z_tuple d5 rfl) af))))) (fG (bZ (show aN _ (wT .NotEq) (gc K)from kz hu) (bE (show aK _ (.builtin "len") (dj K)from eA) rfl T.z_len dU (ae (pv 0) af)) ay (bC _)) (iC (cW (cz (au (Pu T) hr T.Bs (ae (pv 0) (ae (pv 1) af))))))))) (av (aB eF)) bS)
     (av (aB (eU (bE (show aK _ (.builtin "isinstance") (eQ K)from jt) rfl T.z_isinstance jb (ae (ao (pv 0)) (ae (iH (v:=.ty "str") rfl T.z_str zDn rfl) af))) (gK (e_ (show aN _ (wT .In) (p0 K)from OS hu) (ao (pv 0)) (b_ (v:=.ref a.BG) rfl T.YY rfl) (by with_unfolding_all rfl))))))),?_⟩
 walk_at "cl";rw[show start CQ [x0,x1]=[some x0,some x1]from rfl];obtain⟨hh,xs,ww,hi,rfl,h8,hw,q⟩:=h;k_few
 all_goals first | (rename_i e;cases (show true=false from e)) | skip
 refine ly hi ?_;k_few
 all_goals first | (rename_i e;exact absurd rfl e) | skip
 refine Ri hi h8 (λH1 S1=>?_);have hi1:=hi.by S1;o_head aA (j:=2) hi1 rfl (λv2 i2=>?_);o_head zxJ i2 ?_;rw[show Ct (.str (wW ww))=true from rfl];o_head aA (j:=2) hi1 rfl (λv3 i3=>?_);cases eX.mp i3;k_few;exact zCq (T.YW _) hw (q _ S1)
structure g6 where
 h:Rat
 xs:List Rat
 r:Nat
 g:Nat
def g6.d(e:g6):wC:=.tuple [N e.h,TN e.xs,.int (e.r:Int),.int (e.g:Int)]
def oh(h:Rat)(xs:List Rat)(w:String):wC:=.tuple [N h,TN xs,.str (wW w)]
def O2(K:wb):Sp:=λvs H Q _=>∃x0 x1,vs=[x0,x1] /\ ∃(n:Nat)(ps:List g6)(h:Rat)(xs:List Rat)(w:String),Is K H x0 (.list (ps.map g6.d++[oh h xs w]))/\x1=.int (n:Int)/\n<=8/\(∀e∈ps,e.xs.length=n/\e.r<=30/\e.g<=40)/\xs.length=n/\iL w/\ps.length<=100 /\ ∀H',ah H H'->Q (.bl true) H'
theorem zrZ{ps:List g6}{w:String}(i:Is K H v (.list (ps.map g6.d++[oh h xs w])))(h8:n<=8)(hp:∀e∈ps,e.xs.length=n/\e.r<=30/\e.g<=40)(hx:xs.length=n)(hw:iL w)(bN:ps.length<=100)(q:∀H',ah H H'->Q (.bl true) H'):O2 K [v,.int (n:Int)] H Q E:=⟨_,_,rfl,n,ps,h,xs,w,i,rfl,h8,hp,hx,hw,bN,q⟩
theorem zwD(ds:List α)(d : α):L2.cutD (ds++[d]) none (some (-1))=ds:=by
 unfold L2.cutD;have e1:HT.aX (ds++[d]).length 0 none=0:=by simp[HT.aX]
 have e2:HT.aX (ds++[d]).length (ds++[d]).length (some (-1))=ds.length:=by
  rw[wR,vV];simp[HT.aX];omega
 rw[e1,e2];simp
theorem zEs{ps:List g6}{us:List V}(t:ak K H us (ps.map g6.d)){x:V}(hx:us[i]? = some x):∃e∈ps,i<ps.length/\Is K H x e.d:=by
 obtain⟨hi,ix⟩:=jq t hx;rw[wm]at hi;refine⟨ps[i],vK hi,hi,?_⟩;rw[wa,wu,wc hi]at ix;exact ix
theorem zrT(T:Txt K mg a):aH P w K mg base aR 5 a.JR a.Ij zL (O2 K):=by
 refine T.IG.F.ok zs8 ?_ ?_;walk_at "b2"
 refine⟨_,(ar (bR (PW.pt (fG (cW (cz (bE (show aK _ (.builtin "isinstance") (eQ K)from jt) rfl T.z_isinstance jb (ae (pv 0) (ae (iH (v:=.ty "list") rfl T.z_list kY rfl) af))))) (iC (cW (sR (pv 0)))))) (av (aB eF)) bS)
     (av (aB (eU (bE (show aK _ (.builtin "all") (kK K)from oK rfl) rfl T.z_all oE (ae (d7 rfl (cR.by (N':=["row","worms"]) (src:=[none,some 1]) rfl (show dg _ (aC sV).names Af ["row","worms"] [none,some 1]=true from by decide +kernel)) (gA (jQ j8 (pv 0) j4 (j3 (gI gB ay)))) (λ_ _ _ _ _=>(bQ (i:=0) (show(["row","worms"]:List Str).Nodup from by decide) rfl (Or.inl rfl))) (λ_ _ _ _ _=>dN) (λ_ _ _ _ _=>(au (zwn (K:=K) (mg:=mg) (a:=a) T) hr T.JK (ae (pv 0) (ae (pv 1) af))))) af)) (gK (au (zmS T) hr T.HA (ae (dJ di (pv 0) (gI gB ay) (λ_ _=>rfl)) (ae (pv 1) af)))))))),?_⟩
 walk_at "cl";rw[show start Af [x0,x1]=[some x0,some x1]from rfl];obtain⟨n,ps,hl',xs,wd,hi,rfl,h8,hp,hx',hw,bN,q⟩:=h;o_head zyC hi ?_;rw[show k_ (PyData.list (ps.map g6.d++[oh hl' xs wd]))=true from rfl];o_head CN hi ?_;rw[show(!(ps.map g6.d++[oh hl' xs wd]).isEmpty)=true by simp];o_head lF hi (λl1 H1 us n1 S1 e1 t1=>?_);rw[zwD]at t1;have lt:=t1.length;rw[wm]at lt;o_head jC (.of e1) (o0:=none) (tl:=[some (.int (n:Int))]) rfl (λj y _=>y=.bl true) ?_ ?_
 . intro D j x ys o H2 hx inv
   obtain⟨e,he,hj,ir⟩:=zEs t1 hx;obtain⟨p1,p2,p3⟩:=hp e he;unfold g6.d at ir;o_head zwF p1 (ir.by inv.2.2.1) (by omega) (by omega) (by omega) (by omega) (by omega) (λH3 S3=>?_);k_few;exact d8 inv (by omega) (λ_ _ _ _ _ h=>h) ⟨_,rfl⟩ S3 rfl
 . intro D ys H2 n2 S2 e2 l2 r2
   have ey:ys=(vc ys.length true).map V.bl:=by
     refine WN (by simp) λi h1 h2=>?_
     rw[r2 i ys[i] (wc h1)];simp
   rw[ey]at e2;o_head l_ (.of e2) ?_;rw[show(vc ys.length true).all id=true by simp];have T2:=S1.trans S2;o_head lM (hi.by T2) (λv3 i3=>?_);unfold oh at i3;o_head znE hx' i3 (by omega) hw (λH3 S3=>?_);exact q _ (T2.trans S3)
theorem pH{a:Rat}(ok:aS a b)(L:fJ xs (ps++[0]) fl ns)(hn:ns.length=ps.length+1)(f:dG a b ns ps=true) :
  fJ (ai a b xs ns.length) (cK a b ns ps++[0]) fl ns/\(∀t,t<ns.length->cE a b (ai a b xs t)=[bD xs.length fl t])/\aF a b xs ns.length=fu a b ns ps:=by
 have hl:(ps++[0]).length=ns.length:=by simp[hn]
 have iI:∀t,t<(ps++[0]).length->eJ a b ns (ps++[0]) t<1:=λt ht=>by
  have:=(p7.mp f).2 t (by omega);rw[kr (by omega)]at this;unfold eJ;rw[hl];exact this
 obtain⟨P,F,_,W⟩:=Ab ok.a0 ok.b0 L _ (wo _) iI;have ht:=RO ok.a0 ok.b0 L _ (wo _) iI;rw[hl]at P W ht;rw[<- BQ hn]at P;have st:=PU (Nh ok hn f);have hbl:=mI (a:=a) (b:=b) hn;have hbl2:(cK a b ns ps++[0]).length=(ps++[0]).length:=by simp[hbl]
 have hpl:=aY a b xs ns.length;refine⟨⟨P,st.1,st.2,by rw[hbl2];exact L.len,λc hc=>?_,λc hc=>?_⟩,W,?_⟩
 ·rw[hpl];exact L.some c (by omega)
 ·rw[hpl];exact L.size c (by omega)
 ·rw[ht];rfl
theorem mG{a b:Rat}(ok:aS a b){xs ps:List Rat}{fl:Nat->Nat}{ns:List Int}(L:fJ xs (ps++[0]) fl ns)(hn:ns.length=ps.length+1)(n0:∀n∈ns,0<=n):∀k,(∀j,j<k->cj a b ns ps j=true) ->
  fJ (ai a b xs (k*ns.length)) (cf a b ns k ps++[0]) fl ns/\aF a b xs (k*ns.length)=rH a b ns ps k
 | 0,_=>by
  rw[xr,kW];exact⟨L,rfl⟩
 | k+1,h=>by
  obtain⟨Lk,Hk⟩:=mG ok L hn n0 k λj hj=>h j (by omega)
  have hl:ns.length=(cf a b ns k ps).length+1:=by rw[du];exact hn
  obtain⟨L1,_,H1⟩:=pH ok Lk hl (h k (by omega));rw[cw,<- p8 hl n0,pI]at L1;have e:(k+1)*ns.length=k*ns.length+ns.length:=qB ..;rw[e];refine⟨L1,?_⟩;rw[<- kj,Hk,H1]
  rfl
theorem zwH{a:Rat}(ok:aS a b)(L:fJ xs (ps++[0]) fl ns)(hn:ns.length=ps.length+1)(n0:∀n∈ns,0<=n){t:Nat}(h:∀j,j<k+1->cj a b ns ps j=true)(ht:t<ns.length):cE a b (ai a b xs (k*ns.length+t))=[bD xs.length fl t]:=by
 obtain⟨Lk,_⟩:=mG ok L hn n0 k λj hj=>h j (by omega)
 have hl:ns.length=(cf a b ns k ps).length+1:=by rw[du];exact hn
 have:=(pH ok Lk hl (h k (by omega))).2.1 t ht;rw[cw,aY]at this;exact this
theorem PC{a b:Rat}(a0:0<a)(b0:0<=b){xs row:List Rat}{fl:Nat->Nat}{ns:List Int}(L:fJ xs row fl ns):∀n,n<=row.length->(¬ ∀t,t<n->eJ a b ns row t<1)->∃t,t<n/\1<(cE a b (ai a b xs t)).length
 | 0,_,z=>absurd (λt ht=>by omega) z
 | n+1,hn,z=>by
  by_cases y:∀t,t<n->eJ a b ns row t<1
  ·refine⟨n,by omega,zwv a0 b0 L (by omega) y (λu=>z λt ht=>?_)⟩
   rcases wA t n with k | k
   ·exact y t k
   ·have:t=n:=by omega
    rw[this];exact u
  ·obtain⟨t,h1,h2⟩:=PC a0 b0 L n (by omega) y
   exact⟨t,by omega,h2⟩
theorem zwC{a:Rat}(ok:aS a b)(L:fJ xs (ps++[0]) fl ns)(hn:ns.length=ps.length+1)(f:dG a b ns ps=false):∃t,t<ns.length/\1<(cE a b (ai a b xs t)).length:=by
 have hl:(ps++[0]).length=ns.length:=by simp[hn]
 refine PC ok.a0 ok.b0 L ns.length (by omega) λz=>?_
 have:dG a b ns ps=true:=p7.mpr ⟨Py L.mR.pw L.one,λi hi=>by
  have:=z i hi;unfold eJ at this;rw[hl]at this;rw[kr hi];exact this⟩
 rw[f]at this;cases this
theorem Ff{row:List Rat}(L:fJ xs row fl ns)(hn:xs.length=n):((wt n).map λw=>row.getD (fl w) 0)=xs:=by
 refine kg (by simp[hn]) λw hw=>?_
 have hw:w<n:=by simpa using hw
 rw[L.pl.at' w (by omega),wa,wu,vM hw]
 rfl
theorem FV(h1:1<=xs.length)(h8:xs.length<=8):dq (aW xs):=by
 have hs:=yi xs;have hv:=kU xs;have hp:=nP h1;refine⟨by omega,by omega,λn hn=>?_,?_⟩
 ·have h2:=ztM xs n hn
  refine⟨?_,by omega⟩;obtain⟨v,hv,rfl⟩:=wU.mp hn;have hm:=ky hv;obtain⟨j,hj,e⟩:=wX hm;have:j∈f_ xs v:=vg.mpr ⟨wH.mpr hj,decide_eq_true (by rw[wa,wc hj];exact e)⟩;have:=qt this;omega
 ·have h3:=PB xs
  have:=tG (kN xs);omega
def fE(a b:Rat)(xs:List Rat)(r:Nat):Prop:=∀k,k<r->cj a b (aW xs) (bA xs) k=true
structure fv(a b:Rat)(xs:List Rat):Prop where
 ok:aS a b
 h1:1<=xs.length
 h8:xs.length<=8
 hp:cq xs
 h0:0∈xs
 cm:Cm 3600 xs
theorem fv.round{a:Rat}(h:fv a b xs):cU a b (aW xs) (bA xs)/\dq (aW xs)/\(aW xs).length=(bA xs).length+1:=by
 have hz:bA xs++[0]=aj xs:=BX h.hp h.h0;have h8:=h.h8;have sz:=FV h.h1 h8;have hsl:=yi xs;have hvl:=kU xs;have hsu:=NO xs;have hpl:(bA xs).length+1=(aj xs).length:=by rw[<- hz];simp
 refine⟨⟨h.ok.ba,h.ok.bb,λn hn=>by have:=sz.each n hn;omega,by omega,by omega,⟨3600,pe h.cm,by omega⟩⟩,sz,by omega⟩
def Tr(K:wb):Sp:=λvs H Q _=>∃x0 x1,vs=[x0,x1] /\ ∃(a b:Rat)(xs:List Rat)(r:Nat),x1=.int (r:Int)/\Is K H x0 (aZ a b xs)/\fv a b xs/\1<=r/\r<=30/\fE a b xs r /\ ∀H',ah H H'->Q (.bl true) H'
theorem zuc{a:Rat}(h:Is K H v (aZ a b xs))(ok:fv a b xs)(r1:1<=r)(h30:r<=30)(f:fE a b xs r)(q:∀H',ah H H'->Q (.bl true) H'):Tr K [v,.int (r:Int)] H Q E:=⟨_,_,rfl,a,b,xs,r,rfl,h,ok,r1,h30,f,q⟩
theorem zuT(T:Txt K mg a):aH P w K mg base aR 9 a.J6 a.IW zV (Tr K):=by
 refine T.Jg.F.ok Ej ?_ ?_;walk_at "b2"
 refine⟨_,(ar (bR (cW (cz (au (Fp T) hr T.sx (ae (pv 0) af)))) (av (aB eF)) bS)
     (ar (az 2 Ej.nd (mC (Ay T) hr T.oQ Fq (ae (pv 0) af)))
     (ar (az 3 Ej.nd (au (OO T) hr T.Bm (by exact(@ae _ _ _ _ _ (ao (pv 0)) (@ae _ _ _ _ _ (ao (pv 2)) (@ae _ _ _ _ _ (ao (pv 2)) (@ae _ _ _ _ _ (aD jF (pv 1) ay) af zue) ff) ff) ff))))
     (av (aB (eU (au (rJ T) hr T.mO (ae (ao (pv 0)) (ae (ao (pv 2)) (ae (ao (pv 2)) af)))) (gK (au (rJ T) hr T.mO (ae (ao (pv 0)) (ae (ao (pv 2)) (ae (pv 3) af))))))))))),?_⟩
 walk_at "cl";rw[show start Yd [x0,x1]=[some x0,some x1,none,none]from rfl];obtain⟨ra,rb,xs,r,rfl,hw,ok,r1,h30,fr,q⟩:=h;obtain⟨rok,sz,hn⟩:=ok.round;have h8:=ok.h8;have bx:∀i,ag 4000 (xs.getD i 0):=λi=>(ok.cm.get i).mono (by decide)
 have cp:Cm 3600 (bA xs):=pe ok.cm;have e1:((r:Int)-1).toNat=r-1:=by omega
 have hlk:d9 ra rb (aW xs) ((r:Int)-1).toNat:=p5 ok.ok sz (by omega);have hbp:∀i,ag 6900 ((bA xs).getD i 0):=λi=>(cp.get i).mono (by decide)
 have f0:dG ra rb (aW xs) (bA xs)=true:=by
   have:=fr 0 (by omega);unfold cj at this;rw[kW]at this;exact this
 have f1:dG ra rb (aW xs) (cf ra rb (aW xs) (r-1) (bA xs))=true:=fr (r-1) (by omega);o_head Cq hw ?_;rw[decide_eq_true ok.h0];o_head Be hw h8 bx (λz=>absurd ok.h0 z) (λ_ vl H1 S1 il=>?_);have hw1:=hw.by S1;o_head aA (j:=0) hw1 rfl (λvr ir=>?_);o_head aA (j:=0) il rfl (λvz iz=>?_);o_head aA (j:=1) il rfl (λvp ip=>?_);o_head Yj ir iz ip hn (by omega) hlk hbp (λv2 H2 S2 i2=>?_);rw[e1]at i2;o_head aA (j:=0) (hw1.by S2) rfl (λvr2 ir2=>?_);o_head aA (j:=0) (il.by S2) rfl (λvz2 iz2=>?_);o_head aA (j:=1) (il.by S2) rfl (λvp2 ip2=>?_);o_head pR ir2 iz2 ip2 rok (λH3 S3=>?_);rw[f0];have S23:=S2.trans S3;o_head aA (j:=0) (hw1.by S23) rfl (λvr3 ir3=>?_);o_head aA (j:=0) (il.by S23) rfl (λvz3 iz3=>?_);o_head pR ir3 iz3 (i2.by S3) (Ef ok.ok sz hn cp (by decide) (by omega)) (λH4 S4=>?_);rw[f1];exact q _ (S1.trans (S23.trans S4))
def KL(K:wb):Sp:=λvs H Q _=>∃x0 x1,vs=[x0,x1] /\ ∃(a b:Rat)(xs:List Rat)(r:Nat),x1=.int (r:Int)/\Is K H x0 (aZ a b xs)/\fv a b xs/\r<=30/\fE a b xs r /\ ∀v H',ah H H'->Is K H' v (BD a b xs (r*(aj xs).length))->Q v H'
theorem Dk{a:Rat}(h:Is K H v (aZ a b xs))(ok:fv a b xs)(h30:r<=30)(f:fE a b xs r)(q:∀v H',ah H H'->Is K H' v (BD a b xs (r*(aj xs).length))->Q v H'):KL K [v,.int (r:Int)] H Q E:=⟨_,_,rfl,a,b,xs,r,rfl,h,ok,h30,f,q⟩
theorem CD{K:wb}{H:Hp} : ∀{xs:List Rat}{us:List V},ak K H us (xs.map N)->∃cs:List we,us=cs.map V.ref
 | [],us,h=>⟨[],g_.mp h⟩
 | x::xs,us,h=>by
  obtain⟨v,r,rfl,iv,t⟩:=eG.mp h;obtain⟨a,_,rfl,_,_⟩:=bX.mp (show Is K H v (.tuple _)from iv);obtain⟨cs,rfl⟩:=CD t;exact⟨a::cs,rfl⟩
def fU(x:Rat):List Int:=[x.num,(x.den:Int)]
theorem zxM(h:fU x=fU y):x=y:=by
 unfold fU at h
 injection h with h1 h2
 injection h2 with h2 _
 exact u6 h1 (by omega)
theorem zuw(h:xs.Nodup):(xs.map fU).Nodup:=by
 unfold List.Nodup at *;rw[qw];exact h.imp λ{a b} n e=>n (zxM e)
theorem L0(h:j<xs.length):(xs.map fU).getD j []=fU (xs.getD j 0):=by
 rw[wa,wu,wa,wc h]
 rfl
theorem Zk{ks:List (List Int)}{us ws:List we}(nd:ks.Nodup)(hl:ks.length=us.length)(hj:j<us.length):l8 (gJ ks us ws) (ks.getD j [])=some (ws.getD j 0):=by
 unfold l8 gJ;rw[List.find?_map];have pw:=We.mp nd;cases e:(wt us.length).find? ((λx:NE=>decide (x.1=ks.getD j [])) ∘ λj=>(ks.getD j [],us.getD j 0,ws.getD j 0))with
 | none =>
  have:=List.find?_eq_none.mp e j (wH.mpr hj);simp at this
 | some i =>
  have hm:=wH.mp (xj e);have hp:=uW e;have hp:ks.getD i []=ks.getD j []:=of_decide_eq_true hp;have hi:i<ks.length:=by omega
  have hj':j<ks.length:=by omega
  rw[wa,wa,wc hi,wc hj']at hp
  have hij:i=j:=by
   rcases WU i j with z | z | z
   ·exact absurd hp (pw i j hi hj' z)
   ·exact z
   ·exact absurd hp.symm (pw j i hj' hi z)
  rw[hij];rfl
theorem zxd{cs ws:List we}(t:ak K H (cs.map V.ref) (xs.map N)):yB K H (gJ (xs.map fU) cs ws):=by
 intro x hx;obtain⟨j,hj,rfl⟩:=wU.mp hx;have hj:=wH.mp hj;have hl:=t.length;simp only[wm]at hl;have:=(dD t (i:=j) (x:=.ref (cs.getD j 0)) (by rw[wu,wa,wc hj];rfl)).2
 show Is K H (.ref (cs.getD j 0)) (TZ ((xs.map fU).getD j []))
 rw[L0 (by omega)];exact this
theorem KR(T:Txt K mg a):aH P w K mg base aR 9 a.Hz a.GX A9 (KL K):=by
 refine T.Bn.F.ok pK ?_ ?_;walk_at "b2"
 refine⟨_,(ar (az 2 pK.nd (mC (Ay T) hr T.oQ Fq (ae (pv 0) af)))
     (ar (az 3 pK.nd (au (OO T) hr T.Bm (by exact(@ae _ _ _ _ _ (ao (pv 0)) (@ae _ _ _ _ _ (ao (pv 2)) (@ae _ _ _ _ _ (ao (pv 2)) (@ae _ _ _ _ _ (pv 1) af fQ) ff) ff) ff))))
     (ar (az 4 pK.nd (zx7 rfl (W7 (Xx (by decide) _) hu) rfl T.z_dict rfl T.z_zip (ae (aD (show aN _ (WC .Add) (o_ K)from Ge) (ao (pv 2)) (br (ae (b_ (v:=.ref a.dA) rfl T.dX rfl) af))) (ae (aD (show aN _ (WC .Add) (o_ K)from Ge) (pv 3) (br (ae (b_ (v:=.ref a.dA) rfl T.dX rfl) af))) af))))
     (ar (az 5 pK.nd (dY (show aK _ (.type "tuple") (eS K)from fZ) rfl T.z_tuple d5 (ae (d7 rfl (cR.by (N':=["phase","now"]) (src:=[none,some 4]) rfl (show dg _ (aC tQ).names Ew ["phase","now"] [none,some 4]=true from by decide +kernel)) (j9 (ao (pv 0))) (λ_ _ _ _ _=>(bQ (i:=0) (show(["phase","now"]:List Str).Nodup from by decide) rfl (Or.inl rfl))) (λ_ _ _ _ _=>dN) (λ_ _ _ _ _=>(show PE _ _ (F7 K _ _)from(zzk (by exact(W7 (Xx (by decide) _) hu)) (pv 1) (pv 0) (λ_ _=>rfl))))) af)))
     (av (aB (br (ae (au (znA T) hr T.Hu (by exact(@ae _ _ _ _ _ (ao (pv 0)) (@ae _ _ _ _ _ (ao (pv 2)) (@ae _ _ _ _ _ (ao (pv 2)) (@ae _ _ _ _ _ (pv 1) af fQ) ff) ff) ff))) (ae (br (ae (ao (pv 0)) (ae (pv 5) af))) af))))))))),?_⟩
 walk_at "cl";rw[show start Ew [x0,x1]=[some x0,some x1,none,none,none,none]from rfl];obtain⟨ra,rb,xs,r,rfl,hw,ok,h30,fr,q⟩:=h;have hz:bA xs++[0]=aj xs:=BX ok.hp ok.h0;have h1:=ok.h1;have h8:=ok.h8;have sz:=FV h1 h8;have hsl:=yi xs;have hvl:=kU xs;have hvp:=nP h1;have hpl:(bA xs).length+1=(aj xs).length:=by rw[<- hz];simp
 have hn:(aW xs).length=(bA xs).length+1:=by omega
 have L:fJ xs (bA xs++[0]) (aV xs) (aW xs):=by rw[hz];exact SW ok.hp.nn ok.hp.lt
 obtain⟨Lr,Hr⟩:=mG ok.ok L hn (kN xs) r fr;rw[hsl]at Lr Hr;have hel:=Ff Lr (aY ra rb xs _);have bx:∀i,ag 4000 (xs.getD i 0):=λi=>(ok.cm.get i).mono (by decide)
 have cp:Cm 3600 (bA xs):=pe ok.cm;have hlk:d9 ra rb (aW xs) ((r:Int)).toNat:=by rw[wP];exact p5 ok.ok sz (by omega)
 have hbp:∀i,ag 6900 ((bA xs).getD i 0):=λi=>(cp.get i).mono (by decide)
 o_head Be hw h8 bx (λz=>absurd ok.h0 z) (λ_ vl H1 S1 il=>?_);have hw1:=hw.by S1;o_head aA (j:=0) hw1 rfl (λvr ir=>?_);o_head aA (j:=0) il rfl (λvz iz=>?_);o_head aA (j:=1) il rfl (λvp ip=>?_);o_head Yj ir iz ip hn (by omega) hlk hbp (λv2 H2 S2 i2=>?_);rw[wP]at i2;o_head aA (j:=1) (il.by S2) rfl (λvp2 ip2=>?_);o_head cB (ds:=[N 0]) (by simp) (.cons (eC 0 (T.eW _) rfl rfl) .nil) (λv3 H3 S3 i3=>?_);refine Gv (ip2.by S3) i3 (by rw[wm];simp;omega) (λv4 H4 S4 i4=>?_);o_head cB (ds:=[N 0]) (by simp) (.cons (eC 0 (T.eW _) rfl rfl) .nil) (λv5 H5 S5 i5=>?_);have S25:=S3.trans (S4.trans S5);refine Gv (i2.by S25) i5 (by rw[wm,du];simp;omega) (λv6 H6 S6 i6=>?_)
 have i46:Is K H6 v4 (TN (aj xs)):=by
   have:=i4.by (S5.trans S6);rw[<- hz];unfold TN;rw[vA];exact this
 have i66:Is K H6 v6 (TN (cf ra rb (aW xs) r (bA xs)++[0])):=by
   unfold TN;rw[vA];exact i6
 have S16:=S2.trans (S25.trans S6);have hw6:=hw1.by S16;have il6:=il.by S16;have T6:=S1.trans S16;clear hw hw1 il ir iz ip i2 ip2 i3 i4 i5 i6 S1 S2 S3 S4 S5 S6 S25 S16;have hrl:(cf ra rb (aW xs) r (bA xs)++[0]).length=(aj xs).length:=by rw[wR,du];simp;omega
 generalize cf ra rb (aW xs) r (bA xs)++[0]=row at *;obtain⟨aa,us,rfl,hs1,tu⟩:=bX.mp i46;obtain⟨ab,ws,rfl,hs2,tw⟩:=bX.mp i66;obtain⟨cs,rfl⟩:=CD tu;obtain⟨ds,rfl⟩:=CD tw;have hcl:=tu.length;have hdl:=tw.length;simp only[wm]at hcl hdl;have nd:=zuw (Et xs);have hkl:((aj xs).map fU).length=cs.length:=by rw[wm];omega
 o_head ⟨aa,ab,(aj xs).map fU,cs,ds,rfl,hs1,hs2,by omega,by omega,?_,nd,λD ep hD=>?_⟩
 . rw[WM]
   exact tu
 . have S7:ah H6 (upd H6 D (ie D ep (gJ ((aj xs).map fU) cs ds))):=ah.upd hD
   have e7:upd H6 D (ie D ep (gJ ((aj xs).map fU) cs ds)) D=some (ie D ep (gJ ((aj xs).map fU) cs ds)):=cX;generalize upd H6 D (ie D ep (gJ ((aj xs).map fU) cs ds))=H7 at *;have tu7:ak K H7 (cs.map V.ref) ((aj xs).map N):=ak.same S7 _ _ tu;have tw7:ak K H7 (ds.map V.ref) (row.map N):=ak.same S7 _ _ tw;have hw7:=hw6.by S7;o_head aA (j:=1) hw7 rfl (λvq iq=>?_);obtain⟨aq,uq,rfl,hsq,tq⟩:=bX.mp iq;have hql:=tq.length;rw[wm]at hql;refine jz hsq (o0:=none) (tl:=[some (.ref D)]) rfl (λj y H'=>Is K H' y (N (((wt xs.length).map λw=>row.getD (aV xs w) 0).getD j 0))) ?_ ?_
   . intro D' j x ys o H8 hx inv
     obtain⟨hj,ix⟩:=dD tq hx;have S8:=inv.same;obtain⟨ax,_,rfl,_,_⟩:=bX.mp (show Is K H7 x (.tuple _)from ix);have hfl:=(kM xs).lt j hj;have hxe:xs.getD j 0=(aj xs).getD (aV xs j) 0:=(kM xs).at' j hj;o_head ⟨D,ax,ep,_,fU (xs.getD j 0),ds.getD (aV xs j) 0,rfl,rfl,S8 _ _ e7,zxd (ak.same S8 _ _ tu7),ix.by S8,?_,?_⟩
     . rw[hxe,<- L0 hfl]
       exact Zk nd hkl (by omega)
     . refine d8 inv (by omega) fL ⟨_,rfl⟩ (ah.refl _) ?_
       have hr:((wt xs.length).map λw=>row.getD (aV xs w) 0).getD j 0=row.getD (aV xs j) 0:=by
         rw[wa,wu,vM hj];rfl
       rw[hr];exact(dD tw7 (i:=aV xs j) (x:=.ref (ds.getD (aV xs j) 0)) (by rw[wu,wa,wc (by omega)];rfl)).2.by S8
   . intro D' ys H8 n8 S8 e8 hl8 hr8
     have t8:ak K H8 ys (((wt xs.length).map λw=>row.getD (aV xs w) 0).map N):=fY (by rw[hl8,hql];simp) hr8;rw[hel]at t8;o_head iM (dF e8 t8) (λv9 H9 S9 i9=>?_);have S69:=S7.trans (S8.trans S9);o_head aA (j:=0) (hw6.by S69) rfl (λvr9 ir9=>?_);o_head aA (j:=0) (il6.by S69) rfl (λvz9 iz9=>?_);o_head aA (j:=1) (il6.by S69) rfl (λvp9 ip9=>?_);k_few
     refine zn1 ir9 iz9 ip9 hn (by omega) hlk cp (by
       have h5:=sz.sum;rw[wP];have:(6*(aW xs).sum.toNat+3)*r<=51*30:=V2 (by omega) h30;omega) (λv10 H10 S10 i10=>?_)
     rw[wP,<- Hr]at i10;o_head aA (j:=0) (hw6.by (S69.trans S10)) rfl (λvr10 ir10=>?_);o_head cB (ds:=[R ra rb,TN (ai ra rb xs (r*(aj xs).length))]) (by simp) (.cons ir10 (.cons (i9.by S10) .nil)) (λv11 H11 S11 i11=>?_);o_head cB (ds:=[N (aF ra rb xs (r*(aj xs).length)),aZ ra rb (ai ra rb xs (r*(aj xs).length))]) (by simp) (.cons (i10.by S11) (.cons i11 .nil)) (λv12 H12 S12 i12=>?_);exact q v12 H12 (T6.trans (S69.trans (S10.trans (S11.trans S12)))) i12
def Ml(K:wb):Sp:=λvs H Q _=>∃x0 x1 x2,vs=[x0,x1,x2] /\ ∃(a b:Rat)(xs:List Rat)(r g:Nat),x1=.int (r:Int)/\x2=.int (g:Int)/\Is K H x0 (aZ a b xs)/\aS a b/\1<=xs.length/\xs.length<=8/\(1<=r->fv a b xs/\r<=30/\fE a b xs r)/\g<=40/\ag 8000 (aF a b xs (r*(aj xs).length))/\(∀i,i<=g->Cm 3700 (aF a b (ai a b xs (r*(aj xs).length)) i::ai a b (ai a b xs (r*(aj xs).length)) i)) /\ ∀v H',ah H H'->Is K H' v (BD a b xs (r*(aj xs).length+g))->Q v H'
theorem Lc{a:Rat}{g:Nat}(h:Is K H v (aZ a b xs))(ok:aS a b)(h1:1<=xs.length)(h8:xs.length<=8)(f:1<=r->fv a b xs/\r<=30/\fE a b xs r)(hg:g<=40)(c:ag 8000 (aF a b xs (r*(aj xs).length)))(c2:∀i,i<=g->Cm 3700 (aF a b (ai a b xs (r*(aj xs).length)) i::ai a b (ai a b xs (r*(aj xs).length)) i))(q:∀v H',ah H H'->Is K H' v (BD a b xs (r*(aj xs).length+g))->Q v H'):Ml K [v,.int (r:Int),.int (g:Int)] H Q E:=⟨_,_,_,rfl,a,b,xs,r,g,rfl,rfl,h,ok,h1,h8,f,hg,c,c2,q⟩
theorem Oz(T:Txt K mg a):aH P w K mg base aR 10 a.IX a.Hy sX (Ml K):=by
 refine T.Br.F.ok FI ?_ ?_;walk_at "b3"
 refine⟨_,(ar (az 3 FI.nd (tO (bZ m4 (pv 1) ay (bC _)) (au (KR T) hr T.Bn (ae (pv 0) (ae (pv 1) af))) (br (ae (b_ (v:=.ref a.dA) rfl T.dX rfl) (ae (pv 0) af)))))
     (ar (az 4 FI.nd (au (Rb T) hr T.BE (ae (ao (pv 3)) (ae (pv 2) af))))
     (av (aB (br (ae (au (gy T) hr T.fR (ae (ao (pv 3)) (ae (ao (pv 4)) af))) (ae (ao (pv 4)) af))))))),?_⟩
 walk_at "cl";rw[show start Od [x0,x1,x2]=[some x0,some x1,some x2,none,none]from rfl];obtain⟨ra,rb,xs,r,g,rfl,rfl,hw,ok,h1,h8,f,hg,c,c2,q⟩:=h;k_few
 . rename_i z
   obtain⟨sw,h30,fr⟩:=f (by omega);refine Dk hw sw h30 fr (λv1 H1 S1 i1=>?_);o_head aA (j:=1) i1 rfl (λv2 i2=>?_);o_head FP i2 ok.ba ok.bb (by rw[aY];exact h1) (by rw[aY];exact h8) (by omega) (by omega) (by rw[wP];exact c2) (λv3 H3 S3 i3=>?_);rw[wP]at i3;have i13:=i1.by S3;o_head aA (j:=0) i13 rfl (λv4 i4=>?_);o_head aA (j:=0) i3 rfl (λv5 i5=>?_);have b5:ag 3700 (aF ra rb (ai ra rb xs (r*(aj xs).length)) g):=(c2 g (wo _)).d_ (wz ..);k_few;rename_i v6 H6 S6 i6;refine aA (j:=1) (i3.by S6) rfl (λv7 i7=>?_);k_few;rw[kj]at i6;rw[cw]at i7;refine cB (ds:=[N (aF ra rb xs (r*(aj xs).length+g)),aZ ra rb (ai ra rb xs (r*(aj xs).length+g))]) (by simp) (.cons i6 (.cons i7 .nil)) (λv8 H8 S8 i8=>?_);exact q v8 H8 (S1.trans (S3.trans (S6.trans S8))) i8
 . rename_i z
   have hr0:r=0:=by omega
   refine cB (ds:=[N 0,aZ ra rb xs]) (by simp) (.cons (eC 0 (T.eW _) rfl rfl) (.cons hw .nil)) (λv1 H1 S1 i1=>?_);have i1:Is K H1 v1 (BD ra rb xs (r*(aj xs).length)):=by rw[hr0,xr];exact i1
   o_head aA (j:=1) i1 rfl (λv2 i2=>?_);o_head FP i2 ok.ba ok.bb (by rw[aY];exact h1) (by rw[aY];exact h8) (by omega) (by omega) (by rw[wP];exact c2) (λv3 H3 S3 i3=>?_);rw[wP]at i3;have i13:=i1.by S3;o_head aA (j:=0) i13 rfl (λv4 i4=>?_);o_head aA (j:=0) i3 rfl (λv5 i5=>?_);have b5:ag 3700 (aF ra rb (ai ra rb xs (r*(aj xs).length)) g):=(c2 g (wo _)).d_ (wz ..);k_few;rename_i v6 H6 S6 i6;refine aA (j:=1) (i3.by S6) rfl (λv7 i7=>?_);k_few;rw[kj]at i6;rw[cw]at i7;refine cB (ds:=[N (aF ra rb xs (r*(aj xs).length+g)),aZ ra rb (ai ra rb xs (r*(aj xs).length+g))]) (by simp) (.cons i6 (.cons i7 .nil)) (λv8 H8 S8 i8=>?_);exact q v8 H8 (S1.trans (S3.trans (S6.trans S8))) i8
def fm(h:Rat)(xs:List Rat)(r g:Nat):wC:=.tuple [N h,TN xs,.int (r:Int),.int (g:Int)]
def cu(a b:Rat)(xs:List Rat)(i r g:Nat):Nat:=i+(r*(aj (ai a b xs i)).length+g)
def nJ(a b:Rat)(xs:List Rat)(e:Nat × Nat × Nat):wC:=fm (aF a b xs e.1) (ai a b xs e.1) e.2.1 e.2.2
def nD(a b:Rat)(xs:List Rat)(n:Nat)(w:String):wC:=.tuple [N (aF a b xs n),TN (ai a b xs n),.str (wW w)]
def cg(a b:Rat)(xs:List Rat)(es:List (Nat × Nat × Nat))(n:Nat)(w:String):List wC:=es.map (nJ a b xs)++[nD a b xs n w]
def fo(es:List (Nat × Nat × Nat))(n j:Nat):Nat:=(es.map (·.1)++[n]).getD j 0
theorem zw0(es:List (Nat × Nat × Nat))(n:Nat):fo es n es.length=n:=by
 unfold fo;rw[wa,vi (by simp)];simp
theorem Ly{a:Rat}{w:String}(h:j<es.length):(cg a b xs es n w)[j]? = some (nJ a b xs es[j]):=by
 unfold cg;rw[vI (by simpa using h),wu,wc h]
 rfl
def M6(K:wb):Sp:=λvs H Q _=>∃x0 x1 x2,vs=[x0,x1,x2] /\ ∃(a b h h':Rat)(xs ys:List Rat)(r g:Nat)(ds:List wC),Is K H x0 (R a b)/\Is K H x1 (fm h xs r g)/\Is K H x2 (.tuple (N h'::TN ys::ds))/\aS a b/\1<=xs.length/\xs.length<=8/\(1<=r->fv a b xs/\r<=30/\fE a b xs r)/\g<=40/\ag 3500 h/\ag 3500 (aF a b xs (r*(aj xs).length+g))/\ag 8000 (aF a b xs (r*(aj xs).length))/\(∀i,i<=g->Cm 3700 (aF a b (ai a b xs (r*(aj xs).length)) i::ai a b (ai a b xs (r*(aj xs).length)) i)) /\ ∀H',ah H H'->Q (.bl (decide (h'=h+aF a b xs (r*(aj xs).length+g))&&decide (ys=ai a b xs (r*(aj xs).length+g)))) H'
theorem zsF{a h':Rat}{g:Nat}{w:V}(h0:Is K H v (R a b))(h1:Is K H w (fm h xs r g))(h2:Is K H u (.tuple (N h'::TN ys::ds)))(ok:aS a b)(x1:1<=xs.length)(x8:xs.length<=8)(f:1<=r->fv a b xs/\r<=30/\fE a b xs r)(hg:g<=40)(bh:ag 3500 h)(bk:ag 3500 (aF a b xs (r*(aj xs).length+g)))(c:ag 8000 (aF a b xs (r*(aj xs).length)))(c2:∀i,i<=g->Cm 3700 (aF a b (ai a b xs (r*(aj xs).length)) i::ai a b (ai a b xs (r*(aj xs).length)) i))(q:∀H',ah H H'->Q (.bl (decide (h'=h+aF a b xs (r*(aj xs).length+g))&&decide (ys=ai a b xs (r*(aj xs).length+g)))) H'):M6 K [v,w,u] H Q E:=⟨_,_,_,rfl,a,b,h,h',xs,ys,r,g,ds,h0,h1,h2,ok,x1,x8,f,hg,bh,bk,c,c2,q⟩
theorem zsP(T:Txt K mg a):aH P w K mg base aR 11 a.JD a.Ia Ag (M6 K):=by
 refine T.IT.F.ok Fu ?_ ?_;walk_at "b3"
 refine⟨_,(ar (az 3 Fu.nd (br (ae (pv 0) (ae (ao (pv 1)) af))))
     (ar (bR (PW.pt (sS (bZ m4 (ao (pv 1)) ay (bC _)) (Cb (cW (cz (au (zuT T) hr T.Jg (ae (pv 3) (ae (ao (pv 1)) af)))))))) (av (aB eF)) bS)
     (ar (az 4 Fu.nd (au (Oz T) hr T.Br (ae (pv 3) (ae (ao (pv 1)) (ae (ao (pv 1)) af)))))
     (av (aB (eU (e_ (show aN _ (wT .Eq) (cO K)from dR hu) (ao (pv 2)) (au (gy T) hr T.fR (ae (ao (pv 1)) (ae (ao (pv 4)) af))) (bC _)) (gK (e_ (show aN _ (wT .Eq) (cO K)from dR hu) (ao (pv 2)) (ao (ao (pv 4))) (bC _))))))))),?_⟩
 walk_at "cl";rw[show start M3 [x0,x1,x2]=[some x0,some x1,some x2,none,none]from rfl];obtain⟨ra,rb,hh,hn,xs,ys,r,g,ds,hr,hrow,hf,ok,x1',x8,f,hg,bh,bk,c,c2,q⟩:=h;unfold fm at hrow;o_head aA (j:=1) hrow rfl (λv1 i1=>?_);o_head cB (ds:=[R ra rb,TN xs]) (by simp) (.cons hr (.cons i1 .nil)) (λv2 H2 S2 i2=>?_);have i2:Is K H2 v2 (aZ ra rb xs):=i2;have hrow2:=hrow.by S2;o_head aA (j:=2) hrow2 rfl (λv3 i3=>?_);rw[bV.mp i3];k_few
 all_goals first
   | (rename_i z
      obtain⟨sw,h30,fr⟩:=f (by omega);refine aA (j:=2) hrow2 rfl (λv3 i3=>?_);rw[bV.mp i3];o_head zuc i2 sw (by omega) h30 fr (λH3 F=>?_);k_few)
   | (have F:=ah.refl H2)
 all_goals
   have hrow3:=hrow2.by F;have i23:=i2.by F;have T3:=S2.trans F;have hf3:=hf.by T3;clear F;refine aA (j:=2) hrow3 rfl (λv4 i4=>?_);rw[bV.mp i4];o_head aA (j:=3) hrow3 rfl (λv5 i5=>?_);rw[bV.mp i5];o_head Lc i23 ok x1' x8 f hg c c2 (λv6 H6 S6 i6=>?_);unfold BD at i6;have hf6:=hf3.by S6;o_head aA (j:=0) hf6 rfl (λv7 i7=>?_);o_head aA (j:=0) (hrow3.by S6) rfl (λv8 i8=>?_);o_head aA (j:=0) i6 rfl (λv9 i9=>?_);k_few
   . rename_i v10 H10 S10 i10 z
     have q':=q H10 (T3.trans (S6.trans S10));rw[decide_eq_true z,ql]at q';refine aA (j:=1) (hf6.by S10) rfl (λv11 i11=>?_);o_head aA (j:=1) (i6.by S10) rfl (λv12 i12=>?_);o_head aA (j:=1) (show Is K H10 v12 (aZ ra rb _)from i12) rfl (λv13 i13=>?_);exact B0 i11 i13 q'
   . rename_i v10 H10 S10 i10 z
     have q':=q H10 (T3.trans (S6.trans S10));rw[decide_eq_false z,Ww]at q';exact q'
def cS(a b:Rat)(xs:List Rat):Option String :=
 if(aj xs).length=1 then some "one"
 else if dG a b (aW xs) (bA xs)=true then
  if cK a b (aW xs) (bA xs)=bA xs then some "rests"
  else if a<1/\j_ a b (aW xs)=true then some "drawn" else none
 else none
def Fd:Option String->V
 | none=>.a_
 | some s=>.str (wW s)
def LQ(K:wb):Sp:=λvs H Q _=>∃x0,vs=[x0] /\ ∃(a b:Rat)(xs:List Rat),Is K H x0 (aZ a b xs)/\fv a b xs /\ ∀H',ah H H'->Q (Fd (cS a b xs)) H'
theorem Rm{a:Rat}(h:Is K H v (aZ a b xs))(ok:fv a b xs)(q:∀H',ah H H'->Q (Fd (cS a b xs)) H'):LQ K [v] H Q E:=⟨_,rfl,a,b,xs,h,ok,q⟩
theorem Pg(T:Txt K mg a):aH P w K mg base aR 10 a.Kf a.IV AR (LQ K):=by
 refine T.BA.F.ok MD ?_ ?_;walk_at "b1"
 refine⟨_,(ar (bR (bZ (show aN _ (wT .Eq) (cO K)from dR hu) (bE (show aK _ (.builtin "len") (dj K)from eA) rfl T.z_len dU (ae (au (FZ T) hr T.sD (ae (pv 0) af)) af)) ay (bC _)) (av (aB iU)) bS)
     (ar (bR (cW (cz (au (Fp T) hr T.sx (ae (pv 0) af)))) (av (aB fP)) bS)
     (ar (az 1 MD.nd (mC (Ay T) hr T.oQ Fq (ae (pv 0) af)))
     (ar (bR (cW (cz (au (rJ T) hr T.mO (ae (ao (pv 0)) (ae (ao (pv 1)) (ae (ao (pv 1)) af)))))) (av (aB fP)) bS)
     (ar (bR (bZ (show aN _ (wT .Eq) (cO K)from dR hu) (au (K0 T) hr T.Bp (ae (ao (pv 0)) (ae (ao (pv 1)) (ae (ao (pv 1)) af)))) (ao (pv 1)) (bC _)) (av (aB iU)) bS)
     (ar (bR (PW.pt (sS (bZ (show aN _ (wT .Eq) (cO K)from dR hu) (au (Sr T) hr T.BJ (ae (ao (pv 0)) af)) iU (bC _)) (Cb (cz (au (N7 T) hr T.Bo (ae (ao (pv 0)) (ae (ao (pv 1)) af))))))) (av (aB iU)) bS)
     (av (aB fP)))))))),?_⟩
 walk_at "cl";rw[show start TX [x0]=[some x0,none]from rfl];obtain⟨ra,rb,xs,hw,ok,q⟩:=h;obtain⟨rok,sz,hn⟩:=ok.round;have h8:=ok.h8;have bx:∀i,ag 4000 (xs.getD i 0):=λi=>(ok.cm.get i).mono (by decide)
 have bp:∀i,ag 4000 ((bA xs).getD i 0):=λi=>((pe ok.cm).get i).mono (by decide)
 unfold cS at q;o_head Cr hw h8 bx (λlf H1 us1 n1 S1 e1 t1=>?_);have hul:=t1.length;rw[wm]at hul;have hw1:=hw.by S1;o_head jm (.of e1) ?_;rw[hul];k_few
 . rename_i z
   have z:(aj xs).length=1:=by omega
   rw[if_pos z]at q;exact q _ S1
 . rename_i z
   have z:¬ (aj xs).length=1:=by omega
   rw[if_neg z]at q;refine Cq hw1 ?_;rw[decide_eq_true ok.h0];o_head Be hw1 h8 bx (λz=>absurd ok.h0 z) (λ_ vl H2 S2 il=>?_);have hw2:=hw1.by S2;o_head aA (j:=0) hw2 rfl (λvr ir=>?_);o_head aA (j:=0) il rfl (λvz iz=>?_);o_head aA (j:=1) il rfl (λvp ip=>?_);o_head pR ir iz ip rok (λH3 S3=>?_);have T3:=S1.trans (S2.trans S3);have hw3:=hw2.by S3;have il3:=il.by S3;clear hw hw1 hw2 il ir iz ip S1 S2 S3 e1 t1 n1;k_few
   . rename_i y
     rw[if_neg (by rw[y];decide)]at q;exact q _ T3
   . rename_i y
     rw[if_pos y]at q;refine aA (j:=0) hw3 rfl (λvr ir=>?_);o_head aA (j:=0) il3 rfl (λvz iz=>?_);o_head aA (j:=1) il3 rfl (λvp ip=>?_);o_head Uz ir iz ip rok (λv4 H4 S4 i4=>?_);o_head aA (j:=1) (il3.by S4) rfl (λvp4 ip4=>?_);refine B0 i4 ip4 ?_;k_few
     . rename_i u
       rw[if_pos u]at q;exact q _ (T3.trans S4)
     . rename_i u
       rw[if_neg u]at q;refine aA (j:=0) (hw3.by S4) rfl (λvr4 ir4=>?_);o_head UT ir4 (ok.ok.ba.mono (by decide)) ?_;unfold pU
       by_cases z1:1<ra
       . rw[if_pos z1]
         o_head kh _ _ false (by rw[wY];decide) ?_;k_few;rw[if_neg (λh=>absurd h.1 (by grind))]at q;exact q _ (T3.trans S4)
       . rw[if_neg z1]
         by_cases z2:ra=1
         . rw[if_pos z2]
           o_head kh _ _ false (by rw[wY];decide) ?_;k_few;rw[if_neg (λh=>absurd h.1 (by grind))]at q;exact q _ (T3.trans S4)
         . rw[if_neg z2]
           have ha:ra<1:=by
             by_cases h:ra<1
             . exact h
             . exact absurd (Qa (Vu.mp h) (WE z2)) z1
           o_head kh _ _ true (by rw[wY];decide) ?_;o_head aA (j:=0) (hw3.by S4) rfl (λvr5 ir5=>?_);o_head aA (j:=0) (il3.by S4) rfl (λvz5 iz5=>?_);o_head OA ir5 iz5 ok.ok sz z2 (λH5 S5=>?_);k_few
           . rename_i d
             rw[if_pos ⟨ha,d⟩]at q;exact q _ (T3.trans (S4.trans S5))
           . rename_i d
             rw[if_neg (λh=>by rw[h.2]at d;cases d)]at q;exact q _ (T3.trans (S4.trans S5))
def LW(a b:Rat)(xs:List Rat):Nat->List (Nat × Nat × Nat)->Nat->Prop
 | i,[],n=>i=n
 | i,e::es,n=>e.1=i/\(e.2.1<=30/\e.2.2<=40/\(1<=e.2.1->0∈ai a b xs i/\fE a b (ai a b xs i) e.2.1))/\LW a b xs (cu a b xs i e.2.1 e.2.2) es n
theorem LW.le{a b:Rat}{xs:List Rat} : ∀{es:List (Nat × Nat × Nat)}{i n:Nat},LW a b xs i es n->i<=n
 | [],_,_,h=>Nat.le_of_eq h
 | e::es,i,n,h=>by
  have:=LW.le h.2.2;unfold cu at this;omega
theorem LW.first{a:Rat}(h:LW a b xs i es n):fo es n 0=i:=by
 cases es with
 | nil=>exact(show i=n from h).symm
 | cons e es=>exact h.1
theorem LW.at{a b:Rat}{xs:List Rat} : ∀{es:List (Nat × Nat × Nat)}{i n:Nat},LW a b xs i es n->∀j (hj:j<es.length),es[j].1=fo es n j/\(es[j].2.1<=30/\es[j].2.2<=40/\(1<=es[j].2.1->0∈ai a b xs es[j].1/\fE a b (ai a b xs es[j].1) es[j].2.1))/\cu a b xs es[j].1 es[j].2.1 es[j].2.2=fo es n (j+1)/\fo es n (j+1)<=n
 | [],_,_,_,j,hj=>absurd hj (by simp)
 | e::es,i,n,h,j,hj=>by
  obtain⟨e1,e2,e3⟩:=h;cases j with
  | zero =>
   have h1:=e3.first;have h2:=e3.le;rw[<- h1]at h2;refine⟨rfl,?_,?_,h2⟩
   ·show e.2.1<=30/\e.2.2<=40/\(1<=e.2.1->0∈ai a b xs e.1/\fE a b (ai a b xs e.1) e.2.1)
    rw[e1];exact e2
   ·show cu a b xs e.1 e.2.1 e.2.2=fo es n 0
    rw[h1,e1]
  | succ j=>exact LW.at e3 j (by simpa using hj)
def Ld(a b:Rat)(xs:List Rat)(e:Nat × Nat × Nat):g6:=⟨aF a b xs e.1,ai a b xs e.1,e.2.1,e.2.2⟩
theorem zth(a b:Rat)(xs:List Rat)(es:List (Nat × Nat × Nat))(n:Nat)(w:String):cg a b xs es n w=(es.map (Ld a b xs)).map g6.d++[oh (aF a b xs n) (ai a b xs n) w]:=by
 rw[WM];rfl
theorem UO{a:Rat}{w:String}(h:∀j (hj:j<es.length),es[j].1=fo es n j)(hj:j<=es.length):∃ds,(cg a b xs es n w)[j]? = some (.tuple (N (aF a b xs (fo es n j))::TN (ai a b xs (fo es n j))::ds)):=by
 unfold cg;rcases wA j es.length with z | z
 ·rw[vI (by simpa using z),wu,wc z,<- h j z]
  exact⟨_,rfl⟩
 ·have:j=es.length:=by omega
  subst this;rw[vi (by simp),wm,Vf,zw0];exact⟨_,rfl⟩
theorem zyX{t u:Bool}{g:TG}{tb:TS}{D:cv}{σ : L2.St}{a b:we}{xs ys:List V}(hx:df t K H a xs)(hy:df u K H b ys)(hxy:ys.length<xs.length)(Pv:Nat->L2.St->Hp->Prop)(h0:Pv 0 σ H)(hl:∀i σ H,i<=ys.length->Pv i σ H->df t K H a xs/\df u K H b ys)
  (hs:∀i x y σ H c H',xs[i]? = some x->ys[i]? = some y->Pv i σ H->H c=none->ah H H'->H' c=some (.tup [x,y])->g (.ref c) σ H' λσ2 H2=>tb {D with nx:=Pv (i+1),ct:=Pv (i+1),bk:=D.nx} σ2 H2) (hd:∀σ H,Pv ys.length σ H->D.nx σ H):UH t u K g tb D σ [.ref a,.ref b] H:=by
 refine⟨a,b,rfl,⟨xs,hx⟩,⟨ys,hy⟩,λi m σ H=>i+m=ys.length/\Pv i σ H,⟨ys.length,by omega,h0⟩,?_⟩;rintro i m σ H ⟨him,hp⟩;obtain⟨hq1,hq2⟩:=hl i σ H (by omega) hp
 by_cases hm:m=0
 ·have e:i=ys.length:=by omega
  subst e;exact .inl ⟨⟨xs,ys,hq1,hq2,.inr ⟨hxy,rfl⟩⟩,hd _ _ hp⟩
 ·have hi:i<xs.length:=by omega
  have hj:i<ys.length:=by omega
  refine .inr ⟨⟨xs,xs[i],ys,ys[i],hq1,by simp[hi],hq2,by simp[hj]⟩,λσ' H'=>Pv (i+1) σ' H',λσ' H' h=>⟨m-1,by omega,by omega,h⟩,?_⟩;rintro v H' ⟨c,x,y,rfl,hn,hx',hy',rfl⟩;exact hs i x y σ H c _ (hx' xs hq1) (hy' ys hq2) hp hn (ah.upd hn) cX
theorem UG{a:Rat} : cS a b xs=none \/ ∃w,cS a b xs=some w/\iL w:=by
 unfold cS
 split
 ·exact .inr ⟨_,rfl,.inl rfl⟩
 ·split
  ·split
   ·exact .inr ⟨_,rfl,.inr (.inl rfl)⟩
   ·split
    ·exact .inr ⟨_,rfl,.inr (.inr rfl)⟩
    ·exact .inl rfl
  ·exact .inl rfl
theorem zC8{o:Option String}{w:String}(ho:o=none \/ ∃w,o=some w/\iL w)(hw:iL w)(q:Q (.bl (decide (o=some w))) H):cO K (Fd o) (.str (wW w)) H Q:=by
 rcases ho with rfl | ⟨v,rfl,hv⟩
 ·exact nF (d:=.none) (e:=.str (wW w)) (lR.mpr rfl) (eX.mpr rfl) (by decide) (Ds w) (by rw[show wY .none (.str (wW w))=decide ((none:Option String)=some w) by rw[wY]<;>simp];exact q)
 ·refine kh _ _ _ ?_ q
  rcases hv with rfl | rfl | rfl<;>rcases hw with rfl | rfl | rfl<;>rw[wY]<;>decide
def US(K:wb):Sp:=λvs H Q _=>∃x0 x1,vs=[x0,x1] /\ ∃(a b:Rat)(xs ys:List Rat)(es:List (Nat × Nat × Nat))(n:Nat)(w:String),Is K H x0 (aZ a b xs)/\Is K H x1 (.list (cg a b ys es n w))/\aS a b/\1<=ys.length/\ys.length<=8/\xs.length=ys.length/\cq ys/\LW a b ys 0 es n/\es.length<=100/\0∈ai a b ys n/\iL w/\(∀i k,i+k<=n->Cm 3500 (aF a b (ai a b ys i) k::ai a b (ai a b ys i) k)) /\ ∀H',ah H H'->Q (.bl (decide (ys=xs)&&decide (cS a b (ai a b ys n)=some w))) H'
theorem ztQ{a:Rat}{w:String}(h:Is K H v (aZ a b xs))(hp:Is K H u (.list (cg a b ys es n w)))(ok:aS a b)(h1:1<=ys.length)(h8:ys.length<=8)(hl:xs.length=ys.length)(ph:cq ys)(lw:LW a b ys 0 es n)(bN:es.length<=100)(h0:0∈ai a b ys n)(hw:iL w)(c:∀i k,i+k<=n->Cm 3500 (aF a b (ai a b ys i) k::ai a b (ai a b ys i) k))(q:∀H',ah H H'->Q (.bl (decide (ys=xs)&&decide (cS a b (ai a b ys n)=some w))) H'):US K [v,u] H Q E:=⟨_,_,rfl,a,b,xs,ys,es,n,w,h,hp,ok,h1,h8,hl,ph,lw,bN,h0,hw,c,q⟩
theorem ztL(T:Txt K mg a):aH P w K mg base aR 12 a.Kg a.Jc yT (US K):=by
 refine T.Jr.F.ok Gb ?_ ?_;walk_at "b2"
 refine⟨_,(ar (bR (cW (cz (au (zrT T) hr T.IG (ae (pv 1) (ae (bE (show aK _ (.builtin "len") (dj K)from eA) rfl T.z_len dU (ae (ao (pv 0)) af)) af))))) (av (aB eF)) bS)
     (ar (bR (PW.pt (fG (bZ (show aN _ (wT .NotEq) (gc K)from kz hu) (ao (ao (pv 1))) (b_ (v:=.ref a.dA) rfl T.dX rfl) (bC _)) (iC (bZ (show aN _ (wT .NotEq) (gc K)from kz hu) (ao (ao (pv 1))) (ao (pv 0)) (bC _))))) (av (aB eF)) bS)
     (ar (gR vP rfl (SI rfl T.z_zip (ae (pv 1) (ae (jQ j8 (pv 1) (j3 ay) j4) af))) (my (n:=2) rfl (gH (bQ (i:=2) Gb.nd rfl (Or.inl rfl)) (gH (bQ (i:=3) Gb.nd rfl (Or.inl rfl)) mh))) (av (bR (cW (cz (au (zsP T) hr T.IT (ae (ao (pv 0)) (ae (pv 2) (ae (pv 3) af)))))) (av (aB eF)) bS)))
     (av (aB (e_ (show aN _ (wT .Eq) (cO K)from dR hu) (au (Pg T) hr T.BA (ae (br (ae (ao (pv 0)) (ae (ao (dJ di (pv 1) (gI gB ay) (λ_ _=>rfl))) af))) af)) (ao (dJ di (pv 1) (gI gB ay) (λ_ _=>rfl))) (bC _))))))),?_⟩
 walk_at "cl";rw[show start UB [x0,x1]=[some x0,some x1,none,none]from rfl];obtain⟨ra,rb,xs,ys,es,n,wd,hw,hp,ok,y1,y8,hl,ph,lw,bN,h0,hwd,c,q⟩:=h;have hat:=lw.at;have hix:=λj hj=>(hat j hj).1
 have c0:∀i,i<=n->Cm 3500 (aF ra rb ys i::ai ra rb ys i):=λi hi=>c 0 i (by omega)
 o_head aA (j:=1) hw rfl (λv1 i1=>?_);o_head K_ i1 ?_;o_head zrZ (n:=xs.length) (ps:=es.map (Ld ra rb ys)) (h:=aF ra rb ys n) (xs:=ai ra rb ys n) (w:=wd) (by rw[<- zth];exact hp) (by omega) ?_ (by rw[aY];exact hl.symm) hwd (by rw[wm];exact bN) (λH1 S1=>?_)
 . intro e he
   obtain⟨e',he',rfl⟩:=wU.mp he;obtain⟨j,hj,rfl⟩:=wX he';obtain⟨_,⟨b1,b2,_⟩,_⟩:=hat j hj;exact⟨by show(ai ra rb ys _).length=_;rw[aY];exact hl.symm,b1,b2⟩
 have hp1:=hp.by S1;have hw1:=hw.by S1;obtain⟨ds0,e0⟩:=UO (a:=ra) (b:=rb) (xs:=ys) (w:=wd) hix (j:=0) (by omega);rw[lw.first]at e0;o_head OB (j:=0) hp1 e0 (λv2 i2=>?_);o_head aA (j:=0) i2 rfl (λv3 i3=>?_);k_few
 . rename_i z;exact absurd rfl z
 refine OB (j:=0) hp1 e0 (λv4 i4=>?_);o_head aA (j:=1) i4 rfl (λv5 i5=>?_);o_head aA (j:=1) hw1 rfl (λv6 i6=>?_);refine zBC (show Is K H1 v5 (TN ys)from i5) i6 ?_
 by_cases hxy:ys=xs
 . rw[decide_eq_true hxy]
   subst hxy;obtain⟨lp,us,rfl,hsp,tp⟩:=cF.mp hp1;have hul:=tp.length;have hpl:(cg ra rb ys es n wd).length=es.length+1:=by simp[cg]
   o_head lF hp1 (λl2 H2 us2 n2 S2 e2 t2=>?_);rw[Gf]at t2;have hul2:=t2.length;rw[Qv,hpl]at hul2;o_head zyX (t:=false) (u:=false) (S2.seq hsp) (aQ.of e2) (by omega) (λj σ H'=>(∃o2 o3,σ = [some x0,some (.ref lp),o2,o3])/\ah H2 H') ⟨⟨_,_,rfl⟩,ah.refl _⟩ (λj σ H' _ h=>⟨h.2.seq (S2.seq hsp),h.2.seq (aQ.of e2)⟩) ?_ ?_
   . rintro j x y σ H3 cc H4 hx hy ⟨⟨o2,o3,rfl⟩,S3⟩ nc S4 e4
     obtain⟨hi,ix⟩:=jq tp hx;obtain⟨hi2,iy⟩:=jq t2 hy;rw[Qv,hpl]at hi2;have hj:j<es.length:=by omega
     obtain⟨e1,⟨jx,g40,fr⟩,e3,le⟩:=hat j hj;obtain⟨ds,ey⟩:=UO (a:=ra) (b:=rb) (xs:=ys) (w:=wd) hix (j:=j+1) (by omega);rw[wa,Ly hj]at ix;rw[wa,List.getElem?_tail,ey]at iy;have T4:=S2.trans (S3.trans S4);have ix4:Is K H4 x (fm (aF ra rb ys (fo es n j)) (ai ra rb ys (fo es n j)) es[j].2.1 es[j].2.2):=by rw[<- e1];exact ix.by T4
     have iy4:Is K H4 y (.tuple (N (aF ra rb ys (fo es n (j+1)))::TN (ai ra rb ys (fo es n (j+1)))::ds)):=iy.by (S3.trans S4);rw[e1]at e3 fr;unfold cu at e3;generalize es[j].2.1=r at *;generalize es[j].2.2=g at *;have ci:=c0 (fo es n j) (by omega);refine lZ (.of e4) rfl ?_;o_head aA (j:=0) (hw1.by T4) rfl (λv7 i7=>?_);o_head zsF i7 ix4 iy4 ok (by rw[aY];exact y1) (by rw[aY];exact y8) (λr1=>⟨⟨ok,by rw[aY];exact y1,by rw[aY];exact y8,ph.at ok.a0 ok.b0 _,(fr r1).1,(lB ci λy hy=>wy _ hy).mono (by decide)⟩,jx,(fr r1).2⟩) g40 (ci.d_ (wz ..)) ((c _ _ (by omega)).d_ (wz ..)) (((c (fo es n j) (r*(aj (ai ra rb ys (fo es n j))).length) (by omega)).d_ (wz ..)).mono (by decide)) (λt ht=>by rw[cw];exact(c _ t (by omega)).mono (by decide)) (λH5 S5=>?_);rw[kj,cw,e3,decide_eq_true rfl,decide_eq_true rfl,Xq];k_few;exact⟨⟨_,_,rfl⟩,S3.trans (S4.trans S5)⟩
   . rintro σ H3 ⟨⟨o2,o3,rfl⟩,S3⟩
     have T3:=S2.trans S3;have hw3:=hw1.by T3;have hp3:=hp1.by T3;have cn:=c0 n (wo n);o_head aA (j:=0) hw3 rfl (λv7 i7=>?_);o_head lM hp3 (λv8 i8=>?_);unfold nD at i8;o_head aA (j:=1) i8 rfl (λv9 i9=>?_);o_head cB (ds:=[R ra rb,TN (ai ra rb ys n)]) (by simp) (.cons i7 (.cons i9 .nil)) (λv10 H10 S10 i10=>?_);o_head Rm (show Is K H10 v10 (aZ ra rb (ai ra rb ys n))from i10) ⟨ok,by rw[aY];exact y1,by rw[aY];exact y8,ph.at ok.a0 ok.b0 _,h0,(lB cn λy hy=>wy _ hy).mono (by decide)⟩ (λH11 S11=>?_);have S311:=S10.trans S11;o_head lM (hp3.by S311) (λv12 i12=>?_);unfold nD at i12;o_head aA (j:=2) i12 rfl (λv13 i13=>?_);rw[eX.mp i13];refine zC8 UG hwd ?_;have q':=q H11 (S1.trans (T3.trans S311));rw[decide_eq_true rfl,ql]at q';exact q'
 . rw[decide_eq_false hxy]
   k_few;have q':=q H1 S1;rw[decide_eq_false hxy,Ww]at q';exact q'
def Mg(K:wb):Sp:=λvs H Q _=>∃x0,vs=[x0] /\ ∃(a b:Rat)(xs:List Rat)(g:Nat),Is K H x0 (aZ a b xs)/\aS a b/\1<=xs.length/\xs.length<=8/\g<=8/\(∀t,t<=g->Cm 3700 (ai a b xs t))/\(∀t,t<g->(cE a b (ai a b xs t)).length=1)/\(cE a b (ai a b xs g)).length≠1 /\ ∀H',ah H H'->Q (.int ((g+1:Nat):Int)) H'
theorem Ll{a:Rat}{g:Nat}(h:Is K H v (aZ a b xs))(ok:aS a b)(h1:1<=xs.length)(h8:xs.length<=8)(hg:g<=8)(c:∀t,t<=g->Cm 3700 (ai a b xs t))(w1:∀t,t<g->(cE a b (ai a b xs t)).length=1)(w2:(cE a b (ai a b xs g)).length≠1)(q:∀H',ah H H'->Q (.int ((g+1:Nat):Int)) H'):Mg K [v] H Q E:=⟨_,rfl,a,b,xs,g,h,ok,h1,h8,hg,c,w1,w2,q⟩
theorem zlG(T:Txt K mg a):aH P w K mg base aR 5 a.HC a.G5 zM (Mg K):=by
 refine T.G7.F.ok pQ ?_ ?_;walk_at "b1"
 refine⟨_,(ar (az 1 pQ.nd ay)
     (ar (az 2 pQ.nd (au (Dd T) hr T.sH (ae (pv 0) af)))
     (ar (nu vP (bZ (show aN _ (wT .Eq) (cO K)from dR hu) (bE (show aK _ (.builtin "len") (dj K)from eA) rfl T.z_len dU (ae (ao (pv 2)) af)) ay (bC _)) (ar (zDd (i:=1) pQ.nd rfl (Or.inl rfl) ay zCF)
     (av (az 2 pQ.nd (au (Dd T) hr T.sH (ae (ao (pv 2)) af))))))
     (av (aB (pv 1)))))),?_⟩
 walk_at "cl";rw[show start Pz [x0]=[some x0,none,none]from rfl];obtain⟨ra,rb,xs,g,hw,ok,h1,h8,hg,c,w1,w2,q⟩:=h;o_head Eo hw ok.ba ok.bb h1 h8 (c 0 (by omega)) (by omega) (λv2 H2 S2 i2=>?_);o_head sQ (λm σ' H'=>∃(t:Nat)(v:V),σ'=[some x0,some (.int ((t+1:Nat):Int)),some v]/\m=g-t/\t<=g/\ah H H'/\Is K H' v (GD ra rb (ai ra rb xs t))) _ ⟨0,v2,rfl,rfl,by omega,S2,i2⟩ ?_;rintro m σ' H3 ⟨t,v,rfl,rfl,ht,S3,iv⟩;o_head aA (j:=1) iv rfl (λv4 i4=>?_);o_head ly i4 ?_;rw[wm];k_few
 . rename_i z
   have z:(cE ra rb (ai ra rb xs t)).length=1:=by omega
   have htg:t<g:=by
     rcases wA t g with y | y
     . exact y
     . have:t=g:=by omega
       subst this;exact absurd z w2
   have hpl:=aY ra rb xs t;have hpl2:=aY ra rb xs (t+1);refine AX ?_;o_head zAe rfl ?_;o_head zDv ?_;o_head aA (j:=2) iv rfl (λv5 i5=>?_);o_head Eo (show Is K H3 v5 (aZ ra rb (ai ra rb xs (t+1)))from i5) ok.ba ok.bb (by omega) (by omega) (c (t+1) (by omega)) (by omega) (λv6 H6 S6 i6=>?_);k_few;exact⟨g-(t+1),by omega,t+1,v6,by push_cast;rfl,rfl,by omega,S3.trans S6,i6⟩
 . rename_i z
   have htg:t=g:=by
     rcases wA t g with y | y
     . exact absurd (by rw[w1 t y];rfl) z
     . omega
   subst htg;exact q H3 S3
def Ov(B:Int)(x:Rat):Prop:=∃t:Int,x=wB t B
theorem Ov.zero(B:Int):Ov B 0:=⟨0,by simp⟩
theorem Ov.more{d:Int}(h:Ov B x)(hB:0<B)(hd:0<d):Ov (B*d) x:=by
 obtain⟨t,rfl⟩:=h;exact⟨t*d,rA hB hd⟩
theorem zBv(t u:Int):∃m,Bd m t/\Bd m u:=⟨t.natAbs+u.natAbs,⟨W7 (by omega:t.natAbs<=t.natAbs+u.natAbs) Xy⟩,⟨W7 (by omega:u.natAbs<=t.natAbs+u.natAbs) Xy⟩⟩
theorem zEC{a:Rat}(h:aS a b):Bd 6 a.num:=by
 have h1:=h.a0;have h2:=h.a4;have h3:=h.ad;have n0:0<=a.num:=Qi.mpr (vT h1)
 have n1:a.num<=4*a.den:=by
   have:=(Xh a 4).mp h2
   simpa using this
 exact ⟨by have : (2 : Nat) ^ 6 = 64 := by decide
           omega⟩
theorem zDS{a:Rat}(h:aS a b):Bd 4 (a.den:Int):=by
 have h3:=h.ad
 exact ⟨by have : (2 : Nat) ^ 4 = 16 := by decide
           omega⟩
theorem Zi{a:Rat}(h:aS a b):Bd 4 b.num:=by
 have h1:=h.b0;have h2:=h.b1;have h3:=h.bd;have n0:0<=b.num:=Qi.mpr h1
 have n1:b.num<=b.den:=by
   have:=(Xh b 1).mp h2
   simpa using this
 exact ⟨by have : (2 : Nat) ^ 4 = 16 := by decide
           omega⟩
theorem Ov.push{a:Rat}(ok:aS a b)(hB:0<B)(hd:(b.den:Int) ∣ B)(h:Ov B x)(n:Nat):Ov (B*(a.den:Int)^n) (push a b n x):=by
 obtain⟨t,rfl⟩:=h;obtain⟨m,h1,h2⟩:=zBv t B;obtain⟨_,_,_,T,e,_⟩:=R4 (zEC ok) (zDS ok) (Zi ok) hB hd h1 h2 n;exact⟨T,e⟩
theorem nC(a:Rat)(n:Nat):0<(a.den:Int)^n:=ue (den_pos a)
theorem Ov.up{a:Rat}(h:Ov B x)(hB:0<B)(n:Nat):Ov (B*(a.den:Int)^n) x:=h.more hB (nC a n)
theorem Rl(h:∀x∈xs,Ov B x)(i:Nat):Ov B (xs.getD i 0):=by
 rcases wA i xs.length with z | z
 ·exact h _ (getD_mem z)
 ·rw[wa,wL z];exact Ov.zero B
theorem zxb(h:∀i,i<xs.length->Ov B (xs.getD i 0)):∀x∈xs,Ov B x:=λx hx=>by
 obtain⟨j,hj,rfl⟩:=wX hx;have:=h j hj;rw[wa,wc hj]at this;exact this
theorem LG{a b:Rat}(ok:aS a b):∀(n:Nat)(B:Int)(ps:List Rat)(left:List Nat),0<B->(b.den:Int) ∣ B->left.Nodup->(∀w∈left,w<ps.length)->(∀x∈ps,Ov B x)->∀x∈(cT a b n ps left).2.2,Ov (B*(a.den:Int)^(cT a b n ps left).1.flatten.length) x
 | 0,B,ps,left,hB,_,_,_,h=>λx hx=>by
  have:Ov (B*(a.den:Int)^0) x:=by rw[QJ,xI];exact h x hx
  exact this
 | n+1,B,ps,left,hB,hd,nd,lt,h=>by
  by_cases e:aG ps left=[]
  ·rw[oG e]
   intro x hx;have:Ov (B*(a.den:Int)^0) x:=by rw[QJ,xI];exact h x hx
   exact this
  ·rw[jy e]
   have nd':(bW left (aG ps left)).Nodup:=nB nd;have lt':=nX (wave:=aG ps left) lt
   have ih:=LG ok n (B*(a.den:Int)^(aG ps left).length) (cZ (a^(aG ps left).length) (aE a b (aG ps left).length) ps (bW left (aG ps left))) (bW left (aG ps left)) (vQ hB (nC a _)) (qj hd (Vi ..)) nd' (λw hw=>by rw[iT];exact lt' w hw) (zxb λi hi=>by
    rw[jI _ _ _ _ nd' lt']
    split
    ·rw[<- ib];exact(Rl h i).push ok hB hd _
    ·exact(Rl h i).up hB _)
   intro x hx;have:=ih x hx
   show Ov (B*(a.den:Int)^(aG ps left::_).flatten.length) x
   rw[VM,wR,uj,<- qi];exact this
theorem Ov.rise(hx:Ov B x)(hy:Ov B y)(hB:0<B):Ov B (x+(1-y)):=by
 obtain⟨t,rfl⟩:=hx;obtain⟨z,rfl⟩:=hy;refine⟨t+B-z,?_⟩
 symm
 refine gj (by omega) ?_;have q1:=de t (show B≠0 by omega);have q2:=de z (show B≠0 by omega);have q3:((t+B-z:Int):Rat)=(t:Rat)+(B:Rat)-(z:Rat):=by push_cast;rfl
 rw[q3,<- q1,<- q2]
 grind
def jn(a b:Rat)(xs:List Rat):Nat:=(cE a b xs).flatten.length
theorem zBk{a:Rat}(ok:aS a b)(hB:0<B)(hd:(b.den:Int) ∣ B)(h1:1<=xs.length)(h:∀x∈xs,Ov B x):∀y∈dC a b xs,Ov (B*(a.den:Int)^jn a b xs) y:=by
 have hr:∀x∈bK xs,Ov B x:=λx hx=>by
  obtain⟨y,hy,rfl⟩:=wU.mp hx;exact(h y hy).rise (h _ (ic h1)) hB
 have:=LG ok xs.length B (bK xs) (wt xs.length) hB hd W5 (λw hw=>by rw[fH];exact wH.mp hw) hr;intro y hy;rcases zyL y hy with z | z
 ·exact this y z
 ·rw[z];exact Ov.zero _
def bY(a b:Rat)(xs:List Rat):Nat->Nat
 | 0=>0
 | k+1=>bY a b xs k+jn a b (ai a b xs k)
theorem lT(a b:Rat)(xs:List Rat)(m:Nat):∀k,bY a b xs (m+k)=bY a b xs m+bY a b (ai a b xs m) k
 | 0=>rfl
 | k+1=>by
  show bY a b xs (m+k)+jn a b (ai a b xs (m+k))=bY a b xs m+(bY a b (ai a b xs m) k+jn a b (ai a b (ai a b xs m) k))
  rw[lT a b xs m k,cw];omega
theorem Di{a b:Rat}(ok:aS a b){B:Int}(hB:0<B)(hd:(b.den:Int) ∣ B){xs:List Rat}(h1:1<=xs.length)(h:∀x∈xs,Ov B x):∀k,(∀y∈ai a b xs k,Ov (B*(a.den:Int)^bY a b xs k) y)/\Ov (B*(a.den:Int)^bY a b xs k) (aF a b xs k)
 | 0=>by
  show(∀y∈xs,Ov (B*(a.den:Int)^0) y)/\Ov (B*(a.den:Int)^0) 0
  rw[QJ,xI];exact⟨h,Ov.zero B⟩
 | k+1=>by
  obtain⟨hp,hh⟩:=Di ok hB hd h1 h k;have hBk:=vQ hB (nC a (bY a b xs k));have hpl:=aY a b xs k
  have e:B*(a.den:Int)^bY a b xs (k+1)=B*(a.den:Int)^bY a b xs k*(a.den:Int)^jn a b (ai a b xs k):=by
   rw[qi,<- uj];rfl
  rw[e];refine⟨zBk ok hBk (qj hd (Vi ..)) (by omega) hp,?_⟩;exact(Ov.rise hh (hp _ (ic (by omega))) hBk).up hBk _
theorem TR{a b:Rat}(a0:0<a)(b0:0<=b){xs:List Rat}(h1:1<=xs.length)(hp:cq xs):∀k:Nat,0<=aF a b xs k/\aF a b xs k<=((k:Int):Rat)
 | 0=>⟨WZ,WZ⟩
 | k+1=>by
  obtain⟨l,u⟩:=TR a0 b0 h1 hp k;have hk:=hp.at a0 b0 k;have hm:=ic (xs:=ai a b xs k) (by rw[aY];exact h1);have m0:=hk.nn _ hm;have m1:=hk.lt _ hm;have e:aF a b xs (k+1)=aF a b xs k+(1-cb (ai a b xs k)):=rfl;have ek:(((k+1:Nat):Int):Rat)=((k:Int):Rat)+1:=by push_cast;rfl
  rw[e,ek];exact⟨by grind,by grind⟩
theorem EM{l:Nat}(hB:0<B)(bB:Bd m B)(h:Ov B x)(x0:0<=x)(x1:x<=(((2^l:Nat):Int):Rat)):∃t:Int,x=wB t B/\Bd (m+l+1) t:=by
 obtain⟨t,rfl⟩:=h;refine⟨t,rfl,?_⟩;have q1:=de t (show B≠0 by omega);have hBr:(0:Rat)<(B:Rat):=uK.mpr hB;have t0:(0:Rat)<=(t:Rat):=by rw[<- q1];exact Qj x0 (vT hBr)
 have t1:(t:Rat)<=(((2^l:Nat):Int):Rat)*(B:Rat):=by
  rw[<- q1];exact QK x1 (vT hBr)
 have t0':0<=t:=Rat.intCast_nonneg.mp t0
 have t1':t<=((2^l:Nat):Int)*B:=by
  rw[<- vS]at t1;exact Vt.mp t1
 have b:=bB.lt;refine⟨?_⟩
 have hb:t.natAbs<=2^l*B.natAbs:=by
  have e:((2^l*B.natAbs:Nat):Int)=((2^l:Nat):Int)*B:=by
   rw[VD]
   congr 1
   omega
  omega
 have:2^l*B.natAbs<2^l*2^m:=Nat.mul_lt_mul_of_pos_left b (Wi l);have e2:2^(m+l+1)=2^l*2^m*2:=by rw[WY,QV,V5 (2^m)]
 omega
theorem R0{a:Rat}(ok:aS a b)(h:Bd m B)(n:Nat):Bd (m+3*n) (B*(a.den:Int)^n):=by
 refine⟨?_⟩;have h1:=h.lt;have h8:=ok.ad;rw[xW,Int.natAbs_pow,Int.natAbs_natCast,QV,Nat.pow_mul];have e:(2:Nat)^3=8:=by decide
 rw[e];have h2:a.den^n<=8^n:=Nat.pow_le_pow_left h8 n;have hp:0<8^n:=Nat.pow_pos (by decide);exact W7 (qM _ h2) (Nat.mul_lt_mul_of_pos_right h1 hp)
theorem Ov.sub(hx:Ov B x)(hy:Ov B y)(hB:0<B):Ov B (x-y):=by
 obtain⟨t,rfl⟩:=hx;obtain⟨z,rfl⟩:=hy;refine⟨t-z,?_⟩
 symm
 refine gj (by omega) ?_;have q1:=de t (show B≠0 by omega);have q2:=de z (show B≠0 by omega);have q3:((t-z:Int):Rat)=(t:Rat)-(z:Rat):=by push_cast;rfl
 rw[q3,<- q1,<- q2]
 grind
theorem Rq{a:Rat}(ok:aS a b)(c:kf b.den m xs)(h1:1<=xs.length)(hp:cq xs){l:Nat}(hk:k<=2^l):Cm (m+3*bY a b xs (i+k)+l+1) (aF a b (ai a b xs i) k::ai a b (ai a b xs i) k):=by
 obtain⟨B,hB,hd,bB,hx⟩:=c;have hov:=Di ok hB hd h1 (λx hx'=>let ⟨t,e,_⟩:=hx x hx';⟨t,e⟩);obtain⟨hph,hh⟩:=hov (i+k);have hBk:=vQ hB (nC a (bY a b xs (i+k)))
 have hi:Ov (B*(a.den:Int)^bY a b xs (i+k)) (aF a b xs i):=by
  have:=((hov i).2).up (a:=a) (vQ hB (nC a (bY a b xs i))) (bY a b (ai a b xs i) k);rw[qi,<- uj,<- lT]at this;exact this
 have hhk:Ov (B*(a.den:Int)^bY a b xs (i+k)) (aF a b (ai a b xs i) k):=by
  have e:aF a b (ai a b xs i) k=aF a b xs (i+k)-aF a b xs i:=by
   have:=kj a b xs i k
   grind
  rw[e];exact hh.sub hi hBk
 have bb:=R0 ok bB (bY a b xs (i+k));have hpi:=hp.at ok.a0 ok.b0 i;have hpk:=hpi.at ok.a0 ok.b0 k;have hl:(((k:Nat):Int):Rat)<=(((2^l:Nat):Int):Rat):=Vt.mpr (by omega)
 have h1l:(1:Rat)<=(((2^l:Nat):Int):Rat):=by
  have:((1:Int):Rat)<=(((2^l:Nat):Int):Rat):=Vt.mpr (by have:=Wi l;omega);exact this
 refine⟨_,hBk,bb.mono (by omega),λx hx'=>?_⟩;rcases wF.mp hx' with rfl | hx'
 ·have hb:=TR ok.a0 ok.b0 (xs:=ai a b xs i) (by rw[aY];exact h1) hpi k
  exact EM hBk bb hhk hb.1 (xo hb.2 hl)
 ·have:=hph x (by rw[<- cw];exact hx')
  exact EM hBk bb this (hpk.nn x hx') (xo (vT (hpk.lt x hx')) h1l)
theorem zyd{a:Rat}(a0:0<a)(b0:0<=b)(h1:1<=xs.length)(hp:cq xs):jn a b xs<=xs.length:=by
 obtain⟨v,J⟩:=yr a0 b0 h1 hp.nn hp.lt;unfold jn;rw[J.perm.length_eq];unfold seg;have:=WK (λw=>decide (0<=aV xs w)&&decide (aV xs w<v)) (wt xs.length);rw[vx]at this;exact this
theorem pW{a b:Rat}(a0:0<a)(b0:0<=b){xs:List Rat}(h1:1<=xs.length)(hp:cq xs):∀k,bY a b xs k<=k*xs.length
 | 0=>Wm _
 | k+1=>by
  have ih:=pW a0 b0 h1 hp k;have hl:=aY a b xs k;have:=zyd a0 b0 (xs:=ai a b xs k) (by omega) (hp.at a0 b0 k);rw[qB]
  show bY a b xs k+jn a b (ai a b xs k)<=_
  omega
theorem zuU{a:Rat}(a0:0<a)(b0:0<=b)(h1:1<=xs.length)(hp:cq xs):1<=(cE a b xs).length:=by
 obtain⟨v,J⟩:=yr a0 b0 h1 hp.nn hp.lt;obtain⟨ws,e,_⟩:=J.first;rw[e];simp
theorem O1{a:Rat}(a0:0<a)(b0:0<=b)(h1:1<=xs.length)(hp:cq xs):(aj (dC a b xs)).length<=(aj xs).length/\(1<(cE a b xs).length->(aj (dC a b xs)).length<(aj xs).length):=by
 obtain⟨v,J⟩:=yr a0 b0 h1 hp.nn hp.lt;have e:=congrArg xK J.new;rw[ik,wR,vR,ik,vV]at e;have v1:=J.v1;have vm:=J.vm;exact⟨by omega,λh=>by have:=J.more.mp h;omega⟩
theorem rR{a b:Rat}(a0:0<a)(b0:0<=b){xs:List Rat}(h1:1<=xs.length)(hp:cq xs):∀k,(aj (ai a b xs k)).length<=(aj xs).length
 | 0=>wo _
 | k+1=>Wa (O1 a0 b0 (xs:=ai a b xs k) (by rw[aY];exact h1) (hp.at a0 b0 k)).1 (rR a0 b0 h1 hp k)
theorem RK{a b:Rat}(ok:aS a b){xs ps:List Rat}{fl:Nat->Nat}{ns:List Int}(L:fJ xs (ps++[0]) fl ns)(hn:ns.length=ps.length+1)(f:dG a b ns ps=true):∀t,t<=ns.length->bY a b xs t=upTo ns t
 | 0,_=>rfl
 | t+1,ht=>by
  have ih:=RK ok L hn f t (by omega);have hw:=(pH ok L hn f).2.1 t (by omega);have hl:(ps++[0]).length=ns.length:=by simp[hn]
  have hs:=L.size t (by omega)
  show bY a b xs t+jn a b (ai a b xs t)=_
  unfold jn;rw[hw,ih,pG (by omega),hs];simp
theorem PD{a b:Rat}(ok:aS a b){xs ps:List Rat}{fl:Nat->Nat}{ns:List Int}(L:fJ xs (ps++[0]) fl ns)(hn:ns.length=ps.length+1)(n0:∀n∈ns,0<=n):∀k,(∀j,j<k->cj a b ns ps j=true)->bY a b xs (k*ns.length)=k*upTo ns ns.length
 | 0,_=>by rw[xr,xr];rfl
 | k+1,h=>by
  have ih:=PD ok L hn n0 k λj hj=>h j (by omega)
  obtain⟨Lk,_⟩:=mG ok L hn n0 k λj hj=>h j (by omega)
  have hl:ns.length=(cf a b ns k ps).length+1:=by rw[du];exact hn
  rw[qB,lT,ih,RK ok Lk hl (h k (by omega)) _ (wo _),qB]
structure gE(a b:Rat)(xs:List Rat)(r g:Nat):Prop where
 jx:r<=30
 free:fE a b xs r
 ends:cj a b (aW xs) (bA xs) r=false
 g1:1<=g
 gN:g<=(aj xs).length
 one:∀t,t+1<g->(cE a b (ai a b (ai a b xs (r*(aj xs).length)) t)).length=1
 join:1<(cE a b (ai a b (ai a b xs (r*(aj xs).length)) (g-1))).length
theorem R_{p:Nat->Prop} : ∀n,(∃t,t<n /\ ¬ p t)->∃g,g<n/\(∀t,t<g->p t) /\ ¬ p g
 | 0,h=>by obtain⟨t,ht,_⟩:=h;omega
 | n+1,h=>by
  by_cases z:∃t,t<n /\ ¬ p t
  ·obtain⟨g,h1,h2,h3⟩:=R_ n z
   exact⟨g,by omega,h2,h3⟩
  ·obtain⟨t,ht,hp⟩:=h
   have htn:t=n:=by
    rcases wA t n with y | y
    ·exact absurd ⟨t,y,hp⟩ z
    ·omega
   subst htn;exact⟨t,by omega,λs hs=>qy.mp λy=>z ⟨s,hs,y⟩,hp⟩
structure zDE(a b:Rat)(xs:List Rat):Prop where
 hz:bA xs++[0]=aj xs
 hn:(aW xs).length=(bA xs).length+1
 hs:(aW xs).length=(aj xs).length
 L:fJ xs (bA xs++[0]) (aV xs) (aW xs)
theorem ny{a:Rat}(hp:cq xs)(h0:0∈xs):zDE a b xs:=by
 have hz:bA xs++[0]=aj xs:=BX hp h0;have hsl:=yi xs;have hpl:(bA xs).length+1=(aj xs).length:=by rw[<- hz];simp
 exact⟨hz,by omega,hsl,by rw[hz];exact SW hp.nn hp.lt⟩
theorem Mw{a:Rat}(ok:aS a b)(h1:1<=xs.length)(hp:cq xs)(h0:0∈xs)(h30:r<=30)(f:fE a b xs r)(e:cj a b (aW xs) (bA xs) r=false):∃g,gE a b xs r g:=by
 obtain⟨hz,hn,hs,L⟩:=ny (a:=a) (b:=b) hp h0;obtain⟨Lr,_⟩:=mG ok L hn (kN xs) r f;obtain⟨t,ht,hj⟩:=zwC ok Lr (by rw[du];exact hn) e;rw[hs]at ht hj;obtain⟨g,g1,g2,g3⟩:=R_ (p:=λt=>(cE a b (ai a b (ai a b xs (r*(aj xs).length)) t)).length=1) (aj xs).length ⟨t,ht,λz=>by rw[z]at hj;omega⟩;refine⟨g+1,h30,f,e,by omega,by omega,λt ht=>g2 t (by omega),?_⟩;have:=zuU (a:=a) (b:=b) ok.a0 ok.b0 (xs:=ai a b (ai a b xs (r*(aj xs).length)) g) (by rw[aY,aY];exact h1) ((hp.at ok.a0 ok.b0 _).at ok.a0 ok.b0 _);rw[qZ];have g3:¬ (cE a b (ai a b (ai a b xs (r*(aj xs).length)) g)).length=1:=g3;omega
theorem gE.bY{a:Rat}{g:Nat}(R:gE a b xs r g)(ok:aS a b)(h1:1<=xs.length)(hp:cq xs)(h0:0∈xs){t:Nat}(ht:t<=g):bY a b xs (r*(aj xs).length+t)<=30*xs.length+xs.length*xs.length:=by
 obtain⟨hz,hn,hs,L⟩:=ny (a:=a) (b:=b) hp h0;have h2:=PD ok L hn (kN xs) r R.free;rw[hs]at h2;have h3:=NO xs;rw[hs]at h3;have h4:=pW ok.a0 ok.b0 (xs:=ai a b xs (r*(aj xs).length)) (by rw[aY];exact h1) (hp.at ok.a0 ok.b0 _) t;rw[aY]at h4;rw[lT,h2];have h5:r*upTo (aW xs) (aj xs).length<=30*xs.length:=V2 R.jx h3;have h6:t*xs.length<=xs.length*xs.length:=Wf _ (by have:=R.gN;have:=kU xs;omega);omega
theorem gE.Kt{a:Rat}{g:Nat}(R:gE a b xs r g)(ok:aS a b)(h1:1<=xs.length)(hp:cq xs):(aj (ai a b xs (r*(aj xs).length+g))).length<(aj xs).length:=by
 have g1:=R.g1
 have e:ai a b xs (r*(aj xs).length+g)=dC a b (ai a b (ai a b xs (r*(aj xs).length)) (g-1)):=by
  rw[<- cw];obtain⟨k,rfl⟩:∃k,g=k+1:=⟨g-1,by omega⟩
  rfl
 have h2:cq (ai a b (ai a b xs (r*(aj xs).length)) (g-1)):=(hp.at ok.a0 ok.b0 _).at ok.a0 ok.b0 _;have hl:(ai a b (ai a b xs (r*(aj xs).length)) (g-1)).length=xs.length:=by rw[aY,aY]
 have h3:=(O1 ok.a0 ok.b0 (xs:=ai a b (ai a b xs (r*(aj xs).length)) (g-1)) (by omega) h2).2 R.join;have h4:=rR ok.a0 ok.b0 (xs:=xs) h1 hp (r*(aj xs).length+(g-1));rw[cw]at h3;rw[cw]at e;rw[e];omega
theorem zr9{a:Rat}(ok:aS a b)(sz:dq ns)(hn:ns.length=xs.length+1)(st:eK a b ns xs=true):cK a b ns xs=xs\/(a<1/\j_ a b ns=true):=by
 have hps:=sz.pos;unfold eK at st
 by_cases z1:1<a
 ·rw[if_pos z1]at st
  have e:=of_decide_eq_true st;have hF:a^ns.sum.toNat≠1:=λe=>absurd ((rY ok (by omega)).mp e) (by grind)
  refine .inl ?_;rw[<- p8 hn sz.nn,LV hF hn 1];rw[<- e,zyv]
 ·rw[if_neg z1]at st
  by_cases z2:a=1
  ·rw[if_pos z2]at st
   refine .inl ?_;rw[<- p8 hn sz.nn]
   exact kg (du ..) λi hi=>by
    rw[du]at hi;have hi':i<(dk a b ns).length:=by rw[mU (by omega)];omega
    have hz:(dk a b ns).getD i 0=0:=by
     rw[WO]at st;have:=st _ (wU.mpr ⟨_,getD_mem (d:=0) hi',rfl⟩);exact of_decide_eq_true this
    rw[jK hi,hz];unfold fI;rw[z2,GM.one_pow',GM.one_pow']
    grind
  ·rw[if_neg z2]at st
   refine .inr ⟨?_,st⟩
   by_cases h:a<1
   ·exact h
   ·exact absurd (Qa (Vu.mp h) (WE z2)) z1
theorem zAi{a:Rat}(ok:fv a b xs)(h:cS a b xs=none)(f:cj a b (aW xs) (bA xs) 0=true):eK a b (aW xs) (bA xs)=false:=by
 obtain⟨_,sz,hn⟩:=ok.round;unfold cj at f;rw[kW]at f;cases e:eK a b (aW xs) (bA xs)with
 | false=>rfl
 | true =>
  unfold cS at h;rw[if_pos f]at h
  split at h
  ·cases h
  ·split at h
   ·cases h
   ·rename_i y
    rcases zr9 ok.ok sz hn e with z | z
    ·exact absurd z y
    ·rw[if_pos z]at h;cases h
def LX(K:wb)(a:Ad):Sp:=λvs H Q E=>∃x0 x1,vs=[x0,x1] /\ ∃(ra rb h:Rat)(xs:List Rat),Is K H x0 (N h)/\Is K H x1 (aZ ra rb xs)/\fv ra rb xs/\cS ra rb xs=none/\(∀r g t,gE ra rb xs r g->t<=g->Cm 3600 (ai ra rb xs (r*(aj xs).length+t))) /\
 ((∀k,k<=30->cj ra rb (aW xs) (bA xs) k=true)->∀H',ah H H'->E (.ref a.fD) none H') /\ ∀r g v H',gE ra rb xs r g->ah H H'->Is K H' v (fm h xs r g)->Q v H'
theorem ZQ{w:V}(h1:Is K H v (N h))(h2:Is K H w (aZ ra rb xs))(ok:fv ra rb xs)(hw:cS ra rb xs=none)(c:∀r g t,gE ra rb xs r g->t<=g->Cm 3600 (ai ra rb xs (r*(aj xs).length+t)))(qe:(∀k,k<=30->cj ra rb (aW xs) (bA xs) k=true)->∀H',ah H H'->E (.ref a.fD) none H')(q:∀r g v H',gE ra rb xs r g->ah H H'->Is K H' v (fm h xs r g)->Q v H'):LX K a [v,w] H Q E:=⟨_,_,rfl,ra,rb,h,xs,h1,h2,ok,hw,c,qe,q⟩
theorem Zr(T:Txt K mg a):aH P w K mg base (fc P w) 12 a.JA a.Ii AM (LX K a):=by
 refine T.IJ.F.oW zu ?_ ?_;walk_at "b2"
 refine⟨_,(ar (az 2 zu.nd (mC (Ay T) hr T.oQ y7 (ae (pv 1) af)))
     (ar (az 3 zu.nd (mC (znd T) hr T.Hq y7 (ae (ao (pv 1)) (ae (ao (pv 2)) (ae (ao (pv 2)) af)))))
     (ar (az 4 zu.nd (au (zlG T) hr T.G7 (ae (ao (au (KR T) hr T.Bn (ae (pv 1) (ae (pv 3) af)))) af)))
     (av (aB (br (by exact(@ae _ _ _ _ _ (pv 0) (@ae _ _ _ _ _ (ao (pv 1)) (@ae _ _ _ _ _ (pv 3) (@ae _ _ _ _ _ (pv 4) af fQ) fQ) ff) fQ)))))))),?_⟩
 walk_at "cl";rw[show start NF [x0,x1]=[some x0,some x1,none,none,none]from rfl];obtain⟨ra,rb,hr',xs,ih,hw,ok,hno,hc,qe,q⟩:=h;obtain⟨rok,sz,hn⟩:=ok.round;have h8:=ok.h8;have bx:∀i,ag 4000 (xs.getD i 0):=λi=>(ok.cm.get i).mono (by decide)
 o_head Be hw h8 bx (λz=>absurd ok.h0 z) (λ_ vl H1 S1 il=>?_);have hw1:=hw.by S1;o_head aA (j:=0) hw1 rfl (λvr ir=>?_);o_head aA (j:=0) il rfl (λvz iz=>?_);o_head aA (j:=1) il rfl (λvp ip=>?_);o_head zne ir iz ip ok.ok sz hn (pe ok.cm) (by decide) (λz H2 S2=>?_) (λz y H2 S2=>?_) (λc c1 c2 y z w H2 S2=>?_) (λy z H2 S2=>?_)
 . have RR:(0:Nat)<=30:=by decide
   have FF:fE ra rb xs 0:=λk hk=>by omega
   have EE:=z;k_few;obtain⟨g,R⟩:=Mw ok.ok ok.h1 ok.hp ok.h0 RR FF EE;have g1:=R.g1;have gN:=R.gN;have hvl:=kU xs;refine Dk (r:=0) (hw1.by S2) ok RR FF (λv3 H3 S3 i3=>?_);o_head aA (j:=1) i3 rfl (λv4 i4=>?_);k_few;have hj:=R.join;refine Ll (g:=g-1) i4 ok.ok (by rw[aY];exact ok.h1) (by rw[aY];exact h8) (by omega) (λt ht=>by rw[cw];exact(hc _ g t R (by omega)).mono (by decide)) (λt ht=>R.one t (by omega)) (by omega) (λH5 S5=>?_);rw[show g-1+1=g by omega];have S15:=S2.trans (S3.trans S5);o_head aA (j:=1) (hw1.by S15) rfl (λv6 i6=>?_);o_head cB (ds:=[N hr',TN xs,.int ((0:Nat):Int),.int (g:Int)]) (by simp) (.cons (ih.by (S1.trans S15)) (.cons i6 (.cons (bV.mpr rfl) (.cons (bV.mpr rfl) .nil)))) (λv7 H7 S7 i7=>?_);exact q 0 g v7 H7 R (S1.trans (S15.trans S7)) i7
 . rw[zAi ok hno z]at y
   cases y
 . have RR:=c2
   have FF:fE ra rb xs c:=z;have EE:=w;k_few;obtain⟨g,R⟩:=Mw ok.ok ok.h1 ok.hp ok.h0 RR FF EE;have g1:=R.g1;have gN:=R.gN;have hvl:=kU xs;refine Dk (r:=c) (hw1.by S2) ok RR FF (λv3 H3 S3 i3=>?_);o_head aA (j:=1) i3 rfl (λv4 i4=>?_);k_few;have hj:=R.join;refine Ll (g:=g-1) i4 ok.ok (by rw[aY];exact ok.h1) (by rw[aY];exact h8) (by omega) (λt ht=>by rw[cw];exact(hc _ g t R (by omega)).mono (by decide)) (λt ht=>R.one t (by omega)) (by omega) (λH5 S5=>?_);rw[show g-1+1=g by omega];have S15:=S2.trans (S3.trans S5);o_head aA (j:=1) (hw1.by S15) rfl (λv6 i6=>?_);o_head cB (ds:=[N hr',TN xs,.int (c:Int),.int (g:Int)]) (by simp) (.cons (ih.by (S1.trans S15)) (.cons i6 (.cons (bV.mpr rfl) (.cons (bV.mpr rfl) .nil)))) (λv7 H7 S7 i7=>?_);exact q c g v7 H7 R (S1.trans (S15.trans S7)) i7
 . exact qe z H2 (S1.trans S2)
def oZ(a b:Rat)(xs:List Rat)(i r g:Nat):Prop:=(i=0/\r=0/\g=1)\/(1<=i/\cS a b (ai a b xs i)=none/\gE a b (ai a b xs i) r g)
def fK(a b:Rat)(xs:List Rat):Nat->List (Nat × Nat × Nat)->Nat->Prop
 | i,[],n=>i=n
 | i,e::es,n=>e.1=i/\oZ a b xs i e.2.1 e.2.2/\fK a b xs (cu a b xs i e.2.1 e.2.2) es n
theorem fK.snoc{a b:Rat}{xs:List Rat} : ∀{es:List (Nat × Nat × Nat)}{i n r g:Nat},fK a b xs i es n->oZ a b xs n r g->fK a b xs i (es++[(n,r,g)]) (cu a b xs n r g)
 | [],i,n,r,g,h,k=>by
  have e:i=n:=h;subst e;exact⟨rfl,k,rfl⟩
 | e::es,i,n,r,g,h,k=>⟨h.1,h.2.1,fK.snoc h.2.2 k⟩
theorem pD(h:Rat)(xs:List Rat)(r g:Nat):dh (fm h xs r g)=true:=by rw[fm,dh,ck,ck,ck,ck,ck,kQ,zE];rfl
theorem TH(a b:Rat)(xs:List Rat)(n:Nat)(w:String):dh (nD a b xs n w)=true:=by rw[nD,dh,ck,ck,ck,ck,kQ,zE];rfl
structure cY(a b:Rat)(xs:List Rat):Prop where
 ok:aS a b
 h1:1<=xs.length
 h6:xs.length<=6
 hp:cq xs
 sz:∃m,kf b.den m xs/\m+648*xs.length<=3935
theorem cY.of{a:Rat}(ok:aS a b)(h1:1<=xs.length)(h6:xs.length<=6)(ph:∀x∈xs,eY x):cY a b xs/\kf b.den 47 xs:=by
 have b6:∀j,ag 6 (xs.getD j 0):=λj=>by
  rcases wA j xs.length with z | z
  ·exact(ph _ (getD_mem z)).d_
  ·rw[wa,wL z];exact ag.zero.mono (by decide)
 have c0:Cm 43 xs:=(Cm.Y0 b6).mono (by omega);have c1:kf b.den 47 xs:=kf.of c0 (den_pos b) ⟨by have:=ok.bd;have:(2:Nat)^4=16:=(by decide);omega⟩;exact⟨⟨ok,h1,h6,⟨λx hx=>(ph x hx).nn,λx hx=>(ph x hx).lt⟩,47,c1,by omega⟩,c1⟩
def ku(a b:Rat)(xs:List Rat)(i:Nat):Prop:=bY a b xs i+216*(aj (ai a b xs i)).length<=6+216*xs.length/\i+186*(aj (ai a b xs i)).length<=1+186*6
structure fW(a b:Rat)(xs:List Rat)(es:List (Nat × Nat × Nat))(n:Nat)(w:String):Prop where
 walk:fK a b xs 0 es n
 e1:1<=es.length
 bN:es.length<=9
 n1:1<=n
 word:cS a b (ai a b xs n)=some w
 sp:ku a b xs n
theorem cY.lu{a:Rat}(h:cY a b xs)(hg:bY a b xs (i+k)+216<=20+216*xs.length)(hk:k<=1024):Cm 3500 (aF a b (ai a b xs i) k::ai a b (ai a b xs i) k):=by
 obtain⟨m,c,hm⟩:=h.sz;exact(Rq h.ok c h.h1 h.hp (i:=i) (k:=k) (l:=10) (by rw[show(2:Nat)^10=1024 by decide];exact hk)).mono (by omega)
theorem cY.cm{a:Rat}(h:cY a b xs)(hg:bY a b xs i+216<=20+216*xs.length)(hi:i<=1024):Cm 3500 (aF a b xs i::ai a b xs i):=h.lu (i:=0) (k:=i) (by rw[QG];exact hg) hi
theorem cY.KI{a:Rat}(h:cY a b xs)(h1:1<=i)(c:Cm 3500 (aF a b xs i::ai a b xs i)):fv a b (ai a b xs i) :=
 ⟨h.ok,by rw[aY];exact h.h1,by rw[aY];have:=h.h6;omega,h.hp.at h.ok.a0 h.ok.b0 i,h.hp.zero h.ok.a0 h.ok.b0 h.h1 h1,(lB c λy hy=>wy _ hy).mono (by decide)⟩
theorem cY.nf{a:Rat}(h:cY a b xs)(i:Nat):1<=(aj (ai a b xs i)).length/\(aj (ai a b xs i)).length<=6:=by
 have:=kU (ai a b xs i);rw[aY]at this;have h6:=h.h6;exact⟨nP (by rw[aY];exact h.h1),by omega⟩
theorem cY.nl{a:Rat}(i:Nat):(aj (ai a b xs i)).length<=xs.length:=by
 have:=kU (ai a b xs i);rw[aY]at this;exact this
theorem cY.one{a:Rat}(h:cY a b xs):ku a b xs 1:=by
 have h6:=h.h6;have h1:=h.h1;have:=pW h.ok.a0 h.ok.b0 h.h1 h.hp 1;have:=(h.nf 1).2;have:=cY.nl (a:=a) (b:=b) (xs:=xs) 1;exact⟨by omega,by omega⟩
theorem cY.within{a:Rat}(h:cY a b xs){g t:Nat}(i1:1<=i)(sp:ku a b xs i)(n2:2<=(aj (ai a b xs i)).length)(R:gE a b (ai a b xs i) r g)(ht:t<=g):bY a b xs (i+(r*(aj (ai a b xs i)).length+t))+216<=20+216*xs.length/\i+(r*(aj (ai a b xs i)).length+t)<=1024/\bY a b xs (i+(r*(aj (ai a b xs i)).length+t))<=bY a b xs i+216/\r*(aj (ai a b xs i)).length+t<=186:=by
 have h6:=h.h6;have nf:=(h.nf i).2;have hl:=aY a b xs i;have g1:=R.bY h.ok (by rw[hl];exact h.h1) (h.hp.at h.ok.a0 h.ok.b0 i) (h.hp.zero h.ok.a0 h.ok.b0 h.h1 i1) ht;rw[hl]at g1
 have g2:30*xs.length+xs.length*xs.length<=216:=by
  have:xs.length*xs.length<=6*6:=V2 h6 h6;omega
 have g3:r*(aj (ai a b xs i)).length<=30*6:=V2 R.jx nf;have g4:=R.gN;obtain⟨s1,s2⟩:=sp;rw[lT];exact⟨by omega,by omega,by omega,by omega⟩
theorem cY.next{a:Rat}(h:cY a b xs){g:Nat}(i1:1<=i)(sp:ku a b xs i)(n2:2<=(aj (ai a b xs i)).length)(R:gE a b (ai a b xs i) r g):ku a b xs (cu a b xs i r g):=by
 obtain⟨_,_,w1,w2⟩:=h.within i1 sp n2 R (wo g);have f:=R.Kt h.ok (by rw[aY];exact h.h1) (h.hp.at h.ok.a0 h.ok.b0 i);rw[cw]at f;obtain⟨s1,s2⟩:=sp;unfold ku cu;exact⟨by omega,by omega⟩
theorem TF{a:Rat}(h:cS a b xs=none)(h1:1<=(aj xs).length):2<=(aj xs).length:=by
 unfold cS at h
 split at h
 ·cases h
 ·omega
def h_(a b:Rat)(xs:List Rat):Prop:=∃es i,fK a b xs 0 es i/\1<=i/\cS a b (ai a b xs i)=none /\ ∀k,k<=30->cj a b (aW (ai a b xs i)) (bA (ai a b xs i)) k=true
def CM(K:wb)(a:Ad):Sp:=λvs H Q E=>∃x0,vs=[x0] /\ ∃(ra rb:Rat)(xs:List Rat),Is K H x0 (aZ ra rb xs)/\cY ra rb xs /\
 (h_ ra rb xs->∀H',ah H H'->E (.ref a.fD) none H') /\ ∀l H' es n w,fW ra rb xs es n w->H l=none->ah H H'->Is K H' (.ref l) (.list (cg ra rb xs es n w))->Q (.ref l) H'
theorem OW(h:Is K H v (aZ ra rb xs))(ok:cY ra rb xs)(qe:h_ ra rb xs->∀H',ah H H'->E (.ref a.fD) none H')(q:∀l H' es n w,fW ra rb xs es n w->H l=none->ah H H'->Is K H' (.ref l) (.list (cg ra rb xs es n w))->Q (.ref l) H'):CM K a [v] H Q E:=⟨_,rfl,ra,rb,xs,h,ok,qe,q⟩
theorem Nx(T:Txt K mg a):aH P w K mg base (fc P w) 13 a.JM a.Ig zJ (CM K a):=by
 refine T.oM.F.oW mq ?_ ?_;walk_at "b1"
 refine⟨_,(ar (az 1 mq.nd (eZ (ae (br (by exact(@ae _ _ _ _ _ (b_ (v:=.ref a.dA) rfl T.dX rfl) (@ae _ _ _ _ _ (ao (pv 0)) (@ae _ _ _ _ _ ay (@ae _ _ _ _ _ ay af mw) mw) ff) fQ))) af)))
     (ar (az 2 mq.nd fP)
     (ar (nu ub (bZ zh (pv 2) fP (bC _)) (ar (az 3 mq.nd (dJ di (pv 1) (gI gB ay) (λ_ _=>rfl)))
     (ar (az 4 mq.nd (au (Oz T) hr T.Br (ae (br (ae (ao (pv 0)) (ae (ao (pv 3)) af))) (ae (ao (pv 3)) (ae (ao (pv 3)) af)))))
     (ar (az 5 mq.nd (au (gy T) hr T.fR (ae (ao (pv 3)) (ae (ao (pv 4)) af))))
     (ar (az 2 mq.nd (au (Pg T) hr T.BA (ae (ao (pv 4)) af)))
     (av (nk (nR WT WQ WR mf (pv 1) (ae (tO (bZ zh (pv 2) fP (bC _)) (mC (Zr T) hr T.IJ y7 (ae (pv 5) (ae (ao (pv 4)) af))) (br (ae (pv 5) (ae (ao (ao (pv 4))) (ae (pv 2) af))))) af)))))))))
     (av (aB (pv 1)))))),?_⟩
 walk_at "cl";rw[show start PX [x0]=[some x0,none,none,none,none,none]from rfl];obtain⟨ra,rb,xs,hw,ok,qe,q⟩:=h;o_head aA (j:=1) hw rfl (λv1 i1=>?_);o_head cB (ds:=[N 0,TN xs,.int 0,.int 1]) (by simp) (.cons (eC 0 (T.eW _) rfl rfl) (.cons i1 (.cons (bV.mpr rfl) (.cons (bV.mpr rfl) .nil)))) (λv2 H2 S2 i2=>?_);o_head ft (by simp) (λlr H3 n3 S3 e3=>?_);have hlr:H lr=none:=jJ S2 n3;k_few
 refine sQ (λm σ' H'=>∃(us:List V)(es:List (Nat × Nat × Nat))(vw:V)(o3 o4 o5:Option V),σ'=[some x0,some (.ref lr),some vw,o3,o4,o5]/\ah H H'/\H' lr=some (.lst us) /\
   ((vw=.a_ /\ ∃i r g,fK ra rb xs 0 es i/\oZ ra rb xs i r g/\ak K H' us ((es++[(i,r,g)]).map (nJ ra rb xs))/\(1<=i->ku ra rb xs i)/\es.length+(aj (ai ra rb xs (cu ra rb xs i r g))).length<=6/\m=(aj (ai ra rb xs (cu ra rb xs i r g))).length) \/
     ∃n w,vw=.str (wW w)/\fW ra rb xs es n w/\ak K H' us (cg ra rb xs es n w)/\m=0)) _ ⟨[v2],[],.a_,_,_,_,rfl,S2.trans S3,e3,.inl ⟨rfl,0,0,1,rfl,.inl ⟨rfl,rfl,rfl⟩,.cons (i2.by S3) .nil,λh=>by omega,by have:=(ok.nf (cu ra rb xs 0 0 1)).2;simpa using this,rfl⟩⟩ ?_
 rintro m σ' H4 ⟨us,es,vw,o3,o4,o5,rfl,S4,e4,C⟩;rcases C with⟨rfl,i,r,g,wk,ro,t4,sp,bN,rfl⟩ | ⟨n,w',rfl,P,t4,rfl⟩
 . have hN:=(ok.nf i).2
   have h6:=ok.h6;have h1L:=ok.h1
   have facts:g<=40/\(1<=r->fv ra rb (ai ra rb xs i)/\r<=30/\fE ra rb (ai ra rb xs i) r)/\bY ra rb xs (cu ra rb xs i r g)+216<=20+216*xs.length/\cu ra rb xs i r g<=1024/\bY ra rb xs i+216<=20+216*xs.length/\i<=1024/\(∀t,t<=g->bY ra rb xs (i+(r*(aj (ai ra rb xs i)).length+t))+216<=20+216*xs.length)/\ku ra rb xs (cu ra rb xs i r g)/\r<=30:=by
     rcases ro with⟨rfl,rfl,rfl⟩ | ⟨i1,hno,R⟩
     . have e:cu ra rb xs 0 0 1=1:=by unfold cu;omega
       have h2:=pW ok.ok.a0 ok.ok.b0 ok.h1 ok.hp;refine⟨by omega,λz=>by omega,by rw[e];have:=h2 1;omega,by omega,by have:=h2 0;omega,by omega,λt ht=>?_,by rw[e];exact ok.one,by omega⟩;have h3:=h2 (0+(0*(aj (ai ra rb xs 0)).length+t));have h4:(0+(0*(aj (ai ra rb xs 0)).length+t))*xs.length<=1*6:=V2 (by omega) h6;omega
     . have n2:=TF hno (ok.nf i).1
       have sp:=sp i1;have w:=λ{t:Nat}(ht:t<=g)=>ok.within i1 sp n2 R ht
       have w0:=w (wo g);have g4:=R.gN;have si:=sp.1;have si2:=sp.2;have c:Cm 3500 (aF ra rb xs i::ai ra rb xs i):=ok.cm (by omega) (by omega);exact⟨by omega,λ_=>⟨ok.KI i1 c,R.jx,R.free⟩,w0.1,w0.2.1,by omega,by omega,λt ht=>(w ht).1,ok.next i1 sp n2 R,R.jx⟩
   obtain⟨g40,fr,gl,nl,gi,ni,gw,sl,jx⟩:=facts;have cI:=ok.cm gi ni;have cL:=ok.cm gl nl
   have n1:1<=cu ra rb xs i r g:=by
     unfold cu;rcases ro with⟨rfl,rfl,rfl⟩ | ⟨i1,hno,R⟩
     . omega
     . omega
   have swL:=ok.KI n1 cL;have hrN:r*(aj (ai ra rb xs i)).length<=30*6:=V2 jx hN;have hul:=t4.length;rw[wm,wR,vV]at hul;have hnf:=(ok.nf (cu ra rb xs i r g)).1;o_head AX ?_;k_few
   have il:Is K H4 (.ref lr) (.list (es.map (nJ ra rb xs)++[nJ ra rb xs (i,r,g)])):=by
     rw[vA]at t4;exact cF.mpr ⟨lr,us,rfl,.of e4,t4⟩
   refine lM il (λv5 i5=>?_);have i5:Is K H4 v5 (fm (aF ra rb xs i) (ai ra rb xs i) r g):=i5;have hw4:=hw.by S4;o_head aA (j:=0) hw4 rfl (λv6 i6=>?_);o_head aA (j:=1) i5 rfl (λv7 i7=>?_);o_head cB (ds:=[R ra rb,TN (ai ra rb xs i)]) (by simp) (.cons i6 (.cons i7 .nil)) (λv8 H8 S8 i8=>?_);have i58:=i5.by S8;o_head aA (j:=2) i58 rfl (λv9 i9=>?_);rw[bV.mp i9];o_head aA (j:=3) i58 rfl (λv10 i10=>?_);rw[bV.mp i10];k_few;have bH:ag 8000 (aF ra rb (ai ra rb xs i) (r*(aj (ai ra rb xs i)).length)):=((ok.lu (i:=i) (k:=r*(aj (ai ra rb xs i)).length) (by have:=gw 0 (by omega);rw[XG]at this;exact this) (by omega)).d_ (wz ..)).mono (by decide)
   have cG:∀t,t<=g->Cm 3700 (aF ra rb (ai ra rb (ai ra rb xs i) (r*(aj (ai ra rb xs i)).length)) t::ai ra rb (ai ra rb (ai ra rb xs i) (r*(aj (ai ra rb xs i)).length)) t):=λt ht=>by
     rw[cw ra rb xs];exact(ok.lu (i:=i+r*(aj (ai ra rb xs i)).length) (k:=t) (by have:=gw t ht;rw[<- WS]at this;exact this) (by omega)).mono (by decide)
   refine Lc (show Is K H8 v8 (aZ ra rb (ai ra rb xs i))from i8) ok.ok (by rw[aY];exact ok.h1) (by rw[aY];omega) fr g40 bH cG (λv11 H11 S11 i11=>?_);have i11:Is K H11 v11 (.tuple [N (aF ra rb (ai ra rb xs i) (r*(aj (ai ra rb xs i)).length+g)),aZ ra rb (ai ra rb (ai ra rb xs i) (r*(aj (ai ra rb xs i)).length+g))]):=i11;rw[cw]at i11;have i11:Is K H11 v11 (.tuple [N (aF ra rb (ai ra rb xs i) (r*(aj (ai ra rb xs i)).length+g)),aZ ra rb (ai ra rb xs (cu ra rb xs i r g))]):=i11;have i511:=i58.by S11;have bI:ag 3500 (aF ra rb xs i):=cI.d_ (wz ..);have bJ:ag 3500 (aF ra rb (ai ra rb xs i) (r*(aj (ai ra rb xs i)).length+g)):=(ok.lu (i:=i) (k:=r*(aj (ai ra rb xs i)).length+g) gl (by omega)).d_ (wz ..);o_head aA (j:=0) i511 rfl (λv12 i12=>?_);o_head aA (j:=0) i11 rfl (λv13 i13=>?_);k_few;rename_i v14 H14 S14 i14;rw[kj]at i14;have i14:Is K H14 v14 (N (aF ra rb xs (cu ra rb xs i r g))):=i14;have i1114:=i11.by S14;refine aA (j:=1) i1114 rfl (λv15 i15=>?_);have i15:Is K H14 v15 (aZ ra rb (ai ra rb xs (cu ra rb xs i r g))):=i15;o_head Rm i15 swL (λH16 S16=>?_);have S816:=S8.trans (S11.trans (S14.trans S16));have e16:=S816 _ _ e4;have t16:ak K H16 us ((es++[(i,r,g)]).map (nJ ra rb xs)):=ak.same S816 _ _ t4;have S416:=S4.trans S816;have i1116:=i1114.by S16;have i1416:=i14.by S16;have i1516:=i15.by S16;have wk':=wk.snoc ro;generalize hlead:cu ra rb xs i r g=n at *;cases hwd:cS ra rb (ai ra rb xs n)with
   | none =>
     show iE 2 V.a_ _ _ _
     o_head lO (aQ.of e16) ?_;o_head aA (j:=1) i1116 rfl (λv17 i17=>?_);k_few;have n2:=TF hwd hnf;refine ZQ i1416 (show Is K H16 v17 (aZ ra rb (ai ra rb xs n))from i17) swL hwd (λr' g' t R ht=>?_) (λz H' S=>qe ⟨_,n,wk',n1,hwd,z⟩ H' (S416.trans S)) (λr' g' v18 H18 R S18 i18=>?_)
     . have w:=ok.within n1 sl n2 R ht
       rw[cw];exact(lB (ok.cm w.1 w.2.1) λy hy=>wy _ hy).mono (by decide)
     . k_few
       have e18:=S18 _ _ e16;refine lX e18 (by omega) (λH19 E19 e19=>?_);have K19:=E19.keep e18;have fw:=R.Kt ok.ok (by rw[aY];exact ok.h1) (ok.hp.at ok.ok.a0 ok.ok.b0 n);rw[cw]at fw;have fw:(aj (ai ra rb xs (cu ra rb xs n r' g'))).length<(aj (ai ra rb xs n)).length:=fw;o_head ⟨_,fw,us++[v18],es++[(i,r,g)],.a_,_,_,_,rfl,(S416.trans S18).grow hlr E19,e19,.inl ⟨rfl,n,r',g',wk',.inr ⟨n1,hwd,R⟩,?_,λ_=>sl,?_,rfl⟩⟩
       . rw[vA]
         exact(ak.keep K19 _ _ (rE _ (λe=>pD _ _ _ _) _) (ak.same S18 _ _ t16)).append (.cons (i18.ji K19 (pD _ _ _ _)) .nil)
       . rw[wR,vV]
         omega
   | some wd =>
     show iE 2 (V.str (wW wd)) _ _ _
     o_head lO (aQ.of e16) ?_;k_few
     . rename_i z;cases z
     . refine aA (j:=1) i1116 rfl (λv17 i17=>?_)
       o_head aA (j:=1) i17 rfl (λv18 i18=>?_);o_head cB (ds:=[N (aF ra rb xs n),TN (ai ra rb xs n),.str (wW wd)]) (by simp) (.cons i1416 (.cons i18 (.cons (eX.mpr rfl) .nil))) (λv19 H19 S19 i19=>?_);k_few;have e19:=S19 _ _ e16;refine lX e19 (by omega) (λH20 E20 e20=>?_);have K20:=E20.keep e19;o_head ⟨0,by omega,us++[v19],es++[(i,r,g)],_,_,_,_,rfl,(S416.trans S19).grow hlr E20,e20,.inr ⟨n,wd,rfl,⟨wk',by simp,by rw[wR,vV];omega,n1,hwd,sl⟩,?_,rfl⟩⟩;exact(ak.keep K20 _ _ (rE _ (λe=>pD _ _ _ _) _) (ak.same S19 _ _ t16)).append (.cons (i19.ji K20 (TH _ _ _ _ _)) .nil)
 . k_few
   . rename_i z;cases z
   . exact q lr H4 es n w' P hlr S4 (cF.mpr ⟨lr,us,rfl,.of e4,t4⟩)
theorem zyc{a:Rat}{g r' g':Nat}(R:gE a b xs r g)(S:gE a b xs r' g'):r=r'/\g=g':=by
 have er:r=r':=by
  rcases WU r r' with z | z | z
  ·have:=S.free r z;rw[R.ends]at this;cases this
  ·exact z
  ·have:=R.free r' z;rw[S.ends]at this;cases this
 subst er;refine⟨rfl,?_⟩;have g1:=R.g1;have g2:=S.g1;have j1:=R.join;have j2:=S.join;rcases WU g g' with z | z | z
 ·have:=S.one (g-1) (by omega);omega
 ·exact z
 ·have:=R.one (g'-1) (by omega);omega
theorem OT{a:Rat}{g r' g':Nat}(R:oZ a b xs i r g)(S:oZ a b xs i r' g'):r=r'/\g=g':=by
 rcases R with⟨e,rfl,rfl⟩ | ⟨i1,_,R⟩<;>rcases S with⟨e',rfl,rfl⟩ | ⟨i1',_,S⟩
 ·exact⟨rfl,rfl⟩
 ·omega
 ·omega
 ·exact zyc R S
theorem Tg{a b:Rat}{xs:List Rat} : ∀{es es':List (Nat × Nat × Nat)}{i n n':Nat},fK a b xs i es n->fK a b xs i es' n'->1<=n->cS a b (ai a b xs n)≠none->1<=n'->cS a b (ai a b xs n')=none->(∀k,k<=30->cj a b (aW (ai a b xs n')) (bA (ai a b xs n')) k=true)->False
 | [],[],i,n,n',h,k,n1,w,_,w',_=>by
  have e:i=n:=h;have e':i=n':=k;subst e;subst e';exact w w'
 | [],f::fs,i,n,n',h,k,n1,w,_,_,_=>by
  have e:i=n:=h;subst e;rcases k.2.1 with⟨z,_,_⟩ | ⟨_,z,_⟩
  ·omega
  ·exact w z
 | e::es,[],i,n,n',h,k,_,_,n1',_,all=>by
  have e':i=n':=k;subst e';rcases h.2.1 with⟨z,_,_⟩ | ⟨_,_,R⟩
  ·omega
  ·have:=R.ends
   rw[all _ R.jx]at this;cases this
 | e::es,f::fs,i,n,n',h,k,n1,w,n1',w',all=>by
  obtain⟨e1,e2⟩:=OT h.2.1 k.2.1;have k2:=k.2.2;rw[<- e1,<- e2]at k2;exact Tg h.2.2 k2 n1 w n1' w' all
theorem M0{a b:Rat}{xs:List Rat} : ∀{es es':List (Nat × Nat × Nat)}{i n n':Nat},fK a b xs i es n->fK a b xs i es' n'->1<=n->cS a b (ai a b xs n)≠none->1<=n'->cS a b (ai a b xs n')≠none->es=es'/\n=n'
 | [],[],i,n,n',h,k,_,_,_,_=>⟨rfl,(show i=n from h).symm.trans k⟩
 | [],f::fs,i,n,n',h,k,n1,w,_,_=>by
  have e:i=n:=h;subst e;rcases k.2.1 with⟨z,_,_⟩ | ⟨_,z,_⟩
  ·omega
  ·exact absurd z w
 | e::es,[],i,n,n',h,k,_,_,n1',w'=>by
  have e':i=n':=k;subst e';rcases h.2.1 with⟨z,_,_⟩ | ⟨_,z,_⟩
  ·omega
  ·exact absurd z w'
 | e::es,f::fs,i,n,n',h,k,n1,w,n1',w'=>by
  obtain⟨e1,e2⟩:=OT h.2.1 k.2.1;have k2:=k.2.2;rw[<- e1,<- e2]at k2;obtain⟨q1,q2⟩:=M0 h.2.2 k2 n1 w n1' w';refine⟨?_,q2⟩;rw[q1]
  congr 1
  exact VH (h.1.trans k.1.symm) (VH e1 e2)
theorem zuK{a:Rat}{es':List (Nat × Nat × Nat)}{n':Nat}{w w':String}(P:fW a b xs es n w)(S:fW a b xs es' n' w'):es=es'/\n=n'/\w=w':=by
 have hw:=P.word;have hw':=S.word;obtain⟨e1,e2⟩:=M0 P.walk S.walk P.n1 (by rw[hw];simp) S.n1 (by rw[hw'];simp);subst e2;rw[hw]at hw';exact⟨e1,rfl,wM hw'⟩
theorem Ot{a:Rat}{w:String}(P:fW a b xs es n w)(F:h_ a b xs):False:=by
 obtain⟨es',i,h,i1,hw,all⟩:=F;exact Tg P.walk h P.n1 (by rw[P.word];simp) i1 hw all
def oz(w:String)(n:Nat):wC:=.tuple [.str (wW w),.int (n:Int)]
def De(K:wb)(a:Ad):Sp:=λvs H Q E=>∃x0,vs=[x0] /\ ∃(ra rb:Rat)(xs:List Rat),Is K H x0 (aZ ra rb xs)/\cY ra rb xs /\
 (h_ ra rb xs->∀H',ah H H'->E (.ref a.fD) none H') /\ ∀es n w v H',fW ra rb xs es n w->ah H H'->Is K H' v (oz w (aj (ai ra rb xs n)).length)->Q v H'
theorem zAY(h:Is K H v (aZ ra rb xs))(ok:cY ra rb xs)(qe:h_ ra rb xs->∀H',ah H H'->E (.ref a.fD) none H')(q:∀es n w v H',fW ra rb xs es n w->ah H H'->Is K H' v (oz w (aj (ai ra rb xs n)).length)->Q v H'):De K a [v] H Q E:=⟨_,rfl,ra,rb,xs,h,ok,qe,q⟩
theorem fW.cm{a:Rat}{w:String}(P:fW a b xs es n w)(ok:cY a b xs):Cm 3500 (aF a b xs n::ai a b xs n):=by
 have hnf:=ok.nf n;have s1:=P.sp.1;have s2:=P.sp.2;exact ok.cm (by omega) (by omega)
theorem zBK(T:Txt K mg a):aH P w K mg base (fc P w) 14 a.KD a.JY yc (De K a):=by
 refine T.sI.F.oW O0 ?_ ?_;walk_at "b1"
 refine⟨_,(ar (az 1 O0.nd (dJ di (mC (Nx T) hr T.oM y7 (ae (pv 0) af)) (gI gB ay) (λ_ _=>rfl)))
     (av (aB (br (ae (ao (pv 1)) (ae (bE (show aK _ (.builtin "len") (dj K)from eA) rfl T.z_len dU (ae (au (FZ T) hr T.sD (ae (br (ae (ao (pv 0)) (ae (ao (pv 1)) af))) af)) af)) af)))))),?_⟩
 walk_at "cl";rw[show start Ti [x0]=[some x0,none]from rfl];obtain⟨ra,rb,xs,hw,ok,qe,q⟩:=h;have h6:=ok.h6;o_head OW hw ok qe (λl H1 es n wd P hl S1 i1=>?_);have c:=P.cm ok;have bx:∀i,ag 4000 ((ai ra rb xs n).getD i 0):=λi=>((lB c λy hy=>wy _ hy).get i).mono (by decide)
 have hw1:=hw.by S1;o_head lM i1 (λv2 i2=>?_);have i2:Is K H1 v2 (.tuple [N (aF ra rb xs n),TN (ai ra rb xs n),.str (wW wd)]):=i2;o_head aA (j:=2) i2 rfl (λv3 i3=>?_);rw[eX.mp i3];o_head aA (j:=0) hw1 rfl (λv4 i4=>?_);o_head aA (j:=1) i2 rfl (λv5 i5=>?_);o_head cB (ds:=[R ra rb,TN (ai ra rb xs n)]) (by simp) (.cons i4 (.cons i5 .nil)) (λv6 H6 S6 i6=>?_);o_head Cr (show Is K H6 v6 (aZ ra rb (ai ra rb xs n))from i6) (by rw[aY];omega) bx (λlf H7 us7 n7 S7 e7 t7=>?_);have hul:=t7.length;rw[wm]at hul;o_head jm (.of e7) ?_;rw[hul];o_head cB (ds:=[.str (wW wd),.int ((aj (ai ra rb xs n)).length:Int)]) (by simp) (.cons (eX.mpr rfl) (.cons (bV.mpr rfl) .nil)) (λv8 H8 S8 i8=>?_);exact q es n wd v8 H8 P (S1.trans (S6.trans (S7.trans S8))) i8
def TK(K:wb):Sp:=λvs H Q _=>∃x0 x1,vs=[x0,x1] /\ ∃(a:we)(ns:List Int)(k:Int),x0=.ref a/\x1=.int k/\iW K H a (ns.map V.int)/\ns.length<=63/\0<=k/\k<=1000 /\ ∀c:Int,Q (.int c) H
theorem zr0{a:we}{k:Int}(h:iW K H a (ns.map V.int))(hl:ns.length<=63)(h0:0<=k)(h1:k<=1000)(q:∀c:Int,Q (.int c) H):TK K [.ref a,.int k] H Q E:=⟨_,_,rfl,a,ns,k,rfl,rfl,h,hl,h0,h1,q⟩
theorem ztb(T:Txt K mg a):aH P w K mg base aR 1 a.JJ a.Iu zD (TK K):=by
 refine T.Ja.F.ok zrQ ?_ ?_;walk_at "b2"
 refine⟨_,(ar (bR (bZ m6 (pv 1) (bE (show aK _ (.builtin "len") (dj K)from eA) rfl T.z_len dU (ae (pv 0) af)) (bC _)) (av (aB (bE mj rfl T.z_abs lG (ae (dJ di (pv 0) (pv 1) (λ_ _=>rfl)) af)))) bS)
     (ar (bR (bZ (show aN _ (wT .Eq) (cO K)from dR hu) (bE (show aK _ (.builtin "len") (dj K)from eA) rfl T.z_len dU (ae (pv 0) af)) ay (bC _)) (av (aB (aD cC (aD cV ay (pv 1)) ay))) bS)
     (av (aB (aD cC (aD gQ (bE mj rfl T.z_abs lG (ae (dJ di (pv 0) (aD gQ (pv 1) (bE (show aK _ (.builtin "len") (dj K)from eA) rfl T.z_len dU (ae (pv 0) af))) (λ_ _=>rfl)) af)) (LU (v:=100000000000000000) ⟨by decide,by decide,by decide⟩ (by decide +kernel))) (aD cV ay (pv 1))))))),?_⟩
 walk_at "cl";rw[show start C7 [x0,x1]=[some x0,some x1]from rfl];obtain⟨a',ns,k,rfl,rfl,hs,hl,h0,h1,q⟩:=h;o_head jm hs.sq ?_;k_few
 . refine Mb hs h0 (by assumption) (λz=>?_)
   k_few;exact q _
 . refine jm hs.sq ?_
   k_few
   . exact q _
   . refine jm hs.sq ?_
     o_head Mb hs (QI _ (by omega)) (Qe _ (by omega)) (λz=>?_);k_few;exact q _
def cJ(H:Hp)(p:we)(k:Int):Prop:=∃(a:Int)(b:Bool)(n:Int),H p=some (.lst [.int a,.bl b,.int n])/\0<=n/\n<=k
theorem cJ.same{H':Hp}{k:Int}(s:ah H H')(h:cJ H p k):cJ H' p k:=by
 obtain⟨x,y,n,e,h1,h2⟩:=h;exact⟨x,y,n,s _ _ e,h1,h2⟩
theorem cJ.le{j k:Int}(h:cJ H p j)(e:j<=k):cJ H p k:=by
 obtain⟨x,y,n,z,h1,h2⟩:=h;exact⟨x,y,n,z,h1,Int.le_trans h2 e⟩
theorem cJ.ne{q:we}{k:Int}(e:H q=none)(h:cJ H p k):q≠p:=by
 obtain⟨x,y,n,z,_⟩:=h;exact(jR z e).symm
def Lz(K:wb):Sp:=λvs H Q _=>∃x0 x1,vs=[x0,x1] /\ ∃(a:we)(ns:List Int)(k:Int),x0=.ref a/\x1=.int k/\iW K H a (ns.map V.int)/\ns.length<=63/\0<=k/\k<=1000 /\
 ∀p H',H p=none->ah H H'->cJ H' p 0->Q (.ref p) H'
theorem BP{a:we}{k:Int}(h:iW K H a (ns.map V.int))(hl:ns.length<=63)(h0:0<=k)(h1:k<=1000)
  (q:∀p H',H p=none->ah H H'->cJ H' p 0->Q (.ref p) H'):Lz K [.ref a,.int k] H Q E:=⟨_,_,rfl,a,ns,k,rfl,rfl,h,hl,h0,h1,q⟩
local macro_rules | `(tactic| walk_at "pen")=>`(tactic| first
 | assumption
 | (apply cJ.same;(focus assumption);walk_at "pen"))
local macro_rules | `(tactic| walk_at "ne")=>`(tactic| ((with_reducible apply cJ.ne); (focus assumption); walk_at "pen"))
local macro_rules | `(tactic| walk_at "penle")=>`(tactic| exact cJ.le (by walk_at "pen") (by omega))
theorem GI(T:Txt K mg a):aH P w K mg base aR 2 a.J9 a.IM yj (Lz K):=by
 refine T.sy.F.ok UN ?_ ?_;walk_at "b2"
 refine⟨_,(ar (az 2 UN.nd (au (ztb T) hr T.Ja (ae (pv 0) (ae (pv 1) af))))
     (av (aB (eZ (ae (pv 2) (ae (e_ DR (pv 2) (LU (v:=1000000000000000000) ⟨by decide,by decide,by decide⟩ (by decide +kernel)) (bC _)) (ae ay af))))))),?_⟩
 walk_at "cl";rw[show start UE [x0,x1]=[some x0,some x1,none]from rfl];obtain⟨a',ns,k,rfl,rfl,hs,hl,h0,h1,q⟩:=h;o_head zr0 hs hl h0 h1 (λc=>?_);k_few;exact ft (by show 3<=1000;decide) λp H' hp s e=>q p H' hp s ⟨_,_,0,e,by decide,by decide⟩
def MY(K:wb):Sp:=λvs H Q _=>∃x0 x1,vs=[x0,x1] /\ ∃(p:we)(k m:Int),x0=.ref p/\x1=.int m/\cJ H p k/\k<=1000000/\0<m/\Bd 8999 m /\
 ∀(r:Int)(H':Hp),0<=r->r<m->Exc p H H'->bG H H'->cJ H' p (k+1)->Q (.int r) H'
theorem zsw{k m:Int}(h:cJ H p k)(hk:k<=1000000)(hm:0<m)(hb:Bd 8999 m)
  (q:∀(r:Int)(H':Hp),0<=r->r<m->Exc p H H'->bG H H'->cJ H' p (k+1)->Q (.int r) H'):MY K [.ref p,.int m] H Q E:=⟨_,_,rfl,p,k,m,rfl,rfl,h,hk,hm,hb,q⟩
local macro_rules | `(tactic| walk_at "gs")=>`(tactic| ((with_reducible apply zsw); (focus walk_at "pen"); (focus omega); (focus omega); (focus walk_at "bd128"); intro _ _ _ _ _ _ _))
theorem fO(T:Txt K mg a):aH P w K mg base aR 1 a.JI a.Iz yP (MY K):=by
 refine T.fg.F.ok tH ?_ ?_;walk_at "b2"
 refine⟨_,(ar (oD (aD cC (ao (pv 0)) ay) (oX (pv 0) ay pO))
     (ar (bR (cz (ao (pv 0))) (ar (az 2 tH.nd (aD gQ (ao (pv 0)) (pv 1)))
     (ar (oD (aD fj (ao (pv 0)) (pv 1)) (oX (pv 0) ay pO))
     (av (aB (pv 2))))) bS)
     (ar (az 3 tH.nd (aD gQ (aD cV (aD cC (aD gQ (ao (pv 0)) ay) ay) (aD cC ay (aD cV (ao (pv 0)) (ao (pv 0))))) ay))
     (ar (az 3 tH.nd (aD gQ (aD cV (pv 3) (aD cC (pv 3) (aD cV ay (ao (pv 0))))) ay))
     (av (aB (aD gQ (aD fj (aD gQ (aD cV (pv 3) (aD cC (aD fj (pv 3) ay) ay)) ay) ay) (pv 1)))))))),?_⟩
 walk_at "cl";rw[show start Lo [x0,x1]=[some x0,some x1,none,none]from rfl];obtain⟨p,k,m,rfl,rfl,⟨x,y,n,hp,hn0,hn1⟩,hk,hm,hbm,q⟩:=h;k_few
 all_goals
   exact q _ _ (QI _ (by omega)) (Qe _ hm) (by walk_at "exc") (Exc.keep (p:=p) (by walk_at "exc") hp) ⟨_,_,_,by assumption,by omega,by omega⟩
def Dv(K:wb):Sp:=λvs H Q _=>∃x0 x1,vs=[x0,x1] /\ ∃(t b:Int),x0=.int t/\x1=.int b/\0<b/\Bd 8999 b /\ ∀v H',ah H H'->Is K H' v (N (wB t b))->Q v H'
theorem nA{b:Int}(hb:0<b)(hB:Bd 8999 b)(q:∀v H',ah H H'->Is K H' v (N (wB t b))->Q v H'):Dv K [.int t,.int b] H Q E:=⟨_,_,rfl,t,b,rfl,rfl,hb,hB,q⟩
theorem zxx{b:Int}(hb:0<b)(h1 : -100000000000000000000000000000000000000<=t)(h2:t<=100000000000000000000000000000000000000)(h3 : -100000000000000000000000000000000000000<=b)(h4:b<=100000000000000000000000000000000000000)
  (q:∀v H' (x:Rat),ah H H'->Is K H' v (N x)->x=wB t b->ag 128 x->Q v H'):Dv K [.int t,.int b] H Q E :=
 nA hb ((Bd.kD h3 h4).mono (by decide)) λv H' s h=>q v H' _ s h rfl (ag.divInt (show b≠0 by omega) (Bd.kD h1 h2) (Bd.kD h3 h4))
local macro_rules | `(tactic| walk_at "gs")=>`(tactic| ((with_reducible apply zxx); (focus omega); (focus omega); (focus omega); (focus omega); (focus omega); intro _ _ _ _ _ _ _))
theorem gZ(T:Txt K mg a):aH P w K mg base aR 1 a.Kk a.IS yu (Dv K):=by
 refine T.gk.F.ok z6 ?_ ?_;walk_at "b2"
 refine⟨_,(ar (az 2 z6.nd (bE mj rfl T.z_abs lG (ae (pv 0) af)))
     (ar (az 3 z6.nd (pv 1))
     (ar (nu vP (bZ m4 (pv 3) ay (bC _)) (av (zCB (i:=2) (j:=3) rfl z6.nd rfl rfl (by decide) rfl rfl (ae (pv 3) (ae (aD gQ (pv 2) (pv 3)) af)) rfl)))
     (av (aB (br (ae (aD fj (pv 0) (pv 2)) (ae (aD fj (pv 1) (pv 2)) af)))))))),?_⟩
 walk_at "cl";rw[show start Le [x0,x1]=[some x0,some x1,none,none]from rfl];obtain⟨t,b,rfl,rfl,hp,hB,q⟩:=h;have hb:b≠0:=by omega
 o_head Su (λσ H'=>∃(x y:Int),σ = [some (.int t),some (.int b),some (.int x),some (.int y)]/\0<=x/\0<=y/\vE x y=vE t b/\H'=H) (λσ=>(MP σ 3).toNat) ⟨_,_,rfl,by split<;>omega,by omega,yZ t b,rfl⟩ ?_;rintro σ H' ⟨x,y,rfl,hx,hy,hg,rfl⟩
 have hgb:Bd 8999 ((vE t b:Nat):Int):=hB.le (by
   have:vE t b ∣ b.natAbs:=Int.gcd_dvd_natAbs_right t b;have:=Ug (by omega) this
   simpa using this)
 k_few
 . refine Oq ?_
   k_few;have h1:=QI x (show y≠0 by omega);have h2:=Qe x (show 0<y by omega);refine⟨?_,_,_,rfl,hy,h1,?_,rfl⟩
   . show(x % y).toNat<y.toNat
     omega
   . rw[<- hg];exact Tz (by omega) hx
 . rename_i h0
   have e0:y=0:=by omega
   subst e0
   have e:x=((vE t b:Nat):Int):=by
     rw[<- hg,XS];omega
   have e1:x=dv t b:=by unfold dv;rw[if_neg (by omega),<- e]
   rw[e1];have hd:nV t (dv t b):=⟨PJ hb,by unfold dv;rw[if_neg (by omega)];exact hgb⟩;refine rV hd ?_;k_few;exact fb (PF hb) (zCN hb) q
def Gp(K:wb):Sp:=λvs H Q _=>∃x0 x1,vs=[x0,x1] /\ ∃(x:Rat)(t u:Int)(n:Nat),Is K H x0 (N x)/\Is K H x1 (.tuple [.int t,.int u])/\0<u/\ag n x/\n<=4400/\Bd 4400 t/\Bd 4400 u /\ ∀v H',ah H H'->Is K H' v (N (x+wB t u))->Q v H'
theorem ztk{u:Int}{w:V}(h1:Is K H v (N x))(h2:Is K H w (.tuple [.int t,.int u]))(hu:0<u)(b1:ag 4400 x)(b2:Bd 4400 t)(b3:Bd 4400 u)(q:∀v H',ah H H'->Is K H' v (N (x+wB t u))->Q v H'):Gp K [v,w] H Q E:=⟨_,_,rfl,x,t,u,4400,h1,h2,hu,b1,wo _,b2,b3,q⟩
theorem zua{w:V}(h1:Is K H v (N x))(h2:Is K H w (N y))(b1:ag 4400 x)(b2:ag 4400 y)(q:∀v H',ah H H'->Is K H' v (N (x+y))->Q v H'):Gp K [v,w] H Q E :=
 ztk h1 h2 (den_pos y) b1 b2.t b2.b (λv H' s i=>q v H' s (by rw[Vy]at i;exact i))
local macro_rules | `(tactic| walk_at "gs")=>`(tactic| ((with_reducible apply zua); (focus walk_at "is"); (focus walk_at "is"); (focus walk_at "bdr"); (focus walk_at "bdr"); intro _ _ _ _))
theorem zBe{u:Int}(h:Is K H v (.tuple [.int t,.int u]))(q:Q (.int t) H):dy K v (.int 0) H Q:=aA (j:=0) h rfl (λx i=>by rw[bV.mp i];exact q)
theorem L6{u:Int}(h:Is K H v (.tuple [.int t,.int u]))(q:Q (.int u) H):dy K v (.int 1) H Q:=aA (j:=1) h rfl (λx i=>by rw[bV.mp i];exact q)
theorem zy9(x:Rat){u:Int}(hu:0<u):wB (x.num*u+t*(x.den:Int)) ((x.den:Int)*u)=x+wB t u:=by
 have hp:=vQ (den_pos x) hu;refine gj (by omega) ?_;have k1:=j7 x;have k2:=de t (show u≠0 by omega);have e1:((x.num*u+t*(x.den:Int):Int):Rat)=(x.num:Rat)*(u:Rat)+(t:Rat)*((x.den:Int):Rat):=by push_cast;rfl
 have e2:(((x.den:Int)*u:Int):Rat)=((x.den:Int):Rat)*(u:Rat):=by push_cast;rfl
 rw[e1,e2,<- k1,<- k2]
 grind
theorem rp(T:Txt K mg a):aH P w K mg base aR 2 a.Kc a.IL zy (Gp K):=by
 refine T.mM.F.ok zuW ?_ ?_;walk_at "b2";refine⟨_,(av (aB (au (gZ T) hr T.gk (ae (aD cC (aD cV (ao (pv 0)) (ao (pv 1))) (aD cV (ao (pv 1)) (ao (pv 0)))) (ae (aD cV (ao (pv 0)) (ao (pv 1))) af))))),?_⟩;walk_at "cl";rw[show start CK [x0,x1]=[some x0,some x1]from rfl];obtain⟨x,t,u,n,hx,hy,hu,bx,hn,bt,bu,q⟩:=h;obtain⟨bx1,bx2⟩:=bx.mono hn;have hp:=vQ (den_pos x) hu;o_head L6 hy ?_;o_head zBe hy ?_;o_head L6 hy ?_;o_head nA hp ((bx2.mul bu).mono (by decide)) (λv H' s hv=>?_);rw[zy9 x hu]at hv;exact q v H' s hv
theorem zi{w z n d:Int}(hw:1<=w)(hw8:w<=8)(hz:w<z)(hz4:z<=4*w)(hn:0<=n)(hd:1<=d)(hnd:n<=d)(hd12:d<=12):aS (wB z w) (wB n d):=by
 obtain⟨a1,a2,a3⟩:=NV (x:=wB z w) rfl hw hw8 (by omega) hz4;obtain⟨b1,b2,b3⟩:=FQ (y:=wB n d) rfl hd hd12 hn hnd
 have h1:(1:Rat)<wB z w:=by
  have:=de z (show w≠0 by omega);refine Rat.not_le.mp λk=>?_
  have h2:=QK k (vT (lK (show 0<w by omega)));rw[this,QW]at h2;have:=Vt.mp h2;omega
 exact⟨a1,a2,a3,b1,b2,b3,by grind⟩
theorem La{n d:Int}(hn:0<=n)(hd:1<=d)(hnd:n<=d)(hd12:d<=12):aS 1 (wB n d):=by
 obtain⟨b1,b2,b3⟩:=FQ (y:=wB n d) rfl hd hd12 hn hnd;exact⟨by decide,by decide,by decide,b1,b2,b3,by grind⟩
theorem Aj{w n d:Int}(hw:2<=w)(hw8:w<=8)(ht:1<=t)(htw:t<w)(hn:0<=n)(hd:1<=d)(hnd:n<=d)(hd12:d<=12)(h:(w-t)*d<=n*w):aS (wB t w) (wB n d):=by
 obtain⟨a1,a2,a3⟩:=NV (x:=wB t w) rfl (by omega) hw8 ht (by omega);obtain⟨b1,b2,b3⟩:=FQ (y:=wB n d) rfl hd hd12 hn hnd;refine⟨a1,a2,a3,b1,b2,b3,?_⟩;have e1:=de t (show w≠0 by omega);have e2:=de n (show d≠0 by omega);have pw:(0:Rat)<(w:Rat):=lK (show 0<w by omega);have pd:(0:Rat)<(d:Rat):=lK (show 0<d by omega);refine Vu.mp λk=>?_
 have k1:=Rat.mul_lt_mul_of_pos_right k (VZ pw pd)
 have e3:(wB t w+wB n d)*((w:Rat)*(d:Rat))=(t:Rat)*(d:Rat)+(n:Rat)*(w:Rat):=by
  rw[<- e1,<- e2];grind
 rw[e3,QW]at k1
 have k2:((t*d+n*w:Int):Rat)<((w*d:Int):Rat):=by
  rw[qP,vS,vS,vS];exact k1
 have k3:=xO.mp k2;rw[Int.sub_mul]at h;omega
theorem LP{w d:Int}(hw:2<=w)(ht:1<=t)(htw:t<w)(hd:1<=d):1<=0-((t-w)*d).fdiv w/\0-((t-w)*d).fdiv w<=d/\(w-t)*d<=(0-((t-w)*d).fdiv w)*w:=by
 rw[VI _ (by omega)];have e:(t-w)*d = -((w-t)*d):=by rw[<- Int.neg_mul];congr 1;omega
 have p:1<=(w-t)*d:=by
  have:=Int.mul_le_mul (show(1:Int)<=w-t by omega) hd (by omega) (by omega);omega
 have hle:(w-t)*d<=w*d:=WJ (by omega) (by omega);rw[e];generalize (w-t)*d=m at *;have h1:=uZ (-m) (show w≠0 by omega);have h2:=Int.lt_ediv_add_one_mul_self (-m) (show 0<w by omega);generalize -m / w=q at *;have e2:(0-q)*w = -(q*w):=by rw[Int.sub_mul,Int.zero_mul];omega
 have e3:(q+1)*w=q*w+w:=by rw[Int.add_mul,xM]
 rw[e3]at h2;refine⟨?_,?_,by rw[e2];omega⟩
 ·refine Int.not_lt.mp λk=>?_
  have:0<=q*w:=Ub (by omega) (by omega);omega
 ·refine Int.not_lt.mp λk=>?_
  have:(q+1)*w<=(-d)*w:=WJ (by omega) (by omega);rw[e3,Int.neg_mul,Int.mul_comm d w]at this;omega
def SX(K:wb):Sp:=λvs H Q _=>∃x0,vs=[x0] /\ ∃(p:we)(k:Int),x0=.ref p/\cJ H p k/\k<=1000 /\ ∀v H' (a b:Rat),Exc p H H'->bG H H'->cJ H' p (k+8)->Is K H' v (R a b)->aS a b->Q v H'
theorem zkN{k:Int}(h:cJ H p k)(hk:k<=1000)(q:∀v H' (a b:Rat),Exc p H H'->bG H H'->cJ H' p (k+8)->Is K H' v (R a b)->aS a b->Q v H'):SX K [.ref p] H Q E:=⟨_,rfl,p,k,rfl,h,hk,q⟩
theorem zkk(T:Txt K mg a):aH P w K mg base aR 2 a.Hj a.GV AA (SX K):=by
 refine T.GY.F.ok km ?_ ?_;walk_at "b1"
 refine⟨_,(ar (az 1 km.nd (au (fO T) hr T.fg (ae (pv 0) (ae ay af))))
     (ar (az 2 km.nd (aD cC ay (au (fO T) hr T.fg (ae (pv 0) (ae ay af)))))
     (ar (az 3 km.nd (aD cC ay (au (fO T) hr T.fg (ae (pv 0) (ae ay af)))))
     (ar (az 4 km.nd (au (fO T) hr T.fg (ae (pv 0) (ae (aD cC (pv 3) ay) af))))
     (ar (bR (bZ (show aN _ (wT .Eq) (cO K)from dR hu) (au (fO T) hr T.fg (ae (pv 0) (ae ay af))) ay (bC _)) (av (az 4 km.nd (bE (show aK _ (.builtin "min") EU from zwr rfl) rfl T.z_min zDc (ae (pv 4) (ae ay af))))) bS)
     (ar (bR (bZ m6 (pv 1) ay (bC _)) (av (aB (br (ae (au (gZ T) hr T.gk (ae (aD cC (aD cC (pv 2) ay) (aD cV (pv 1) (au (fO T) hr T.fg (ae (pv 0) (ae (aD cV ay (pv 2)) af))))) (ae (pv 2) af))) (ae (au (gZ T) hr T.gk (ae (pv 4) (ae (pv 3) af))) af))))) bS)
     (ar (bR (bZ (show aN _ (wT .Eq) (cO K)from dR hu) (pv 1) ay (bC _)) (av (aB (br (ae (br (ae ay (ae ay af))) (ae (au (gZ T) hr T.gk (ae (pv 4) (ae (pv 3) af))) af))))) bS)
     (ar (az 2 km.nd (aD cC ay (aD gQ (pv 2) ay)))
     (ar (az 5 km.nd (aD cC ay (au (fO T) hr T.fg (ae (pv 0) (ae (aD jF (pv 2) ay) af)))))
     (ar (bR (bZ (show aN _ (wT .Eq) (cO K)from dR hu) (pv 1) ay (bC _)) (av (aB (br (ae (au (gZ T) hr T.gk (ae (pv 5) (ae (pv 2) af))) (ae (au (gZ T) hr T.gk (ae (aD jF (pv 2) (pv 5)) (ae (pv 2) af))) af))))) bS)
     (ar (az 6 km.nd (aD jF ay (aD fj (aD cV (aD jF (pv 5) (pv 2)) (pv 3)) (pv 2))))
     (av (aB (br (ae (au (gZ T) hr T.gk (ae (pv 5) (ae (pv 2) af))) (ae (au (gZ T) hr T.gk (ae (aD cC (pv 6) (au (fO T) hr T.fg (ae (pv 0) (ae (aD cC (aD jF (pv 3) (pv 6)) ay) af)))) (ae (pv 3) af))) af)))))))))))))))),?_⟩
 walk_at "cl";rw[show start Lp [x0]=[some x0,none,none,none,none,none,none]from rfl];obtain⟨p,k,rfl,hp,hk,q⟩:=h;walk_at "ga"
 . rename_i way H1 w0 w1 E1 K1 P1 bt H2 b0 b1 E2 K2 P2 dr H3 d0 d1 E3 K3 P3 mo H4 m0 m1 E4 K4 P4 tw H5 t0 t1 E5 K5 P5 z mn mn0 mn1 mn2 hw rr H6 r0 r1 E6 K6 P6
   have hw2:way=0\/way=1:=by omega
   rcases hw2 with rfl | rfl
   . walk_at "ga"
     rename_i v7 H7 x7 S7 i7 e7 b7 v8 H8 x8 S8 i8 e8 b8 v9 H9 S9 i9;exact q _ _ x7 x8 (by walk_at "exc") (by walk_at "keep") (by walk_at "penle") i9 (by rw[e7,e8];exact zi (by omega) (by omega) (by omega) (by omega) (by omega) (by omega) (by omega) (by omega))
   . walk_at "ga"
     rename_i v7 H7 x7 S7 i7 e7 b7 v8 H8 x8 S8 i8 e8 b8 v9 H9 S9 i9;exact q _ _ x7 x8 (by walk_at "exc") (by walk_at "keep") (by walk_at "penle") i9 (by rw[e7,e8];exact zi (by omega) (by omega) (by omega) (by omega) (by omega) (by omega) (by omega) (by omega))
 . rename_i way H1 w0 w1 E1 K1 P1 bt H2 b0 b1 E2 K2 P2 dr H3 d0 d1 E3 K3 P3 mo H4 m0 m1 E4 K4 P4 tw H5 t0 t1 E5 K5 P5 z mn mn0 mn1 mn2 hw hw2 v7 H7 S7 i7 v8 H8 x8 S8 i8 e8 b8 v9 H9 S9 i9
   exact q _ _ 1 x8 (by walk_at "exc") (by walk_at "keep") (by walk_at "penle") i9 (by rw[e8];exact La (by omega) (by omega) (by omega) (by omega))
 . rename_i way H1 w0 w1 E1 K1 P1 bt H2 b0 b1 E2 K2 P2 dr H3 d0 d1 E3 K3 P3 mo H4 m0 m1 E4 K4 P4 tw H5 t0 t1 E5 K5 P5 z mn mn0 mn1 mn2 hw hw2 rr H6 r0 r1 E6 K6 P6 hw3 v7 H7 x7 S7 i7 e7 b7 v8 H8 x8 S8 i8 e8 b8 v9 H9 S9 i9
   exact q _ _ x7 x8 (by walk_at "exc") (by walk_at "keep") (by walk_at "penle") i9 (by rw[e7,e8];exact Aj (by omega) (by omega) (by omega) (by omega) (by omega) (by omega) (by omega) (by omega) (Int.le_refl _))
 . rename_i way H1 w0 w1 E1 K1 P1 bt H2 b0 b1 E2 K2 P2 dr H3 d0 d1 E3 K3 P3 mo H4 m0 m1 E4 K4 P4 tw H5 t0 t1 E5 K5 P5 z mn mn0 mn1 mn2 hw hw2 rr H6 r0 r1 E6 K6 P6 hw3
   have nd:=LP (t:=1+rr) (w:=2+(1+bt) % 7) (d:=1+dr) (by omega) (by omega) (by omega) (by omega);refine rV ⟨by omega,(Bd.kD (by omega) (by omega)).mono (by decide)⟩ ?_;generalize ((1+rr-(2+(1+bt) % 7))*(1+dr)).fdiv (2+(1+bt) % 7)=fd at nd ⊢;obtain⟨n1,n2,n3⟩:=nd;walk_at "ga";rename_i v7 H7 x7 S7 i7 e7 b7 s8 H8 s0 s1 E8 K8 P8 v9 H9 x9 S9 i9 e9 b9 v10 H10 S10 i10
   exact q _ _ x7 x9 (by walk_at "exc") (by walk_at "keep") (by walk_at "penle") i10 (by
     rw[e7,e9];refine Aj (by omega) (by omega) (by omega) (by omega) (by omega) (by omega) (by omega) (by omega) ?_;have:(0-fd)*(2+(1+bt) % 7)<=(0-fd+s8)*(2+(1+bt) % 7):=WJ (by omega) (by omega);omega)
 . rename_i way H1 w0 w1 E1 K1 P1 bt H2 b0 b1 E2 K2 P2 dr H3 d0 d1 E3 K3 P3 mo H4 m0 m1 E4 K4 P4 tw H5 t0 t1 E5 K5 P5 z hw rr H6 r0 r1 E6 K6 P6
   have hw2:way=0\/way=1:=by omega
   rcases hw2 with rfl | rfl
   . walk_at "ga"
     rename_i v7 H7 x7 S7 i7 e7 b7 v8 H8 x8 S8 i8 e8 b8 v9 H9 S9 i9;exact q _ _ x7 x8 (by walk_at "exc") (by walk_at "keep") (by walk_at "penle") i9 (by rw[e7,e8];exact zi (by omega) (by omega) (by omega) (by omega) (by omega) (by omega) (by omega) (by omega))
   . walk_at "ga"
     rename_i v7 H7 x7 S7 i7 e7 b7 v8 H8 x8 S8 i8 e8 b8 v9 H9 S9 i9;exact q _ _ x7 x8 (by walk_at "exc") (by walk_at "keep") (by walk_at "penle") i9 (by rw[e7,e8];exact zi (by omega) (by omega) (by omega) (by omega) (by omega) (by omega) (by omega) (by omega))
 . rename_i way H1 w0 w1 E1 K1 P1 bt H2 b0 b1 E2 K2 P2 dr H3 d0 d1 E3 K3 P3 mo H4 m0 m1 E4 K4 P4 tw H5 t0 t1 E5 K5 P5 z hw hw2 v7 H7 S7 i7 v8 H8 x8 S8 i8 e8 b8 v9 H9 S9 i9
   exact q _ _ 1 x8 (by walk_at "exc") (by walk_at "keep") (by walk_at "penle") i9 (by rw[e8];exact La (by omega) (by omega) (by omega) (by omega))
 . rename_i way H1 w0 w1 E1 K1 P1 bt H2 b0 b1 E2 K2 P2 dr H3 d0 d1 E3 K3 P3 mo H4 m0 m1 E4 K4 P4 tw H5 t0 t1 E5 K5 P5 z hw hw2 rr H6 r0 r1 E6 K6 P6 hw3 v7 H7 x7 S7 i7 e7 b7 v8 H8 x8 S8 i8 e8 b8 v9 H9 S9 i9
   exact q _ _ x7 x8 (by walk_at "exc") (by walk_at "keep") (by walk_at "penle") i9 (by rw[e7,e8];exact Aj (by omega) (by omega) (by omega) (by omega) (by omega) (by omega) (by omega) (by omega) (Int.le_refl _))
 . rename_i way H1 w0 w1 E1 K1 P1 bt H2 b0 b1 E2 K2 P2 dr H3 d0 d1 E3 K3 P3 mo H4 m0 m1 E4 K4 P4 tw H5 t0 t1 E5 K5 P5 z hw hw2 rr H6 r0 r1 E6 K6 P6 hw3
   have nd:=LP (t:=1+rr) (w:=2+(1+bt) % 7) (d:=1+dr) (by omega) (by omega) (by omega) (by omega);refine rV ⟨by omega,(Bd.kD (by omega) (by omega)).mono (by decide)⟩ ?_;generalize ((1+rr-(2+(1+bt) % 7))*(1+dr)).fdiv (2+(1+bt) % 7)=fd at nd ⊢;obtain⟨n1,n2,n3⟩:=nd;walk_at "ga";rename_i v7 H7 x7 S7 i7 e7 b7 s8 H8 s0 s1 E8 K8 P8 v9 H9 x9 S9 i9 e9 b9 v10 H10 S10 i10
   exact q _ _ x7 x9 (by walk_at "exc") (by walk_at "keep") (by walk_at "penle") i10 (by
     rw[e7,e9];refine Aj (by omega) (by omega) (by omega) (by omega) (by omega) (by omega) (by omega) (by omega) ?_;have:(0-fd)*(2+(1+bt) % 7)<=(0-fd+s8)*(2+(1+bt) % 7):=WJ (by omega) (by omega);omega)
def U4(K:wb):Sp:=λvs H Q _=>∃x0 x1,vs=[x0,x1] /\ ∃(p:we)(k m:Int),x0=.ref p/\x1=.int m/\cJ H p k/\k<=1000/\1<=m/\m<=8 /\ ∀(l:we)(H':Hp)(us:List V)(xs:List Rat),H l=none->Exc p H H'->bG H H'->cJ H' p (k+11)->H' l=some (.lst us)->ak K H' us (xs.map N)->1<=xs.length->(xs.length:Int)<=m->(∀x∈xs,eY x)->Q (.ref l) H'
theorem Z7{k m:Int}(h:cJ H p k)(hk:k<=1000)(h1:1<=m)(h8:m<=8)(q:∀(l:we)(H':Hp)(us:List V)(xs:List Rat),H l=none->Exc p H H'->bG H H'->cJ H' p (k+11)->H' l=some (.lst us)->ak K H' us (xs.map N)->1<=xs.length->(xs.length:Int)<=m->(∀x∈xs,eY x)->Q (.ref l) H'):U4 K [.ref p,.int m] H Q E:=⟨_,_,rfl,p,k,m,rfl,rfl,h,hk,h1,h8,q⟩
theorem Z0(T:Txt K mg a):aH P w K mg base aR 2 a.G6 a.GP zT (U4 K):=by
 refine T.GR.F.ok rz ?_ ?_;walk_at "b2"
 refine⟨_,(ar (az 2 rz.nd (aD cC ay (au (fO T) hr T.fg (ae (pv 0) (ae (pv 1) af)))))
     (ar (az 3 rz.nd (aD cC ay (au (fO T) hr T.fg (ae (pv 0) (ae ay af)))))
     (ar (az 4 rz.nd (dJ di (eZ (ae (pv 3) (ae (aD cC ay (aD fj (pv 3) ay)) af))) (au (fO T) hr T.fg (ae (pv 0) (ae ay af))) (λ_ _=>rfl)))
     (ar (az 5 rz.nd (aD fj (pv 3) (pv 4)))
     (av (aB (d7 rfl (cR.by (N':=["_law_k","_law_bottom","_law_apart","_law_pen_here","_law_few"]) (src:=[none,some 3,some 5,some 0,some 4]) rfl (show dg _ (aC AJ).names CJ ["_law_k","_law_bottom","_law_apart","_law_pen_here","_law_few"] [none,some 3,some 5,some 0,some 4]=true from by decide +kernel)) (kc rfl T.z_range (ae (pv 2) af)) (λ_ _ _ _ _=>(bQ (i:=0) (show(["_law_k","_law_bottom","_law_apart","_law_pen_here","_law_few"]:List Str).Nodup from by decide) rfl (Or.inl rfl))) (λ_ _ _ _ _=>dN) (λ_ _ _ _ _=>(au (gZ (K:=K) (mg:=mg) (a:=a) T) hr T.gk (ae (aD cV (au (fO (K:=K) (mg:=mg) (a:=a) T) hr T.fg (ae (pv 3) (ae (pv 4) af))) (pv 2)) (ae (pv 1) af))))))))))),?_⟩
 walk_at "cl";rw[show start CJ [x0,x1]=[some x0,some x1,none,none,none,none]from rfl];obtain⟨p,k,m,rfl,rfl,hp,hk,h1,h8,q⟩:=h;walk_at "ga";rename_i ra Ha ra0 ra1 Ea Ka Pa rb Hb rb0 rb1 Eb Kb Pb lc Hc nc Sc ec rd Hd rd0 rd1 Ed Kd Pd z hz;have E1:Exc p H Hd:=Ea.trans (Eb.trans (Sc.exc.trans Ed));have K1:bG H Hd:=Ka.trans (Kb.trans (Sc.keep.trans Kd));clear Ea Ka Pa Eb Kb Pb Sc ec nc Ed Kd hp;generalize hB:2+rb=B at *;have B2:2<=B/\B<=60:=by omega
 have hz1:1<=z/\z<=B:=by
   rcases hz with rfl | rfl
   . omega
   . rw[VI _ (by decide)];omega
 refine rV ⟨by omega,(Bd.kD (by omega) (by omega)).mono (by decide)⟩ ?_
 have ha:1<=B.fdiv z/\B.fdiv z*z<=B/\B.fdiv z<=B:=by
   rw[VI _ (by omega)];refine⟨?_,uZ _ (by omega),ur _ (by omega)⟩;exact(Int.le_ediv_iff_mul_le (by omega)).mpr (by omega)
 generalize B.fdiv z=a at *;obtain⟨a1,a2,a3⟩:=ha;k_few;obtain⟨n,hn⟩:∃n:Nat,1+ra=(n:Int):=⟨(1+ra).toNat,by omega⟩;rw[hn];refine Ra (n:=(n:Int)) (by omega) (by omega) (λD i ys σ' H'=>(∃o,σ'=[o,some (.int B),some (.int a),some (.ref p),some (.int z)])/\Hd D=none/\D≠p/\Exc p Hd H'/\bG Hd H'/\cJ H' p (k+1+1+1+(i:Int)) /\ ∃(us:List V)(xs:List Rat),H' D=some (.lst us)/\xs.length=i/\ak K H' us (xs.map N) /\ ∀x∈xs,eY x) ?_ ?_ ?_
 . intro D H' n s e
   exact⟨⟨_,rfl⟩,n,cJ.ne n Pd,s.exc,s.keep,(Pd.same s).le (by omega),[],[],e,rfl,.nil,by simp⟩
 . rintro D i ys σ' H' hi ⟨⟨o,rfl⟩,hn',hne,hE,hK,hP,us,xs,hD,hl,ht,hm⟩
   k_few;rename_i r H6 r0 r1 E6 K6 P6;have t0:0<=r*a:=Ub r0 (by omega)
   have t1:r*a<B:=by
     have h1:(r+1)*a<=z*a:=WJ (by omega) (by omega);rw[Int.add_mul,xM]at h1;have h2:z*a=a*z:=Int.mul_comm _ _;omega
   generalize r*a=t at *;k_few;rename_i v7 H7 x7 S7 i7 e7 b7;have hul:=ht.length;simp only[wm]at hul;have hD7:=S7 _ _ (E6.at hne hD);have px:eY x7:=by rw[e7];exact Tv (by omega) (by omega) (by omega)
   refine lU hD7 (by omega) (λH8 E8 e8=>?_);have K8:bG H7 H8:=E8.keep hD7;refine⟨⟨_,rfl⟩,hn',hne,λb o hb h=>E8 b o (jR h hn') (S7 b o ((hE.trans E6) b o hb h)),(hK.trans K6).trans (S7.keep.trans K8),?_,us++[v7],xs++[x7],e8,by simp[hl],?_,?_⟩
   . obtain⟨x,y,z,e,h1,h2⟩:=P6
     exact⟨x,y,z,E8 p _ (WE hne) (S7 _ _ e),h1,by omega⟩
   . rw[vA]
     exact(ak.keep (K6.trans (S7.keep.trans K8)) _ _ (gD _) ht).append (.cons (i7.gb K8) .nil)
   . intro y hy
     rcases vX.mp hy with h | h
     . exact hm y h
     . rw[w6.mp h];exact px
 . rintro D ys σ' H' ⟨_,hn',hne,hE,hK,hP,us,xs,hD,hl,ht,hm⟩
   rw[wP]at hl hP;k_few
   have hfr:H D=none:=by
     cases e:H D with
     | none=>rfl
     | some o=>rw[E1 D o hne e]at hn';cases hn'
   exact q D H' us xs hfr (E1.trans hE) (K1.trans hK) (hP.le (by omega)) hD ht (by omega) (by omega) hm
def Rg(K:wb):Sp:=λvs H Q _=>∃x0,vs=[x0] /\ ∃(ra rb:Rat)(xs:List Rat),Is K H x0 (aZ ra rb xs)/\cY ra rb xs/\(h_ ra rb xs->∀H',ah H H'->Q .a_ H') /\ ∀l H' es n w,fW ra rb xs es n w->H l=none->ah H H'->Is K H' (.ref l) (.list (cg ra rb xs es n w))->Q (.ref l) H'
theorem zq8(h:Is K H v (aZ ra rb xs))(ok:cY ra rb xs)(qe:h_ ra rb xs->∀H',ah H H'->Q .a_ H')(q:∀l H' es n w,fW ra rb xs es n w->H l=none->ah H H'->Is K H' (.ref l) (.list (cg ra rb xs es n w))->Q (.ref l) H'):Rg K [v] H Q E:=⟨_,rfl,ra,rb,xs,h,ok,qe,q⟩
theorem zqq(T:Txt K mg a):aH P w K mg base aR 14 a.Jq a.HH AE (Rg K):=by
 refine T.Ib.F.ok yO ?_ ?_;walk_at "b1"
 refine⟨_,(ar (az 1 yO.nd fP)
     (ar (Mf (tb:=λW=>kn (yJ (CM K a) W (Aw (r_ 0) zo)) (iE 1)) (th:=kn (tC .a_) (iE 1)) rfl rfl rfl T.BB (λW pn E' hx=>by exact(av (az 1 yO.nd (PK (Nx T) (hr.mono (by decide)) rfl T.oM.g T.oM.F.kp T.oM.b hx (ae (pv 0) af))))) (λpn ex oe=>by exact(av (az 1 yO.nd fP))))
     (av (aB (pv 1))))),?_⟩
 walk_at "cl";rw[show start Nq [x0]=[some x0,none]from rfl];obtain⟨ra,rb,xs,hw,ok,qe,q⟩:=h;o_head Nv (λσ' C o H'=>σ'=[some x0,some .a_]/\C=.ref a.fD/\h_ ra rb xs/\ah H H') ?_ ?_
 . k_few
   refine OW hw ok (λF H' S=>⟨rfl,rfl,F,S⟩) (λl H' es n w P hl S i=>?_);k_few;exact q l H' es n w P hl S i
 . rintro σ' C o H' ⟨rfl,rfl,F,S⟩
   refine⟨T.GU,?_⟩;k_few;exact qe F H' S
def CZ(K:wb):Sp:=λvs H Q _=>∃x0,vs=[x0] /\ ∃(ra rb:Rat)(xs:List Rat),Is K H x0 (aZ ra rb xs)/\cY ra rb xs/\(h_ ra rb xs->∀H',ah H H'->Q .a_ H') /\ ∀es n w v H',fW ra rb xs es n w->ah H H'->Is K H' v (oz w (aj (ai ra rb xs n)).length)->Q v H'
theorem zly(h:Is K H v (aZ ra rb xs))(ok:cY ra rb xs)(qe:h_ ra rb xs->∀H',ah H H'->Q .a_ H')(q:∀es n w v H',fW ra rb xs es n w->ah H H'->Is K H' v (oz w (aj (ai ra rb xs n)).length)->Q v H'):CZ K [v] H Q E:=⟨_,rfl,ra,rb,xs,h,ok,qe,q⟩
theorem OQ(h:Is K H v (aZ ra rb xs))(ok:cY ra rb xs)(q:∀v H',ah H H'->(v=.a_/\h_ ra rb xs \/ ∃es n w,fW ra rb xs es n w/\Is K H' v (oz w (aj (ai ra rb xs n)).length))->Q v H'):CZ K [v] H Q E:=zly h ok (λF H' S=>q _ _ S (.inl ⟨rfl,F⟩)) (λes n w v H' P S i=>q _ _ S (.inr ⟨es,n,w,P,i⟩))
theorem U6(T:Txt K mg a):aH P w K mg base aR 15 a.Hx a.G4 Ba (CZ K):=by
 refine T.Bl.F.ok yM ?_ ?_;walk_at "b1"
 refine⟨_,(ar (az 1 yM.nd fP)
     (ar (Mf (tb:=λW=>kn (yJ (De K a) W (Aw (r_ 0) zo)) (iE 1)) (th:=kn (tC .a_) (iE 1)) rfl rfl rfl T.BB (λW pn E' hx=>by exact(av (az 1 yM.nd (PK (zBK T) (hr.mono (by decide)) rfl T.sI.g T.sI.F.kp T.sI.b hx (ae (pv 0) af))))) (λpn ex oe=>by exact(av (az 1 yM.nd fP))))
     (av (aB (pv 1))))),?_⟩
 walk_at "cl";rw[show start Mx [x0]=[some x0,none]from rfl];obtain⟨ra,rb,xs,hw,ok,qe,q⟩:=h;o_head Nv (λσ' C o H'=>σ'=[some x0,some .a_]/\C=.ref a.fD/\h_ ra rb xs/\ah H H') ?_ ?_
 . k_few
   refine zAY hw ok (λF H' S=>⟨rfl,rfl,F,S⟩) (λes n w v H' P S i=>?_);k_few;exact q es n w v H' P S i
 . rintro σ' C o H' ⟨rfl,rfl,F,S⟩
   refine⟨T.GU,?_⟩;k_few;exact qe F H' S
theorem Sz(w:PySem.Str):wY (.str w) (.str w)=true:=by rw[wY];simp
theorem FC(n:Int):wY (.int n) (.int n)=true:=by rw[wY];simp
theorem nS(n:Int):Sh 1 (.int n):=⟨by simp[vU],by simp[Vg]⟩
theorem zzy(a b:Rat)(xs:List Rat)(es:List (Nat × Nat × Nat))(n:Nat)(w:String):Sh 5 (.list (cg a b xs es n w)):=Zq λd hd=>by
 rcases vX.mp hd with z | z
 ·obtain⟨e,_,rfl⟩:=wU.mp z
  refine nZ (n:=3) λd hd=>?_
  simp only[wF,WA,or_false]at hd;rcases hd with rfl | rfl | rfl | rfl
  ·exact(sY _).mono (by decide)
  ·exact(L3 _).mono (by decide)
  ·exact(nS _).mono (by decide)
  ·exact(nS _).mono (by decide)
 ·rw[w6.mp z]
  refine nZ (n:=3) λd hd=>?_
  simp only[wF,WA,or_false]at hd;rcases hd with rfl | rfl | rfl
  ·exact(sY _).mono (by decide)
  ·exact(L3 _).mono (by decide)
  ·exact(yy (sk _)).mono (by decide)
theorem zzH(a b:Rat)(xs:List Rat)(es:List (Nat × Nat × Nat))(n:Nat)(w:String):wY (.list (cg a b xs es n w)) (.list (cg a b xs es n w))=true:=zDb λd hd=>by
 rcases vX.mp hd with z | z
 ·obtain⟨e,_,rfl⟩:=wU.mp z
  refine F9 λd hd=>?_
  simp only[wF,WA,or_false]at hd;rcases hd with rfl | rfl | rfl | rfl
  ·exact NP _
  ·exact SM _
  ·exact FC _
  ·exact FC _
 ·rw[w6.mp z]
  refine F9 λd hd=>?_
  simp only[wF,WA,or_false]at hd;rcases hd with rfl | rfl | rfl
  ·exact NP _
  ·exact SM _
  ·exact Sz _
def YB(K:wb):Sp:=λvs H Q _=>∃x0 x1 x2,vs=[x0,x1,x2] /\ ∃(a b:Rat)(xs:List Rat)(es:List (Nat × Nat × Nat))(n:Nat)(w:String),x2=.bl true/\Is K H x0 (aZ a b xs)/\Is K H x1 (.list (cg a b xs es n w))/\aS a b/\1<=xs.length/\xs.length<=8/\cq xs/\LW a b xs 0 es n/\es.length<=100/\0∈ai a b xs n/\cS a b (ai a b xs n)=some w/\(∀i k,i+k<=n->Cm 3500 (aF a b (ai a b xs i) k::ai a b (ai a b xs i) k)) /\ ∀H',ah H H'->Q (.bl true) H'
theorem Ro{a:Rat}{w:String}(h:Is K H v (aZ a b xs))(hp:Is K H u (.list (cg a b xs es n w)))(ok:aS a b)(h1:1<=xs.length)(h8:xs.length<=8)(ph:cq xs)(lw:LW a b xs 0 es n)(bN:es.length<=100)(h0:0∈ai a b xs n)(hw:cS a b (ai a b xs n)=some w)(c:∀i k,i+k<=n->Cm 3500 (aF a b (ai a b xs i) k::ai a b (ai a b xs i) k))(q:∀H',ah H H'->Q (.bl true) H'):YB K [v,u,.bl true] H Q E:=⟨_,_,_,rfl,a,b,xs,es,n,w,rfl,h,hp,ok,h1,h8,ph,lw,bN,h0,hw,c,q⟩
theorem Rf(T:Txt K mg a):aH P w K mg base aR 13 a.JQ a.Iy x_ (YB K):=by
 refine T.Bu.F.ok BO ?_ ?_;walk_at "b3"
 refine⟨_,(ar (az 3 BO.nd (dY (show aK _ (.type "list") (jZ K)from sf) rfl T.z_list kY (ae (pv 1) af)))
     (ar (az 4 BO.nd (au (ztL T) hr T.Jr (ae (pv 0) (ae (pv 1) af))))
     (av (aB (eU (bE (show aK _ (.builtin "isinstance") (eQ K)from jt) rfl T.z_isinstance jb (ae (pv 4) (ae (iH (v:=.ty "bool") rfl T.z_bool RZ rfl) af))) (eU (e_ (show aN _ (wT .Eq) (cO K)from dR hu) (pv 4) (pv 2) (bC _)) (gK (e_ (show aN _ (wT .Eq) (cO K)from dR hu) (pv 1) (pv 3) (bC _))))))))),?_⟩
 walk_at "cl";rw[show start Yt [x0,x1,x2]=[some x0,some x1,some x2,none,none]from rfl];obtain⟨ra,rb,xs,es,n,wd,rfl,hw,hp,ok,y1,y8,ph,lw,bN,h0,hwd,c,q⟩:=h
 have hwi:iL wd:=by
   rcases UG (a:=ra) (b:=rb) (xs:=ai ra rb xs n)with e | ⟨w',e,i⟩
   . rw[hwd]at e;cases e
   . rw[hwd]at e;cases e;exact i
 o_head N_ hp (λl H1 us n1 S1 e1 t1=>?_);have i1:Is K H1 (.ref l) (.list (cg ra rb xs es n wd)):=cF.mpr ⟨l,us,rfl,.of e1,t1⟩;o_head ztQ (hw.by S1) (hp.by S1) ok y1 y8 rfl ph lw bN h0 hwi c (λH2 S2=>?_);rw[hwd,decide_eq_true rfl,decide_eq_true rfl,Xq];o_head zCU ?_;rw[show(true == true)=true from rfl];o_head zAp (hp.by (S1.trans S2)) (i1.by S2) (zzy ..) (by decide) (zzH ..) ?_;exact q _ (S1.trans S2)
def PL(K:wb):Sp:=λvs H Q _=>∃x0 x1,vs=[x0,x1] /\ ∃(x y:Rat)(m n:Nat),Is K H x0 (N x)/\Is K H x1 (N y)/\ag m x/\ag n y/\m+n<=8999 /\ ∀v H',ah H H'->Is K H' v (N (x-y))->Q v H'
theorem UA{w:V}(h1:Is K H v (N x))(h2:Is K H w (N y))(b1:ag m x)(b2:ag n y)(hmn:m+n<=8999)(q:∀v H',ah H H'->Is K H' v (N (x-y))->Q v H'):PL K [v,w] H Q E:=⟨_,_,rfl,x,y,m,n,h1,h2,b1,b2,hmn,q⟩
theorem Tw(T:Txt K mg a):aH P w K mg base aR 2 a.JG a.Iv zI (PL K):=by
 refine T.Bv.F.ok Zt ?_ ?_;walk_at "b2";refine⟨_,(av (aB (au (gZ T) hr T.gk (ae (aD jF (aD cV (ao (pv 0)) (ao (pv 1))) (aD cV (ao (pv 1)) (ao (pv 0)))) (ae (aD cV (ao (pv 0)) (ao (pv 1))) af))))),?_⟩;walk_at "cl";rw[show start BS [x0,x1]=[some x0,some x1]from rfl];obtain⟨x,y,m,n,hx,hy,bx,by',hmn,q⟩:=h;have cx:=bx.mono (show m<=8999 by omega);have cy:=by'.mono (show n<=8999 by omega);o_head nA (SO x y) ((bx.b.mul by'.b).mono hmn) (λv H' s hv=>?_);rw[MF]at hv;exact q v H' s hv
def Sm(K:wb):Sp:=λvs H Q _=>∃x0 x1,vs=[x0,x1] /\ ∃(x y:Rat),Is K H x0 (N x)/\Is K H x1 (N y)/\ag 4000 x/\ag 4000 y /\ ∀v H',ah H H'->Is K H' v (N (x*y))->Q v H'
theorem znS{w:V}(h1:Is K H v (N x))(h2:Is K H w (N y))(b1:ag 4000 x)(b2:ag 4000 y)(q:∀v H',ah H H'->Is K H' v (N (x*y))->Q v H'):Sm K [v,w] H Q E:=⟨_,_,rfl,x,y,h1,h2,b1,b2,q⟩
local macro_rules | `(tactic| walk_at "gs")=>`(tactic| ((with_reducible apply znS); (focus walk_at "is"); (focus walk_at "is"); (focus walk_at "bdr"); (focus walk_at "bdr"); intro _ _ _ _))
theorem FX(T:Txt K mg a):aH P w K mg base aR 2 a.Io a.Hi zG (Sm K):=by
 refine T.sr.F.ok zoe ?_ ?_;walk_at "b2";refine⟨_,(av (aB (au (gZ T) hr T.gk (ae (aD cV (ao (pv 0)) (ao (pv 1))) (ae (aD cV (ao (pv 0)) (ao (pv 1))) af))))),?_⟩;walk_at "cl";rw[show start Ep [x0,x1]=[some x0,some x1]from rfl];obtain⟨x,y,hx,hy,⟨bx1,bx2⟩,⟨by1,by2⟩,q⟩:=h;o_head nA (SO x y) ((bx2.mul by2).mono (by decide)) (λv H' s hv=>?_);rw[UP]at hv;exact q v H' s hv
def OP(K:wb):Sp:=λvs H Q _=>∃x0 x1,vs=[x0,x1] /\ ∃(x y:Rat)(m n:Nat),Is K H x0 (N x)/\Is K H x1 (N y)/\ag m x/\ag n y/\m+n<=8998/\y≠0 /\ ∀v H',ah H H'->Is K H' v (N (x / y))->Q v H'
theorem zsK{w:V}(h1:Is K H v (N x))(h2:Is K H w (N y))(b1:ag m x)(b2:ag n y)(hmn:m+n<=8998)(hy:y≠0)(q:∀v H',ah H H'->Is K H' v (N (x / y))->Q v H'):OP K [v,w] H Q E:=⟨_,_,rfl,x,y,m,n,h1,h2,b1,b2,hmn,hy,q⟩
theorem zrG{p q:Int}(h:q≠0):wB (0-p) (0-q)=wB p q:=by
 refine gj (by omega) ?_;have k:=de p h;have e1:((0-p:Int):Rat) = -(p:Rat):=by rw[XU];push_cast;rfl
 have e2:((0-q:Int):Rat) = -(q:Rat):=by rw[XU];push_cast;rfl
 rw[e1,e2,<- k]
 grind
theorem ztl(T:Txt K mg a):aH P w K mg base aR 2 a.JT a.IC yf (OP K):=by
 refine T.IF.F.ok Zs ?_ ?_;walk_at "b2"
 refine⟨_,(ar (bR (bZ m6 (ao (pv 1)) ay (bC _)) (av (aB (au (gZ T) hr T.gk (ae (aD jF ay (aD cV (ao (pv 0)) (ao (pv 1)))) (ae (aD jF ay (aD cV (ao (pv 0)) (ao (pv 1)))) af))))) bS)
     (av (aB (au (gZ T) hr T.gk (ae (aD cV (ao (pv 0)) (ao (pv 1))) (ae (aD cV (ao (pv 0)) (ao (pv 1))) af)))))),?_⟩
 walk_at "cl";rw[show start Fm [x0,x1]=[some x0,some x1]from rfl];obtain⟨x,y,m,n,hx,hy,bx,by',hmn,h0,q⟩:=h;have cx:=bx.mono (show m<=8999 by omega);have cy:=by'.mono (show n<=8999 by omega);have hn:=yk h0;have bb:=bx.b.mul by'.t;have hd:=den_pos x;have bo:Bd 8999 (0-(x.den:Int)*y.num):=by rw[XU];exact bb.neg.mono (by omega)
 k_few
 . rename_i z
   have hp:0<0-(x.den:Int)*y.num:=by
     have:=Int.mul_neg_of_pos_of_neg hd z;omega
   refine nA hp bo (λv H' s hv=>?_);rw[zrG (by omega),Mn]at hv;exact q v H' s hv
 . rename_i z
   refine nA (vQ hd (by omega)) (bb.mono (by omega)) (λv H' s hv=>?_);rw[Mn]at hv;exact q v H' s hv
def M4(K:wb):Sp:=λvs H Q _=>∃x0 x1,vs=[x0,x1] /\ ∃(a b:Rat)(n:Int),x1=.int n/\Is K H x0 (R a b)/\ag 10 a/\ag 10 b/\0<=n/\n<=64 /\ ∀v H',ah H H'->Is K H' v (R (a^n.toNat) (aE a b n.toNat))->Q v H'
theorem zoK{a:Rat}{n:Int}(h1:Is K H v (R a b))(b1:ag 10 a)(b2:ag 10 b)(h0:0<=n)(h64:n<=64)(q:∀v H',ah H H'->Is K H' v (R (a^n.toNat) (aE a b n.toNat))->Q v H'):M4 K [v,.int n] H Q E:=⟨_,_,rfl,a,b,n,rfl,h1,b1,b2,h0,h64,q⟩
theorem zoN(T:Txt K mg a):aH P w K mg base aR 3 a.Jb a.Hs AB (M4 K):=by
 refine T.HU.F.ok Bb ?_ ?_;walk_at "b2"
 refine⟨_,(ar (az 2 Bb.nd (br (ae (br (ae ay (ae ay af))) (ae (br (ae ay (ae ay af))) af))))
     (ar (gR vP rfl (kc rfl T.z_range (ae (pv 1) af)) (bQ (i:=3) Bb.nd rfl (Or.inl rfl)) (av (az 2 Bb.nd (br (ae (au (FX T) hr T.sr (ae (ao (pv 0)) (ae (ao (pv 2)) af))) (ae (au (rp T) hr T.mM (ae (au (FX T) hr T.sr (ae (ao (pv 0)) (ae (ao (pv 2)) af))) (ae (ao (pv 0)) af))) af))))))
     (av (aB (pv 2))))),?_⟩
 walk_at "cl";rw[show start Lh [x0,x1]=[some x0,some x1,none,none]from rfl];obtain⟨r,s',n,rfl,hr',ba,bb,h0,h64,q⟩:=h;o_head fb (r:=1) rfl rfl (λv1 H1 S1 i1=>?_);o_head fb (r:=0) rfl rfl (λv2 H2 S2 i2=>?_);o_head Fc (i1.by S2) i2 (λv3 H3 S3 i3=>?_);o_head lI (n:=n) (by omega) (by omega) (λi σ H'=>∃(f:V)(o:Option V),σ = [some x0,some (.int n),some f,o]/\ah H H'/\Is K H' f (R (r^i) (aE r s' i))) ⟨_,_,rfl,S1.trans (S2.trans S3),by rw[V8];exact i3⟩ ?_ ?_
 . rintro i σ H' hi ⟨f,o,rfl,S,hf⟩
   have hr1:=hr'.by S;have bf:ag 650 (r^i):=(ba.pow i).mono (by omega);have bg:ag 1400 (aE r s' i):=(ba.aE bb i).mono (by omega);o_head Fc (a:=r*r^i) (b:=r*aE r s' i+s') (by walk_at "is") (by walk_at "is") (λv4 H4 S4 i4=>?_);o_head ⟨_,_,rfl,ah.back S4 (by walk_at "same"),?_⟩;rw[WL,Qf];exact i4
 . rintro σ H' ⟨f,o,rfl,S,hf⟩
   k_few;exact q _ _ S hf
def gT(a b:Rat)(ns:List Int)(xs:List Rat):Nat->Rat
 | 0=>0
 | k+1=>gT a b ns xs k+(1-(aM a b ns (xs++[0]) k).getD k 0)
def ju(a b:Rat)(ns:List Int)(xs:List Rat)(k:Nat):List Rat:=(wt k).map λj=>(aM a b ns (xs++[0]) (j+1)).getD ((j+1) % ns.length) 0
theorem zwO(a b:Rat)(ns:List Int)(xs:List Rat)(k:Nat):ju a b ns xs (k+1)=ju a b ns xs k++[(aM a b ns (xs++[0]) (k+1)).getD ((k+1) % ns.length) 0]:=by
 unfold ju;rw[QF,vA];rfl
theorem Gm{us:List V}(h:ak K H us (xs.map N))(k:Is K H u (N x)):ak K H (us++[u]) ((xs++[x]).map N):=by
 rw[vA];exact h.append (.cons k .nil)
theorem zBc{m:Int}(h:aQ K H p (ns.map V.int))(h0:0<=m)(h1:m<ns.length)(q:Q (.int (ns.getD m.toNat 0)) H):dy K (.ref p) (.int m) H Q:=by
 obtain⟨n,rfl⟩:∃n:Nat,m=(n:Int):=⟨m.toNat,by omega⟩;refine iQ h (kP (j:=n) (v:=.int (ns.getD n 0)) ?_) q;rw[wu,wa,wc (by omega)]
 rfl
def Cn(K:wb):Sp:=λvs H Q _=>∃x0 x1 x2,vs=[x0,x1,x2] /\ ∃(a b:Rat)(ns:List Int)(xs:List Rat)(p1:we),x1=.ref p1/\Is K H x0 (R a b)/\aQ K H p1 (ns.map V.int)/\(Is K H x2 (LN xs)\/Is K H x2 (TN xs))/\cU a b ns xs/\(∀k,k<=ns.length->Cm 3500 (aM a b ns (xs++[0]) k))/\(∀k,k<ns.length->ag 4300 (gT a b ns xs k)) /\ ∀t lb vt lh us hs H',ah H H'->H' t=some (.tup [.ref lb,vt,.ref lh])->H' lb=some (.lst us)->ak K H' us ((cK a b ns xs).map N)->Is K H' vt (N (gT a b ns xs ns.length))->H lh=none->H' lh=some (.lst hs)->ak K H' hs ((ju a b ns xs ns.length).map N)->Q (.ref t) H'
theorem zoG{a:Rat}(h1:Is K H v (R a b))(h2:aQ K H p1 (ns.map V.int))(h3:Is K H u (LN xs)\/Is K H u (TN xs))(ok:cU a b ns xs)(hrow:∀k,k<=ns.length->Cm 3500 (aM a b ns (xs++[0]) k))(htm:∀k,k<ns.length->ag 4300 (gT a b ns xs k))(q:∀t lb vt lh us hs H',ah H H'->H' t=some (.tup [.ref lb,vt,.ref lh])->H' lb=some (.lst us)->ak K H' us ((cK a b ns xs).map N)->Is K H' vt (N (gT a b ns xs ns.length))->H lh=none->H' lh=some (.lst hs)->ak K H' hs ((ju a b ns xs ns.length).map N)->Q (.ref t) H'):Cn K [v,.ref p1,u] H Q E:=⟨_,_,_,rfl,a,b,ns,xs,p1,rfl,h1,h2,h3,ok,hrow,htm,q⟩
theorem zqn{a:Rat}(h1:Is K H v (R a b))(h2:aQ K H p1 (ns.map V.int))(h3:Is K H u (LN xs)\/Is K H u (TN xs))(ok:cU a b ns xs)(hrow:∀k,k<=ns.length->Cm 3500 (aM a b ns (xs++[0]) k))(htm:∀k,k<ns.length->ag 4300 (gT a b ns xs k))(q:∀v H',ah H H'->Is K H' v (.tuple [LN (cK a b ns xs),N (gT a b ns xs ns.length),LN (ju a b ns xs ns.length)])->Q v H'):Cn K [v,.ref p1,u] H Q E :=
 zoG h1 h2 h3 ok hrow htm (λt lb vt lh us hs H' S et eb tb it _ eh th=>q (.ref t) H' S (bX.mpr ⟨t,_,rfl,.of et,.cons (dF eb tb) (.cons it (.cons (dF eh th) .nil))⟩))
theorem zEj{row:List Rat}(c:Cm m row)(hj:j<row.length)(hk:k<row.length):ag (m+2) (row.getD j 0+(1-row.getD k 0)):=by
 have c0:Cm m (0::row):=c.kB λy hy=>by rcases wF.mp hy with rfl | hy;(exact .inr rfl);exact .inl hy
 exact(c0.rise (GM.getD_mem hk)).d_ (wy _ (wU.mpr ⟨_,GM.getD_mem hj,rfl⟩))
theorem zqH(T:Txt K mg a):aH P w K mg base aR 4 a.Jx a.HE tF (Cn K):=by
 refine T.Ie.F.ok jE ?_ ?_;walk_at "b3"
 refine⟨_,(ar (az 3 jE.nd (aD cC (dY (show aK _ (.type "list") (jZ K)from sf) rfl T.z_list kY (ae (pv 2) af)) (eZ (ae (br (ae ay (ae ay af))) af))))
     (ar (az 4 jE.nd (br (ae ay (ae ay af))))
     (ar (az 5 jE.nd (eZ af))
     (ar (gR vP rfl (kc rfl T.z_range (ae (bE (show aK _ (.builtin "len") (dj K)from eA) rfl T.z_len dU (ae (pv 1) af)) af)) (bQ (i:=6) jE.nd rfl (Or.inl rfl)) (ar (az 7 jE.nd (au (Tw T) hr T.Bv (ae (br (ae ay (ae ay af))) (ae (dJ di (pv 3) (pv 6) (λ_ _=>rfl)) af))))
     (ar (az 4 jE.nd (au (rp T) hr T.mM (ae (pv 4) (ae (pv 7) af))))
     (ar (az 8 jE.nd (au (zoN T) hr T.HU (ae (pv 0) (ae (dJ di (pv 1) (pv 6) (λ_ _=>rfl)) af))))
     (ar (ml (i:=9) jE.nd rfl (Or.inl rfl) rfl (cR.by (N':=["_law_phase","_law_wait"]) (src:=[none,some 7]) rfl (show dg _ (aC pB).names Au ["_law_phase","_law_wait"] [none,some 7]=true from by decide +kernel)) (gA (pv 3)) (λ_ _ _ _ _=>(bQ (i:=0) (show(["_law_phase","_law_wait"]:List Str).Nodup from by decide) rfl (Or.inl rfl))) (λ_ _ _ _ _=>dN) (λ_ _ _ _ _=>(au (rp (K:=K) (mg:=mg) (a:=a) T) hr T.mM (ae (pv 0) (ae (pv 1) af)))))
     (ar (ml (i:=3) jE.nd rfl (Or.inl rfl) rfl (cR.by (N':=["_law_phase","_law_often"]) (src:=[none,some 8]) rfl (show dg _ (aC pB).names Au ["_law_phase","_law_often"] [none,some 8]=true from by decide +kernel)) (gA (pv 9)) (λ_ _ _ _ _=>(bQ (i:=0) (show(["_law_phase","_law_often"]:List Str).Nodup from by decide) rfl (Or.inl rfl))) (λ_ _ _ _ _=>dN) (λ_ _ _ _ _=>(au (rp (K:=K) (mg:=mg) (a:=a) T) hr T.mM (ae (au (FX (K:=K) (mg:=mg) (a:=a) T) hr T.sr (ae (mD (K:=K) di (pv 1)) (ae (pv 0) af))) (ae (mD (K:=K) di (pv 1)) af)))))
     (ar (oD (br (ae ay (ae ay af))) (oX (pv 3) (pv 6) pO))
     (av (nk (nR WT WQ WR mf (pv 5) (ae (dJ di (pv 3) (aD gQ (aD cC (pv 6) ay) (bE (show aK _ (.builtin "len") (dj K)from eA) rfl T.z_len dU (ae (pv 1) af))) (λ_ _=>rfl)) af)))))))))))
     (av (aB (br (ae (jQ j8 (pv 3) j4 (j3 (gI gB ay))) (ae (pv 4) (ae (pv 5) af)))))))))),?_⟩
 walk_at "cl";rw[show start Au [x0,x1,x2]=[some x0,some x1,some x2,none,none,none,none,none,none,none]from rfl];obtain⟨ra,rb,ns,xs,p1,rfl,hr',hn',hp',ok,hrow,htm,q⟩:=h;have hlen:=ok.len;have hfew:=ok.bN;o_head zxk hp' (λl1 H1 us hl1 S1 e1 t1=>?_);have hul:=t1.length;rw[wm]at hul;o_head fb (r:=0) rfl rfl (λv2 H2 S2 i2=>?_);o_head ft (by simp) (λl3 H3 hl3 S3 e3=>?_);refine jS (S3 _ _ (S2 _ _ e1)) e3 (Ve (jo (by simp;omega))) (λlp H4 hl4 S4 e4=>?_);o_head fb (r:=0) rfl rfl (λv5 H5 S5 i5=>?_);o_head ft (by simp) (λlh H6 hlh S6 e6=>?_);have T4:ah H H4:=S1.trans (S2.trans (S3.trans S4));have T6:ah H H6:=T4.trans (S5.trans S6);have t6:ak K H6 (us++[v2]) ((xs++[0]).map N):=Gm (ak.same (S2.trans (S3.trans (S4.trans (S5.trans S6)))) _ _ t1) (i2.by (S3.trans (S4.trans (S5.trans S6))));have e46:=S6 _ _ (S5 _ _ e4);have hD:=jJ (T4.trans S5) hlh;have neph:lp≠lh:=λz=>by subst z;rw[S5 _ _ e4]at hlh;cases hlh
 have i56:=i5.by S6;clear S1 S2 S3 S4 S5 S6 e1 e3 e4 t1 i2 i5 hl1 hl3 hl4 hlh T4;o_head jm (T6.seq hn') ?_;rw[wm];refine lI (n:=(ns.length:Int)) (by omega) (by omega) (λk σ H'=>∃lp vt o6 o7 o8 o9 us hs,σ = [some x0,some (.ref p1),some x2,some (.ref lp),some vt,some (.ref lh),o6,o7,o8,o9]/\ah H H'/\lp≠lh/\H' lp=some (.lst us)/\ak K H' us ((aM ra rb ns (xs++[0]) k).map N)/\Is K H' vt (N (gT ra rb ns xs k))/\H' lh=some (.lst hs)/\ak K H' hs ((ju ra rb ns xs k).map N)) ⟨lp,v5,_,_,_,_,_,[],rfl,T6,neph,e46,t6,i56,e6,.nil⟩ ?_ ?_
 . rintro k σ H7 hk ⟨lp,vt,o6,o7,o8,o9,us,hs,rfl,S7,neph,e7,t7,it7,h7,th7⟩
   have hk':k<ns.length:=by simpa using hk
   have b1:=htm k hk';have hmk:=hrow k (by omega);have hrl:(aM ra rb ns (xs++[0]) k).length=ns.length:=by rw[c_,wR];simp;omega
   have e8:aM ra rb ns (xs++[0]) (k+1)=dM ra rb (ns.getD k 0).toNat (aM ra rb ns (xs++[0]) k) k:=rfl;have et:gT ra rb ns xs (k+1)=gT ra rb ns xs k+(1-(aM ra rb ns (xs++[0]) k).getD k 0):=rfl;have eh:=zwO ra rb ns xs k;have bb:∀j,ag 3500 ((aM ra rb ns (xs++[0]) k).getD j 0):=λj=>hmk.get j
   have hnk:=ok.n0 (ns.getD k 0) (by rw[wa,wc hk'];exact vK _);generalize aM ra rb ns (xs++[0]) k=row at *;have bw:ag 3502 (1-row.getD k 0):=(ag.one.sub (bb k)).mono (by decide);have bk:=bb k;o_head fb (r:=1) rfl rfl (λv8 H8 S8 i8=>?_);o_head kH (dF (S8 _ _ e7) (ak.same S8 _ _ t7)) (by omega) (by omega) (λv9 i9=>?_);rw[wP]at i9;have it8:=it7.by S8;o_head UA i8 i9 ag.one bk (by decide) (λv10 H10 S10 i10=>?_);have it10:=it8.by S10;k_few;rename_i v11 H11 S11 i11;have T11:=S8.trans (S10.trans S11);refine zBc (T11.seq (S7.seq hn')) (by omega) (by omega) ?_;rw[wP];o_head zoK ((hr'.by S7).by T11) ok.ba ok.bb hnk.1 hnk.2 (λv12 H12 S12 i12=>?_);have T12:=T11.trans S12;have bf:ag 700 (ra^(ns.getD k 0).toNat):=(ok.ba.pow _).mono (by omega);have bg:ag 1500 (aE ra rb (ns.getD k 0).toNat):=(ok.ba.aE ok.bb _).mono (by omega);have i1012:=i10.by (S11.trans S12);have i1112:=i11.by S12;have e12:=T12 _ _ e7;have t12:ak K H12 us (row.map N):=ak.same T12 _ _ t7;have h12:=T12 _ _ h7;have th12:ak K H12 hs ((ju ra rb ns xs k).map N):=ak.same T12 _ _ th7;have X12:=S7.trans T12;have hul:us.length=row.length:=by rw[t12.length,wm]
   rw[<- et]at i1112;clear S8 S10 S11 S12 T11 T12 i8 i9 i10 i11 e7 t7 h7 th7 it7 it8;o_head jC (.of e12) (o0:=none) (tl:=[some v10]) rfl (λj v H=>Is K H v (N ((row.map λx=>x+(1-row.getD k 0)).getD j 0))) ?_ ?_
   . rintro D j x ys o H1 hx' inv
     obtain⟨hj,ix⟩:=dD t12 hx';have ix1:=ix.by inv.same;have jv:=i1012.by inv.same;have bx:=bb j;k_few;rename_i v4 H4 S4 iv4;exact d8 inv (by omega) fL ⟨_,rfl⟩ S4 (by rw[oA hj];exact iv4)
   . rintro D ys H13 hn13 S13 e13 hl13 hr13
     have hyl:ys.length=row.length:=by omega
     have t13:ak K H13 ys ((row.map λx=>x+(1-row.getD k 0)).map N):=fY (by rw[wm];exact hyl) hr13;have hn0:H12 D=none:=hn13;o_head jC (.of e13) (o0:=none) (tl:=[some v12]) rfl (λj v H=>Is K H v (N ((row.map λx=>push ra rb (ns.getD k 0).toNat (x+(1-row.getD k 0))).getD j 0))) ?_ ?_
     . rintro D2 j x zs o H1 hx' inv
       obtain⟨hj,ix⟩:=dD t13 hx';rw[wm]at hj;rw[oA hj]at ix;have ix1:=ix.by inv.same;have jv:=(i12.by S13).by inv.same;have bx:ag 3502 (row.getD j 0+(1-row.getD k 0)):=zEj hmk hj (by omega);k_few;rename_i v4 H4 S4 iv4 v5 iv5 v6 H6 S6 iv6;exact d8 inv (by omega) fL ⟨_,rfl⟩ (S4.trans S6) (by rw[oA hj,ib];exact iv6)
     . rintro D2 zs H14 hn14 S14 e14 hl14 hr14
       have hzl:zs.length=row.length:=by omega
       have T14:=S13.trans S14;o_head fb (r:=0) rfl rfl (λv15 H15 S15 i15=>?_);o_head zt (j:=k) (S15 _ _ e14) (by unfold iA;rw[if_pos (by omega),if_pos (by omega)];simp) (λH16 E16 e16=>?_);have hD2:H12 D2=none:=jJ S13 hn14;have ne2:lh≠D2:=λz=>by subst z;rw[h12]at hD2;cases hD2
       have hDH:=jJ X12 hD2;have T15:=T14.trans S15;have h16:=E16 lh _ ne2 (T15 _ _ h12);have K16:bG H15 H16:=E16.keep (S15 _ _ e14)
       have t16:ak K H16 (zs.set k v15) ((dM ra rb (ns.getD k 0).toNat row k).map N):=by
         refine fY (by rw[VC,iF];exact hzl) λj v hv=>?_
         rw[VN]at hv
         by_cases hij:k=j
         . subst hij
           rw[if_pos rfl,if_pos (by omega)]at hv;cases hv;rw[gG _ _ _ _ _ _ (by omega),if_pos rfl];exact i15.gb K16
         . rw[if_neg hij]at hv
           have hj:j<row.length:=by
             rcases wA j zs.length with z | z
             . omega
             . rw[wL z]at hv;cases hv
           have hz:=hr14 j v hv;rw[oA hj]at hz;rw[gG _ _ _ _ _ _ hj,if_neg (WE hij)];exact(hz.by S15).gb K16
       rw[<- e8]at t16;have th16:ak K H16 hs ((ju ra rb ns xs k).map N):=ak.keep (T15.keep.trans K16) _ _ (gD _) th12;have i1116:=(i1112.by T15).gb K16;have X16:ah H H16:=(X12.trans T15).grow hDH E16;have hrl2:(aM ra rb ns (xs++[0]) (k+1)).length=ns.length:=by rw[c_,wR];simp;omega
       have hhl:hs.length=k:=by
         have:=th16.length;rw[wm]at this;unfold ju at this
         simpa using this
       clear hr14 e14 hn14 S14 S15 T14 T15 S13 e13 t13 hr13 hn13 i12 i1012 i1112 e12 t12 h12 th12 i15;o_head lO (aQ.of h16) ?_;o_head jm (X16.seq hn') ?_;rw[wm];have hn0':(0:Int)<(ns.length:Int):=by omega
       k_few;have em:((k:Int)+1) % (ns.length:Int)=(((k+1) % ns.length:Nat):Int):=by push_cast;rfl
       have hmd:(k+1) % ns.length<ns.length:=qm _ (by omega);rw[em];refine kH (dF e16 t16) (by omega) (by omega) (λv17 i17=>?_);rw[wP]at i17;o_head lX h16 (by omega) (λH18 E18 e18=>?_);have K18:=E18.keep h16;o_head ⟨D2,_,_,_,_,_,_,hs++[v17],rfl,X16.grow hD E18,WE ne2,E18 D2 _ (WE ne2) e16,ak.keep K18 _ _ (gD _) t16,i1116.gb K18,e18,?_⟩;rw[eh];exact Gm (ak.keep K18 _ _ (gD _) th16) (i17.gb K18)
 . rintro σ H7 ⟨lp,vt,o6,o7,o8,o9,us,hs,rfl,S7,neph,e7,t7,it7,h7,th7⟩
   o_head lF (dF e7 t7) (λl20 H20 ys20 n20 S20 e20 t20=>?_);rw[Gr,<- xc]at t20;o_head nE (by simp) (λt21 H21 n21 S21 e21=>?_);exact q t21 l20 vt lh ys20 hs H21 (S7.trans (S20.trans S21)) e21 (S21 _ _ e20) (ak.same S21 _ _ t20) (it7.by (S20.trans S21)) hD ((S20.trans S21) _ _ h7) (ak.same (S20.trans S21) _ _ th7)
def SE(K:wb):Sp:=λvs H Q _=>∃x0 x1,vs=[x0,x1] /\ ∃(a:Rat)(n:Int)(k:Nat),x1=.int n/\Is K H x0 (N a)/\ag k a/\k<=4000/\0<=n/\n<=100/\k*n.toNat<=4000 /\ ∀v H',ah H H'->Is K H' v (N (a^n.toNat))->Q v H'
theorem zq5{a:Rat}{n:Int}(h:Is K H v (N a))(b:ag k a)(hk:k<=4000)(n0:0<=n)(n1:n<=100)(hkn:k*n.toNat<=4000)(q:∀v H',ah H H'->Is K H' v (N (a^n.toNat))->Q v H'):SE K [v,.int n] H Q E:=⟨_,_,rfl,a,n,k,rfl,h,b,hk,n0,n1,hkn,q⟩
theorem CU{k:Nat}{x:Int}(h:Bd k x):∀n:Nat,Bd (k*n+1) (x^n)
 | 0=>⟨by simp⟩
 | n+1=>by
  rw[V9];exact((CU h n).mul h).mono (by rw[QX];omega)
theorem zqb(T:Txt K mg a):aH P w K mg base aR 1 a.Jv a.HQ Bc (SE K):=by
 refine T.HZ.F.ok mZ ?_ ?_;walk_at "b2"
 refine⟨_,(ar (az 2 mZ.nd ay)
     (ar (az 3 mZ.nd ay)
     (ar (gR vP rfl (kc rfl T.z_range (ae (pv 1) af)) (bQ (i:=4) mZ.nd rfl (Or.inl rfl)) (ar (az 2 mZ.nd (aD cV (pv 2) (ao (pv 0))))
     (av (az 3 mZ.nd (aD cV (pv 3) (ao (pv 0)))))))
     (av (aB (br (ae (pv 2) (ae (pv 3) af)))))))),?_⟩
 walk_at "cl";rw[show start W_ [x0,x1]=[some x0,some x1,none,none,none]from rfl];obtain⟨ra,n,kk,rfl,hx,ba,hk4,n0,n1,hkn,q⟩:=h;have bt:Bd 4000 ra.num:=ba.t.mono hk4;have bd:Bd 4000 (ra.den:Int):=ba.b.mono hk4;o_head lI (n:=n) (by omega) (by omega) (λi σ H'=>∃o,σ = [some x0,some (.int n),some (.int (ra.num^i)),some (.int ((ra.den:Int)^i)),o]/\H'=H) ⟨none,by rw[QJ,QJ],rfl⟩ ?_ ?_
 . rintro i σ H' hi ⟨o,rfl,rfl⟩
   have hki:kk*i<=kk*n.toNat:=qM _ (by omega);have b1:Bd 4001 (ra.num^i):=(CU ba.t i).mono (by omega);have b2:Bd 4001 ((ra.den:Int)^i):=(CU ba.b i).mono (by omega);have e1:ra.num^(i+1)=ra.num^i*ra.num:=V9 ..;have e2:(ra.den:Int)^(i+1)=(ra.den:Int)^i*(ra.den:Int):=V9 ..;generalize ra.num^i=t at *;generalize (ra.den:Int)^i=u at *;k_few;exact⟨_,by rw[e1,e2],rfl⟩
 . rintro σ H' ⟨o,rfl,rfl⟩
   k_few;exact fb (r:=ra^n.toNat) (Rat.num_pow ..).symm (by rw[Rat.den_pow];push_cast;rfl) q
def OY(K:wb):Sp:=λvs H Q _=>∃x0 x1,vs=[x0,x1] /\ ∃(a b:Rat)(ns:List Int)(p1:we),x1=.ref p1/\Is K H x0 (R a b)/\aQ K H p1 (ns.map V.int)/\aS a b/\dq ns/\a≠1 /\ ∀l H' us,H l=none->ah H H'->H' l=some (.lst us)->ak K H' us ((cQ a b ns).map N)->Q (.ref l) H'
theorem zqt{a:Rat}(h1:Is K H v (R a b))(h2:aQ K H p1 (ns.map V.int))(ok:aS a b)(sz:dq ns)(ha:a≠1)(q:∀l H' us,H l=none->ah H H'->H' l=some (.lst us)->ak K H' us ((cQ a b ns).map N)->Q (.ref l) H'):OY K [v,.ref p1] H Q E:=⟨_,_,rfl,a,b,ns,p1,rfl,h1,h2,ok,sz,ha,q⟩
theorem zxG{a:Rat}(h:aS a b)(k:dq ns)(hl:ns.length=xs.length+1)(c:Cm m xs)(hm:m<=3290):cU a b ns xs/\(∀j,j<=ns.length->Cm 3500 (aM a b ns (xs++[0]) j)) /\ ∀j,j<ns.length->ag 4300 (gT a b ns xs j):=by
 have h8:=k.bN;have hu:=k.upTo
 have ht:∀j,gT a b ns xs j=eO a b ns (xs++[0]) j:=λj=>by
  induction j with
  | zero=>rfl
  | succ j ih=>rw[gT,eO,ih]
 have hc:∀j,j<=ns.length->Cm 3500 (eO a b ns (xs++[0]) j::aM a b ns (xs++[0]) j):=λj hj=>by
  have h1:=El (ns:=ns) hj (wo _);exact(c.snoc.BM h.ba h.bb (ns:=ns) j hj).mono (by omega)
 refine⟨⟨h.ba,h.bb,λn hn=>by have:=k.each n hn;omega,hl,by omega,⟨m,c,by omega⟩⟩,λj hj=>lB (hc j hj) λy hy=>wy _ hy,λj hj=>?_⟩;rw[ht];exact((hc j (by omega)).d_ (wz ..)).mono (by decide)
theorem NX{l:we}{k:Int}(e:H l=some (.lst [v]))(h0:0<=k)(h1:k<=1000)(q:∀p H',H p=none->ah H H'->H' p=some (.lst (vc k.toNat v))->Q (.ref p) H'):rL (.ref l) (.int k) H Q :=
 zCt e (by omega) h1 (by rw[vV];omega) (λp H' n s e'=>q p H' n s (by rw[e',List.flatten_replicate_singleton]))
theorem zsc(h:Is K H v (N 0))(n:Nat):ak K H (vc n v) ((cP n).map N):=by
 unfold cP;rw[XV];exact ak.Ky h n
theorem ZG(T:Txt K mg a):aH P w K mg base aR 5 a.Jp a.HS AO (OY K):=by
 refine T.HX.F.ok Gz ?_ ?_;walk_at "b2"
 refine⟨_,(ar (az 2 Gz.nd (au (zqb T) hr T.HZ (ae (ao (pv 0)) (ae (bE (show aK _ (.builtin "sum") (B3 K)from zt9 rfl) rfl T.z_sum U_ (ae (pv 1) af)) af))))
     (ar (az 3 Gz.nd (ao (au (zqH T) hr T.Ie (ae (pv 0) (ae (pv 1) (ae (aD (show aN _ (WC .Mult) rL from NA) (eZ (ae (br (ae ay (ae ay af))) af)) (aD jF (bE (show aK _ (.builtin "len") (dj K)from eA) rfl T.z_len dU (ae (pv 1) af)) ay)) af))))))
     (av (aB (d7 rfl (cR.by (N':=["_law_shift","_law_factor"]) (src:=[none,some 2]) rfl (show dg _ (aC yD).names CA ["_law_shift","_law_factor"] [none,some 2]=true from by decide +kernel)) (gA (pv 3)) (λ_ _ _ _ _=>(bQ (i:=0) (show(["_law_shift","_law_factor"]:List Str).Nodup from by decide) rfl (Or.inl rfl))) (λ_ _ _ _ _=>dN) (λ_ _ _ _ _=>by exact(au (ztl (K:=K) (mg:=mg) (a:=a) T) hr T.IF (ae (pv 0) (ae (au (Tw (K:=K) (mg:=mg) (a:=a) T) hr T.Bv (ae (show PE _ _ (pT K _)from br (ae ay (ae ay af))) (ae (pv 1) af))) af))))))))),?_⟩
 walk_at "cl";rw[show start CA [x0,x1]=[some x0,some x1,none,none]from rfl];obtain⟨ra,rb,ns,p1,rfl,hr',hn',ok,sz,ha,q⟩:=h;have h8:=sz.bN;have h1:=sz.some;have hp:=sz.pos;have hF:ra^ns.sum.toNat≠1:=λe=>ha ((rY ok (by omega)).mp e)
 have bF:ag 49 (ra^ns.sum.toNat):=(jB ok _).mono (by omega);have hne:1-ra^ns.sum.toNat≠0:=λe=>hF (by grind)
 have rc:=zxG ok sz (xs:=cP (ns.length-1)) (by rw[As];omega) (rT _) (by decide);k_few;rename_i va ia;refine zAS hn' ?_;o_head zq5 ia (NG ok) (by decide) (by omega) (by omega) (by omega) (λv1 H1 S1 i1=>?_);o_head fb (r:=0) rfl rfl (λv2 H2 S2 i2=>?_);o_head ft (by simp) (λl3 H3 n3 S3 e3=>?_);o_head jm ((S1.trans (S2.trans S3)).seq hn') ?_;rw[wm];o_head NX e3 (by omega) (by omega) (λl4 H4 n4 S4 e4=>?_);have T4:=S1.trans (S2.trans (S3.trans S4));have hk:((ns.length:Int)-1).toNat=ns.length-1:=by omega
 rw[hk]at e4;have i4:Is K H4 (.ref l4) (LN (cP (ns.length-1))):=dF e4 (zsc (i2.by (S3.trans S4)) _);o_head zqn (hr'.by T4) (T4.seq hn') (.inl i4) rc.1 rc.2.1 rc.2.2 (λv5 H5 S5 i5=>?_);o_head aA (j:=0) i5 rfl (λv6 i6=>?_);have T5:=T4.trans S5;have i15:=i1.by (S2.trans (S3.trans (S4.trans S5)));obtain⟨l6,us,rfl,hs6,t6⟩:=cF.mp i6;have hul:=t6.length;rw[wm]at hul;have hsl:(dk ra rb ns).length=ns.length-1:=mU h1;have hul:us.length=ns.length-1:=by rw[hul];exact hsl
 have hstl:(cQ ra rb ns).length=ns.length-1:=rn h1;o_head jC hs6 (o0:=none) (tl:=[some v1]) rfl (λj y H'=>Is K H' y (N ((cQ ra rb ns).getD j 0))) ?_ ?_
 . intro D j x ys o H7 hx inv
   obtain⟨hj,ix⟩:=dD (xs:=dk ra rb ns) t6 hx;have S7:=inv.same;have ix7:=ix.by S7;o_head fb (r:=1) rfl rfl (λv8 H8 S8 i8=>?_);o_head UA i8 (i15.by (S7.trans S8)) ag.one bF (by decide) (λv9 H9 S9 i9=>?_);o_head zsK (ix7.by (S8.trans S9)) i9 (A7 ok sz j) (ag.one.sub bF) (by decide) hne (λv10 H10 S10 i10=>?_);have e:(cQ ra rb ns).getD j 0=(dk ra rb ns).getD j 0 / (1-ra^ns.sum.toNat):=Pc (by omega);rw[<- e]at i10;exact d8 inv (by omega) fL ⟨_,rfl⟩ (S8.trans (S9.trans S10)) i10
 . intro D ys H7 hn S7 hD hl hr
   exact q D H7 ys (jJ T5 hn) (T5.trans S7) hD (fY (by rw[hl,hul,hstl]) hr)
def Oi(K:wb):Sp:=λvs H Q _=>∃x0 x1 x2,vs=[x0,x1,x2] /\ ∃(p:we)(k m:Int)(ra rb:Rat),x0=.ref p/\x2=.int m/\Is K H x1 (R ra rb)/\aS ra rb/\cJ H p k/\k<=900/\3<=m/\m<=8 /\ ∀(l:we)(H':Hp)(us:List V)(xs:List Rat),H l=none->Exc p H H'->bG H H'->cJ H' p (k+13)->H' l=some (.lst us)->ak K H' us (xs.map N)->1<=xs.length->(xs.length:Int)<=m->(∀x∈xs,eY x)->Q (.ref l) H'
theorem zrb{k m:Int}(ir:Is K H v (R ra rb))(ok:aS ra rb)(h:cJ H p k)(hk:k<=900)(h1:3<=m)(h8:m<=8)(q:∀(l:we)(H':Hp)(us:List V)(xs:List Rat),H l=none->Exc p H H'->bG H H'->cJ H' p (k+13)->H' l=some (.lst us)->ak K H' us (xs.map N)->1<=xs.length->(xs.length:Int)<=m->(∀x∈xs,eY x)->Q (.ref l) H'):Oi K [.ref p,v,.int m] H Q E:=⟨_,_,_,rfl,p,k,m,ra,rb,rfl,rfl,ir,ok,h,hk,h1,h8,q⟩
theorem zBa(h1:1<=n)(h3:n<=3):dq (vc n (1:Int)):=by
 have:n=1\/n=2\/n=3:=by omega
 rcases this with rfl | rfl | rfl
 ·exact⟨by decide,by decide,by decide,by decide⟩
 ·exact⟨by decide,by decide,by decide,by decide⟩
 ·exact⟨by decide,by decide,by decide,by decide⟩
theorem zzB(h0:¬ x.num<0)(h1:¬ (x.den:Int)<=x.num)(h2:¬ (60:Int)<(x.den:Int)):eY x:=by
 have:=Tv (r:=x.num) (u:=(x.den:Int)) (by omega) (by omega) (by omega);rw[Vy]at this;exact this
theorem zqd(T:Txt K mg a):aH P w K mg base aR 6 a.Jm a.HJ sW (Oi K):=by
 refine T.ID.F.ok tL ?_ ?_;walk_at "b3"
 refine⟨_,(ar (az 3 tL.nd (au (Z0 T) hr T.GR (ae (pv 0) (ae (pv 2) af))))
     (ar (bR (PW.pt (fG (bZ m4 (au (fO T) hr T.fg (ae (pv 0) (ae ay af))) ay (bC _)) (iC (bZ (show aN _ (wT .Eq) (cO K)from dR hu) (ao (pv 1)) (br (ae ay (ae ay af))) (bC _))))) (av (aB (pv 3))) bS)
     (ar (az 4 tL.nd (aD cC (au (ZG T) hr T.HX (ae (pv 1) (ae (aD (show aN _ (WC .Mult) rL from NA) (eZ (ae ay af)) (aD cC ay (au (fO T) hr T.fg (ae (pv 0) (ae ay af))))) af))) (eZ (ae (br (ae ay (ae ay af))) af))))
     (ar (gR vP rfl (gA (pv 4)) (bQ (i:=5) tL.nd rfl (Or.inl rfl)) (av (bR (PW.pt (fG (bZ m6 (ao (pv 5)) ay (bC _)) (fG (bZ DR (ao (pv 5)) (ao (pv 5)) (bC _)) (iC (bZ m4 (ao (pv 5)) ay (bC _)))))) (av (aB (pv 3))) bS)))
     (av (aB (pv 4))))))),?_⟩
 walk_at "cl";rw[show start RL [x0,x1,x2]=[some x0,some x1,some x2,none,none,none]from rfl];obtain⟨p,k,m,ra,rb,rfl,rfl,ir,ok,hp,hk,h3,h8,q⟩:=h;o_head Z7 hp (by omega) (by omega) (by omega) (λl1 H1 us1 xs1 n1 E1 K1 P1 e1 t1 a1 b1 ph1=>?_);have ne1:l1≠p:=cJ.ne n1 hp;k_few
 . rename_i d H2 d0 d1 E2 K2 P2 z
   exact q l1 H2 us1 xs1 n1 (E1.trans E2) (K1.trans K2) (P2.le (by omega)) (E2.at ne1 e1) (ak.keep K2 _ _ (gD _) t1) a1 b1 ph1
 . rename_i d H2 d0 d1 E2 K2 P2 z va ia
   have e2:=E2.at ne1 e1;have t2:ak K H2 us1 (xs1.map N):=ak.keep K2 _ _ (gD _) t1;have ir2:=(ir.oU K1).oU K2;have EA:=E1.trans E2;have KA:=K1.trans K2;clear E1 K1 P1 e1 t1 E2 K2 ir;refine fb (r:=1) rfl rfl (λv3 H3 S3 i3=>?_);refine RC (ia.by S3) i3 ⟨_,rfl,?_⟩
   by_cases za:ra=1
   . rw[decide_eq_true za,if_pos rfl]
     k_few;exact q l1 H3 us1 xs1 n1 (EA.trans S3.exc) (KA.trans S3.keep) ((P2.same S3).le (by omega)) (S3 _ _ e2) (ak.same S3 _ _ t2) a1 b1 ph1
   . rw[decide_eq_false za,if_neg (by decide)]
     o_head ft (by simp) (λl4 H4 n4 S4 e4=>?_);have P4:=(P2.same S3).same S4;k_few;rename_i r H5 r0 r1 E5 K5 P5;have ne4:l4≠p:=cJ.ne n4 (P2.same S3);refine NX (E5.at ne4 e4) (by omega) (by omega) (λl6 H6 n6 S6 e6=>?_);obtain⟨n,hn⟩:∃n:Nat,2+r=(n:Int):=⟨(2+r).toNat,by omega⟩;rw[hn,wP]at e6;have e6:H6 l6=some (.lst ((vc n (1:Int)).map V.int)):=by rw[XV];exact e6
     have S34:=S3.trans S4;have KB:=KA.trans (S34.keep.trans (K5.trans S6.keep));have EB:=EA.trans (S34.exc.trans (E5.trans S6.exc));have P6:=P5.same S6;have eB:H6 l1=some (.lst us1):=S6 _ _ (E5.at ne1 (S34 _ _ e2));have tB:ak K H6 us1 (xs1.map N):=ak.keep (S34.keep.trans (K5.trans S6.keep)) _ _ (gD _) t2;have irB:=ir2.oU (S34.keep.trans (K5.trans S6.keep));clear S3 S4 S34 E5 K5 S6 e2 t2 ir2 EA KA P2 P4 P5 e4 i3 ia n4 ne4 n6;o_head zqt irB (.of e6) ok (zBa (by omega) (by omega)) za (λl7 H7 us7 n7 S7 e7 t7=>?_);have hsl:(cQ ra rb (vc n (1:Int))).length=n-1:=by rw[rn (by rw[Wx];omega),Wx]
     have hul:=t7.length;rw[wm,hsl]at hul;generalize cQ ra rb (vc n (1:Int))=ys at *;o_head fb (r:=0) rfl rfl (λv8 H8 S8 i8=>?_);o_head ft (by simp) (λl9 H9 n9 S9 e9=>?_);refine jS (S9 _ _ (S8 _ _ e7)) e9 (Ve (jo (by simp;omega))) (λl10 H10 n10 S10 e10=>?_);have S710:=S8.trans (S9.trans S10);have t10:ak K H10 (us7++[v8]) ((ys++[0]).map N):=Gm (ak.same S710 _ _ t7) (i8.by (S9.trans S10));have SC:=S7.trans S710;have hn10:H6 l10=none:=jJ (S7.trans (S8.trans S9)) n10
     have hnl:H l10=none:=by
       have ne:l10≠p:=cJ.ne hn10 P6;cases e:H l10 with
       | none=>rfl
       | some o=>rw[EB l10 o ne e]at hn10;cases hn10
     clear S7 S8 S9 S10 S710 t7 i8 n7 n9 n10 e7 e9;o_head Eh (.of e10) (λi σ H'=>∃o,σ = [some (.ref p),some x1,some (.int m),some (.ref l1),some (.ref l10),o]/\H'=H10 /\ ∀j,j<i->eY ((ys++[0]).getD j 0)) ⟨_,rfl,rfl,λj hj=>by omega⟩ (λi σ H' _ h=>by obtain⟨_,_,rfl,_⟩:=h;exact .of e10) ?_ ?_
     . rintro i x σ H' hx ⟨o,rfl,rfl,hj⟩
       obtain⟨hi,ix⟩:=dD t10 hx;k_few
       . exact q l1 H' us1 xs1 n1 (EB.trans SC.exc) (KB.trans SC.keep) ((P6.same SC).le (by omega)) (SC _ _ eB) (ak.same SC _ _ tB) a1 b1 ph1
       . exact q l1 H' us1 xs1 n1 (EB.trans SC.exc) (KB.trans SC.keep) ((P6.same SC).le (by omega)) (SC _ _ eB) (ak.same SC _ _ tB) a1 b1 ph1
       . exact q l1 H' us1 xs1 n1 (EB.trans SC.exc) (KB.trans SC.keep) ((P6.same SC).le (by omega)) (SC _ _ eB) (ak.same SC _ _ tB) a1 b1 ph1
       . rename_i z1 z2 z3
         refine⟨_,rfl,rfl,λj hj'=>?_⟩;rcases wA j i with y | y
         . exact hj j y
         . have:j=i:=by omega
           subst this;exact zzB z1 z2 z3
     . rintro σ H' ⟨o,rfl,rfl,hj⟩
       k_few;have hyl:(ys++[0]).length=n:=by simp[hsl];omega
       refine q l10 H' _ (ys++[0]) hnl (EB.trans SC.exc) (KB.trans SC.keep) ((P6.same SC).le (by omega)) e10 t10 (by omega) (by omega) (λy hy=>?_);obtain⟨j,hj',e⟩:=wX hy;have:=hj j (by simp;omega);rw[wa,wc hj']at this;rw[<- e];exact this
theorem fK.lw{a b:Rat}{xs:List Rat}(hk:cY a b xs):∀{es:List (Nat × Nat × Nat)}{i n:Nat},fK a b xs i es n->LW a b xs i es n
 | [],_,_,h=>h
 | e::es,i,n,h=>by
  refine⟨h.1,?_,fK.lw hk h.2.2⟩;rcases h.2.1 with⟨e0,er,eg⟩ | ⟨i1,_,R⟩
  ·rw[er,eg]
   exact⟨by omega,by omega,λz=>by omega⟩
  ·have:=R.gN
   have:=(hk.nf i).2;exact⟨R.jx,by omega,λ_=>⟨hk.hp.zero hk.ok.a0 hk.ok.b0 hk.h1 i1,R.free⟩⟩
theorem L9{a:Rat}(h:m<=n):bY a b xs m<=bY a b xs n:=by
 obtain⟨k,rfl⟩:=Nat.exists_eq_add_of_le h;rw[lT];omega
theorem zAQ(a b:Rat)(xs:List Rat)(es:List (Nat × Nat × Nat))(n:Nat)(w:String)(j:Nat):dh ((cg a b xs es n w).getD j .none)=true:=by
 have all:∀d∈cg a b xs es n w,dh d=true:=λd hd=>by
  rcases vX.mp hd with z | z
  ·obtain⟨e,_,rfl⟩:=wU.mp z
   exact pD _ _ _ _
  ·rw[w6.mp z]
   exact TH _ _ _ _ _
 rw[wa];cases e:(cg a b xs es n w)[j]? with
 | none=>rfl
 | some d=>exact all d (Qz e)
theorem F0(a b:Rat)(xs:List Rat)(es:List (Nat × Nat × Nat))(n:Nat)(w:String):(cg a b xs es n w).length=es.length+1:=by simp[cg]
theorem O4{a:Rat}(ok:aS a b)(hp:cq xs)(h0:0∈xs)(f:dG a b (aW xs) (bA xs)=true):ai a b xs (aj xs).length=xs ↔ cK a b (aW xs) (bA xs)=bA xs:=by
 obtain⟨hz,hn,hs,L⟩:=ny (a:=a) (b:=b) hp h0;have L1:=(pH ok L hn f).1;rw[hs]at L1;have v1:=A0 L1.pl L1.mR.pw L1.some
 constructor
 ·intro e
  rw[e,<- hz]at v1;exact(Xm v1 (by rw[mI hn])).symm
 ·intro e
  have a1:=Ff L1 (aY a b xs _);have a2:=Ff L (n:=xs.length) rfl;rw[e]at a1;rw[<- a1,a2]
theorem SA{a:Rat}(ok:aS a b)(hp:cq xs)(h0:0∈xs)(f:dG a b (aW xs) (bA xs)=true)(r:cK a b (aW xs) (bA xs)=bA xs) :
  (∀k,ai a b xs (k+(aj xs).length)=ai a b xs k) /\ ∀k,(cE a b (ai a b xs k)).length=1:=by
 obtain⟨hz,hn,hs,L⟩:=ny (a:=a) (b:=b) hp h0;have hb:=(O4 ok hp h0 f).mpr r;have W:=(pH ok L hn f).2.1;rw[hs]at W
 have per:∀k,ai a b xs (k+(aj xs).length)=ai a b xs k:=λk=>by
  rw[QC,<- cw,hb]
 refine⟨per,λk=>?_⟩
 have hv:1<=(aj xs).length:=by
  have:=congrArg xK hz;rw[wR]at this;simp at this;omega
 induction k using uS with
 | ind k ih =>
  rcases wA k (aj xs).length with z | z
  ·rw[W k z];rfl
  ·have:=ih (k-(aj xs).length) (by omega)
   rw[<- per,XO z]at this;exact this
theorem CF{a:Rat}{w:String}(h:cS a b xs=some w):(w="one"/\(aj xs).length=1)\/((aj xs).length≠1/\dG a b (aW xs) (bA xs)=true/\((w="rests"/\cK a b (aW xs) (bA xs)=bA xs)\/(w="drawn"/\cK a b (aW xs) (bA xs)≠bA xs/\a<1/\j_ a b (aW xs)=true))):=by
 unfold cS at h
 split at h
 ·rename_i z
  exact .inl ⟨(wM h).symm,z⟩
 ·rename_i z
  split at h
  ·rename_i y
   refine .inr ⟨z,y,?_⟩
   split at h
   ·rename_i u
    exact .inl ⟨(wM h).symm,u⟩
   ·rename_i u
    split at h
    ·rename_i t
     exact .inr ⟨(wM h).symm,u,t⟩
    ·cases h
  ·cases h
theorem zxh{a:Rat}(a0:0<a)(b0:0<=b)(h1:1<=xs.length)(hp:cq xs)(w:(cE a b xs).length=1):(aj (dC a b xs)).length=(aj xs).length:=by
 obtain⟨v,J⟩:=yr a0 b0 h1 hp.nn hp.lt;have e:=congrArg xK J.new;rw[ik,wR,vR,ik,vV]at e;have v1:=J.v1;have vm:=J.vm;have:¬ 1<v:=λz=>by have:=J.more.mpr z;omega
 omega
theorem Eu{a b:Rat}(a0:0<a)(b0:0<=b){xs:List Rat}(h1:1<=xs.length)(hp:cq xs)(wv:∀k,(cE a b (ai a b xs k)).length=1):∀k,(aj (ai a b xs k)).length=(aj xs).length
 | 0=>rfl
 | k+1=>(zxh a0 b0 (by rw[aY];exact h1) (hp.at a0 b0 k) (wv k)).trans (Eu a0 b0 h1 hp wv k)
theorem zuY{a:Rat}(ok:aS a b)(h1:1<=xs.length)(h8:xs.length<=8)(hp:cq xs)(h0:0∈xs)(f:dG a b (aW xs) (bA xs)=true)(ha:a<1)(d:j_ a b (aW xs)=true):(∀k,cj a b (aW xs) (bA xs) k=true) /\ ∀k,(cE a b (ai a b xs k)).length=1:=by
 obtain⟨hz,hn,hs,L⟩:=ny (a:=a) (b:=b) hp h0;have sz:=FV h1 h8
 have fr:∀k,cj a b (aW xs) (bA xs) k=true:=λk=>by
  induction k with
  | zero=>unfold cj;rw[kW];exact f
  | succ k ih =>
   unfold cj at *;rw[<- pI];exact zwN ok sz (by rw[du];exact hn) ha d ih
 refine⟨fr,λk=>?_⟩;have hv:0<(aW xs).length:=by omega
 have:=zwH ok L hn (kN xs) (k:=k / (aW xs).length) (t:=k % (aW xs).length) (λj _=>fr j) (qm _ hv);rw[V5,Nat.div_add_mod]at this;rw[this];rfl
theorem Zx{a:Rat}(a0:0<a)(hl:xs.length=ys.length)(h:cf a b ns 1 xs=cf a b ns 1 ys):xs=ys:=by
 refine kg hl λi hi=>?_
 have e:=congrArg (λl=>l.getD i 0) h;simp only[jK hi,jK (show i<ys.length by omega),oy]at e;have e:a^ns.sum.toNat*xs.getD i 0+(dk a b ns).getD i 0=a^ns.sum.toNat*ys.getD i 0+(dk a b ns).getD i 0:=e;have hF:=lQ a0 ns.sum.toNat;generalize a^ns.sum.toNat=F at *;have k2:F*(xs.getD i 0-ys.getD i 0)=0:=by grind
 rcases xC.mp k2 with k | k
 ·rw[k]at hF;exact absurd hF (by decide)
 ·grind
theorem Sa{a b:Rat}(a0:0<a){ns:List Int}{xs:List Rat} : ∀k,cf a b ns (k+1) xs=cf a b ns k xs->cf a b ns 1 xs=xs
 | 0,h=>by rw[kW]at h;exact h
 | k+1,h=>Sa a0 k (Zx (b:=b) a0 (ns:=ns) (by rw[du,du]) (by rw[pI,pI];exact h))
theorem O8{a:Rat}(ok:aS a b)(h1:1<=xs.length)(h8:xs.length<=8)(hp:cq xs)(h0:0∈xs){s s':String}(w:cS a b xs=some s)(w':cS a b (ai a b xs k)=some s'):s=s'/\(aj (ai a b xs k)).length=(aj xs).length:=by
 have a0:=ok.a0;have b0:=ok.b0;have hpk:=hp.at a0 b0 k;have vk:=nP (xs:=ai a b xs k) (by rw[aY];exact h1);rcases CF w with⟨rfl,v1⟩ | ⟨v1,f,C⟩
 ·have:=rR a0 b0 h1 hp k
  have e:(aj (ai a b xs k)).length=1:=by omega
  unfold cS at w';rw[if_pos e]at w';exact⟨wM w',by omega⟩
 ·obtain⟨hz,hn,hs,L⟩:=ny (a:=a) (b:=b) hp h0
  rcases C with⟨rfl,r⟩ | ⟨rfl,r,ha,d⟩
  ·obtain⟨per,wv⟩:=SA ok hp h0 f r
   have ev:=Eu a0 b0 h1 hp wv k
   have h0k:0∈ai a b xs k:=by
    rw[<- per k];exact hp.zero a0 b0 h1 (by omega)
   rcases CF w' with⟨_,z⟩ | ⟨_,fk,⟨rfl,_⟩ | ⟨_,z,_⟩⟩
   ·omega
   ·exact⟨rfl,ev⟩
   ·exact absurd ((O4 ok hpk h0k fk).mp (by rw[cw,ev,per])) z
  ·obtain⟨fr,wv⟩:=zuY ok h1 h8 hp h0 f ha d
   have ev:=Eu a0 b0 h1 hp wv k;rcases CF w' with⟨_,z⟩ | ⟨_,fk,⟨_,z⟩ | ⟨rfl,_⟩⟩
   ·omega
   ·have h0k:0∈ai a b xs k:=by
     rcases XT k with e | e
     ·rw[e];exact h0
     ·exact hp.zero a0 b0 h1 e
    obtain⟨per,_⟩:=SA ok hpk h0k fk z;have hv:=nP h1;obtain⟨L1,_⟩:=mG ok L hn (kN xs) k (λj _=>fr j);obtain⟨L2,_⟩:=mG ok L hn (kN xs) (k+1) (λj _=>fr j);have u1:=A0 L1.pl L1.mR.pw L1.some;have u2:=A0 L2.pl L2.mR.pw L2.some;rw[hs]at u1 u2;obtain⟨j,hj⟩:∃j,k*(aj xs).length=k+j:=⟨k*(aj xs).length-k,by have:=qM k hv;omega⟩
    have e:ai a b xs ((k+1)*(aj xs).length)=ai a b xs (k*(aj xs).length):=by
     have:=per j;rw[ev,cw,cw]at this;rw[qB,hj,WS];exact this
    rw[e,u1]at u2;have e2:=Xm u2 (by rw[du,du]);have e3:=Sa a0 k e2.symm;rw[p8 hn (kN xs)]at e3;exact absurd e3 r
   ·exact⟨rfl,ev⟩
theorem zxS{a:Rat}(ok:aS a b)(h1:1<=xs.length)(h8:xs.length<=8)(hp:cq xs){s s':String}(m1:1<=m)(n1:1<=n)(w:cS a b (ai a b xs m)=some s)(w':cS a b (ai a b xs n)=some s'):s=s'/\(aj (ai a b xs m)).length=(aj (ai a b xs n)).length:=by
 have a0:=ok.a0;have b0:=ok.b0;rcases Nat.le_total m n with z | z
 ·have:=O8 ok (xs:=ai a b xs m) (by rw[aY];exact h1) (by rw[aY];exact h8) (hp.at a0 b0 m) (hp.zero a0 b0 h1 m1) w (k:=n-m) (s':=s') (by rw[cw,qN z];exact w')
  rw[cw,qN z]at this;exact⟨this.1,this.2.symm⟩
 ·have:=O8 ok (xs:=ai a b xs n) (by rw[aY];exact h1) (by rw[aY];exact h8) (hp.at a0 b0 n) (hp.zero a0 b0 h1 n1) w' (k:=m-n) (s':=s) (by rw[cw,qN z];exact w)
  rw[cw,qN z]at this;exact⟨this.1.symm,this.2⟩
theorem nN{α : Type}[DecidableEq α]:∀{l m:List α},l.Nodup->(∀x∈l,x∈m)->l.length<=m.length
 | [],_,_,_=>Wm _
 | x::l,m,nd,h=>by
  have⟨h1,h2⟩:=WW.mp nd;have hx:=h x (wz ..);have:=nN (m:=m.erase x) h2 λy hy=>(Xk (λe=>h1 (by rw[<- e];exact hy))).mpr (h y (wy _ hy))
  rw[xq hx]at this;have:=qt hx;rw[vo];omega
theorem L_(nd:ys.Nodup)(h:∀y,y∈ys ↔ y∈xs):ys.length=(aj xs).length :=
 uL (nN nd λx hx=>rG ((h x).mp hx)) (nN (Et xs) λx hx=>(h x).mpr (ky hx))
theorem zyB{a:Rat}(ok:aS a b)(c:kf b.den m xs)(h1:1<=xs.length)(hp:cq xs)(k:Nat):kf b.den (m+3*bY a b xs k+1) (ai a b xs k):=by
 obtain⟨B,hB,hd,bB,hx⟩:=c;have hov:=(Di ok hB hd h1 (λx hx'=>let ⟨t,e,_⟩:=hx x hx';⟨t,e⟩) k).1;have hBk:=vQ hB (nC a (bY a b xs k));have bb:=R0 ok bB (bY a b xs k);have hpk:=hp.at ok.a0 ok.b0 k;exact⟨_,hBk,qj hd (Vi ..),bb.mono (by omega),λx hx'=>EM (l:=0) hBk bb (hov x hx') (hpk.nn x hx') (vT (hpk.lt x hx'))⟩
def hW(m:Nat)(e:Nat × Nat × Nat):Nat × Nat × Nat:=(m+e.1,e.2)
theorem LW.shift{a b:Rat}{xs:List Rat}(m:Nat):∀{es:List (Nat × Nat × Nat)}{i n:Nat},LW a b (ai a b xs m) i es n->LW a b xs (m+i) (es.map (hW m)) (m+n)
 | [],i,n,h=>by
  have e:i=n:=h;rw[e];rfl
 | e::es,i,n,h=>by
  obtain⟨h1,h2,h3⟩:=h;have ih:=LW.shift m h3;rw[cw]at h2;refine⟨by show m+e.1=m+i;rw[h1],h2,?_⟩;have e2:cu a b xs (m+i) e.2.1 e.2.2=m+cu a b (ai a b xs m) i e.2.1 e.2.2:=by unfold cu;rw[cw];omega
  show LW a b xs (cu a b xs (m+i) e.2.1 e.2.2) _ _
  rw[e2];exact ih
theorem LW.ones{a b:Rat}{xs:List Rat} : ∀(m i:Nat){es:List (Nat × Nat × Nat)}{n:Nat},LW a b xs (i+m) es n->LW a b xs i ((wt m).map (λk=>(i+k,0,1))++es) n
 | 0,i,es,n,h=>h
 | m+1,i,es,n,h=>by
  rw[List.range_succ_eq_map,vd,WM,xn];refine⟨rfl,⟨Wm _,show 1<=40 by decide,λz=>absurd (show 1<=0 from z) (by decide)⟩,?_⟩;have e2:cu a b xs i 0 1=i+1:=by unfold cu;omega
  show LW a b xs (cu a b xs i 0 1) _ n
  rw[e2]
  have ef:((λk=>(i+k,0,1)) ∘ Nat.succ:Nat->Nat × Nat × Nat)=λk=>(i+1+k,0,1):=by
   funext k
   show(i+(k+1),0,1)=(i+1+k,0,1)
   rw[WS,QC 1]
  rw[ef];exact LW.ones m (i+1) (by rw[WS,QC 1];exact h)
theorem zss(a b:Rat)(xs:List Rat)(m:Nat)(es:List (Nat × Nat × Nat))(n:Nat)(w:String):cg a b xs (es.map (hW m)) (m+n) w=es.map (λe=>fm (aF a b (ai a b xs m) e.1+aF a b xs m) (ai a b (ai a b xs m) e.1) e.2.1 e.2.2)++[.tuple [N (aF a b (ai a b xs m) n+aF a b xs m),TN (ai a b (ai a b xs m) n),.str (wW w)]]:=by
 unfold cg nD;rw[WM,cw,Rat.add_comm,kj]
 congr 1
 refine qg λe _=>?_
 show fm (aF a b xs (m+e.1)) (ai a b xs (m+e.1)) e.2.1 e.2.2=_
 rw[cw,Rat.add_comm,kj]
theorem zwW{a:Rat}{w:String}(lw:LW a b (ai a b xs m) 0 es n)(hj:j<es.length+1):∃i ds,i<=n/\1<=ds.length/\ds.length<=3/\(cg a b (ai a b xs m) es n w)[j]? = some (.tuple (N (aF a b (ai a b xs m) i)::ds))/\(cg a b xs (es.map (hW m)) (m+n) w)[j]? = some (.tuple (N (aF a b (ai a b xs m) i+aF a b xs m)::ds)):=by
 rw[zss];rcases wA j es.length with z | z
 ·obtain⟨e1,_,e3,le⟩:=lw.at j z
  refine⟨es[j].1,[TN _,.int _,.int _],by unfold cu at e3;omega,by simp,by simp,by rw[Ly z];rfl,?_⟩;rw[vI (by simpa using z),wu,wc z];rfl
 ·have:j=es.length:=by omega
  subst this;refine⟨n,[TN (ai a b (ai a b xs m) n),.str (wW w)],wo _,by simp,by simp,?_,?_⟩
  ·unfold cg
   rw[vi (by simp)];simp
   rfl
  ·rw[vi (by simp)]
   simp
def y_(K:wb):Sp:=λvs H Q _=>∃x0,vs=[x0] /\ ∃(a:we)(ns:List Int),x0=.ref a/\iW K H a (ns.map V.int)/\ns.length<=63 /\ ∀H',Q (.bl true) H'
theorem zCz(T:Txt K mg a):aH P w K mg base aR 16 a.law a.Kl zU (y_ K):=by
 refine T.Y_.F.ok iu ?_ ?_;walk_at "b1"
 refine⟨_,(ar (az 1 iu.nd (au (zkk T) hr T.GY (ae (au (GI T) hr T.sy (ae (pv 0) (ae ay af))) af)))
     (ar (az 2 iu.nd (au (zsC T) hr T.IU (ae (pv 1) (ae (au (zqd T) hr T.ID (ae (au (GI T) hr T.sy (ae (pv 0) (ae ay af))) (ae (pv 1) (ae ay af)))) af))))
     (ar (az 3 iu.nd (au (GI T) hr T.sy (ae (pv 0) (ae ay af))))
     (ar (az 4 iu.nd (au (fO T) hr T.fg (ae (pv 3) (ae (dJ di (eZ (ae ay (ae ay af))) (au (fO T) hr T.fg (ae (pv 3) (ae ay af))) (λ_ _=>rfl)) af))))
     (ar (oD (au (Rb T) hr T.BE (ae (pv 2) (ae (pv 4) af))) (my (n:=2) rfl (gH (bQ (i:=5) iu.nd rfl (Or.inr rfl)) (gH (bQ (i:=6) iu.nd rfl (Or.inl rfl)) mh))))
     (ar (az 7 iu.nd (au (U6 T) hr T.Bl (ae (pv 2) af)))
     (ar (az 8 iu.nd (au (U6 T) hr T.Bl (ae (pv 6) af)))
     (ar (bR (PW.pt (sS (bZ MW (pv 7) fP (bC _)) (sS (bZ MW (pv 8) fP (bC _)) (Cb (bZ (show aN _ (wT .NotEq) (gc K)from kz hu) (pv 7) (pv 8) (bC _)))))) (av (aB eF)) bS)
     (ar (az 9 iu.nd (au (zqq T) hr T.Ib (ae (pv 6) af)))
     (ar (bR (bZ zh (pv 9) fP (bC _)) (av (aB (e_ zh (pv 8) fP (bC _)))) bS)
     (ar (ml (i:=10) iu.nd rfl (Or.inl rfl) rfl (cR.by (N':=["_law_row","_law_hour"]) (src:=[none,some 5]) rfl (show dg _ (aC nW).names tK ["_law_row","_law_hour"] [none,some 5]=true from by decide +kernel)) (gA (pv 9)) (λ_ _ _ _ _=>(bQ (i:=0) (show(["_law_row","_law_hour"]:List Str).Nodup from by decide) rfl (Or.inl rfl))) (λ_ _ _ _ _=>dN) (λ_ _ _ _ _=>by exact(aD (show aN _ (WC .Add) (o_ K)from Ge) (show PE _ _ (pT K _)from br (ae (au (rp (K:=K) (mg:=mg) (a:=a) T) hr T.mM (ae (mD (K:=K) di (pv 0)) (ae (pv 1) af))) af)) (jQ (show jT _ (sj K)from j8) (pv 0) (j3 ay) j4))))
     (ar (bR (cW (cz (au (Rf T) hr T.Bu (ae (pv 2) (ae (aD cC (eZ (ae (br (by exact(@ae _ _ _ _ _ (br (ae ay (ae ay af))) (@ae _ _ _ _ _ (ao (pv 2)) (@ae _ _ _ _ _ ay (@ae _ _ _ _ _ (pv 4) af fQ) mw) ff) Sd))) af)) (pv 10)) (ae eF af)))))) (av (aB eF)) bS)
     (ar (az 11 iu.nd (aD cC (eZ (ae (br (by exact(@ae _ _ _ _ _ (br (ae ay (ae ay af))) (@ae _ _ _ _ _ (ao (pv 2)) (@ae _ _ _ _ _ ay (@ae _ _ _ _ _ ay af mw) mw) ff) Sd))) af)) (d7 rfl (cR.by (N':=["_law_row"]) (src:=[none]) rfl (show dg _ (aC nW).names tK ["_law_row"] [none]=true from by decide +kernel)) (gA (au (N3 T) hr T.By (ae (pv 2) (ae (pv 4) af)))) (λ_ _ _ _ _=>(bQ (i:=0) (show(["_law_row"]:List Str).Nodup from by decide) rfl (Or.inl rfl))) (λ_ _ _ _ _=>dN) (λ_ _ _ _ _=>by exact(show PE _ _ (pT K _)from br (by exact(@ae _ _ _ _ _ (mD (K:=K) di (pv 0)) (@ae _ _ _ _ _ (mD (K:=K) di (pv 0)) (@ae _ _ _ _ _ ay (@ae _ _ _ _ _ ay af mw) mw) ff) ff)))))))
     (ar (bR (cW (cz (au (Rf T) hr T.Bu (ae (pv 2) (ae (aD cC (jQ j8 (pv 11) j4 (j3 (pv 4))) (pv 10)) (ae eF af)))))) (av (aB eF)) bS)
     (av (aB (LK jY jY (ao (pv 8)) (bE (show aK _ (.builtin "len") (BR w)from Om) rfl T.z_len dU (ae (dY (show aK _ (.type "set") (tU K w)from Mr hu rfl) rfl T.z_set LD (ae (ao (pv 6)) af)) af)) (bE (show aK _ (.builtin "len") (BR w)from Om) rfl T.z_len dU (ae (dY (show aK _ (.type "set") (tU K w)from Mr hu rfl) rfl T.z_set LD (ae (ao (pv 2)) af)) af))))))))))))))))))),?_⟩
 walk_at "cl";rw[show start tK [x0]=[some x0,none,none,none,none,none,none,none,none,none,none,none]from rfl];obtain⟨a',ns0,rfl,hs,hl,q⟩:=h;o_head BP hs hl (by decide) (by decide) (λp1 H1 hp1 S1 P1=>?_);o_head zkN P1 (by decide) (λv2 H2 ra rb E2 K2 P2 i2 ok=>?_);have KA:bG H H2:=S1.keep.trans K2;o_head BP (KA.Ft hs) hl (by decide) (by decide) (λp3 H3 hp3 S3 P3=>?_);o_head zrb (i2.by S3) ok P3 (by decide) (by decide) (by decide) (λl4 H4 us4 xs n4 E4 K4 P4 e4 t4 a4 b4 ph4=>?_);have KB:bG H H4:=KA.trans (S3.keep.trans K4);have i4:=i2.oU (S3.keep.trans K4);have iS:=dF e4 t4;obtain⟨bg,cD⟩:=cY.of ok a4 (by omega) ph4;clear i2 S1 S3 P1 P2 P3 P4 E2 K2 E4 K4 e4 t4 n4 hp1 hp3 KA;o_head zsT i4 ok (.inl iS) a4 (by omega) ph4 (λvw H5 S5 iw=>?_);have KC:=KB.trans S5.keep;o_head BP (KC.Ft hs) hl (by decide) (by decide) (λp6 H6 hp6 S6 P6=>?_);walk_at "ga";rename_i lc Hc nc Sc ec rd Hd d0 d1 Ed Kd Pd z hz rm He r0 r1 Ee Ke Pe;have r40:rm<=40:=by omega
 obtain⟨m,rfl⟩:∃m:Nat,rm=(m:Int):=⟨rm.toNat,by omega⟩;have m40:m<=40:=by omega
 have iw1:Is K He vw (aZ ra rb xs):=(iw.by S6).ji (Sc.keep.trans (Kd.trans Ke)) (NT _ _ _);clear iw i4 iS S5 S6 KB KC hp6 P6 Pd Pe Ed Ee Kd Ke Sc ec nc hs hz r0 r1 d0 d1;have h1:=bg.h1;have gl:∀k,bY ra rb xs k<=k*xs.length:=pW ok.a0 ok.b0 h1 bg.hp
 have gm:bY ra rb xs m<=160:=by
   have:=gl m;have:m*xs.length<=40*4:=V2 m40 (by omega);omega
 have cA:∀{i k:Nat},bY ra rb xs (i+k)<=1100->k<=2048->Cm 3500 (aF ra rb (ai ra rb xs i) k::ai ra rb (ai ra rb xs i) k):=λ{i k} hg hk=>(Rq ok cD h1 bg.hp (i:=i) (k:=k) (l:=11) (by rw[show(2:Nat)^11=2048 by decide];exact hk)).mono (by omega)
 have bL:cY ra rb (ai ra rb xs m):=⟨ok,by rw[aY];exact h1,by rw[aY];omega,bg.hp.at ok.a0 ok.b0 m,_,zyB ok cD h1 bg.hp m,by rw[aY];omega⟩;have cH:∀i,i<=m->Cm 3700 (aF ra rb xs i::ai ra rb xs i):=λi hi=>(cA (i:=0) (k:=i) (by have:=L9 (a:=ra) (b:=rb) (xs:=xs) hi;rw[QG];omega) (by omega)).mono (by decide)
 refine FP iw1 ok.ba ok.bb h1 (by omega) (by omega) (by omega) (by rw[wP];exact cH) (λv7 H7 S7 i7=>?_);rw[wP]at i7;refine zxy i7 rfl (λys t=>?_);obtain⟨vh,r1,rfl,ih,t⟩:=eG.mp t;obtain⟨vl,r2,rfl,il,t⟩:=eG.mp t;rw[g_.mp t];have iw7:=iw1.by S7;clear iw1 i7 S7 t;o_head OQ iw7 bg (λv8 H8 S8 C8=>?_);o_head OQ (il.by S8) bL (λv9 H9 S9 C9=>?_);walk_at "gt";walk_at "tl";walk_at "sq"
 have main:tl_ {nx:=λ_ H'=>Q V.a_ H',rt:=Q} [some (V.ref a'),some v2,some vw,some (V.ref p6),some (V.int (m:Int)),some vh,some vl,some v8,some v9,none,none,none] H9:=by
   have il9:=il.by (S8.trans S9);have iw9:=iw7.by (S8.trans S9);have ih9:=ih.by (S8.trans S9);clear C8 S8 S9 iw7 il ih;walk_at "tl";o_head zq8 il9 bL (λF H10 S10=>?_) (λl H10 es n wd P nl S10 i10=>?_)
   . rcases C9 with⟨rfl,_⟩ | ⟨es,n,w,P,_⟩
     . k_few
       exact q _
     . exact absurd F (Ot P)
   . rcases C9 with⟨_,F⟩ | ⟨es',n',w',P',i9⟩
     . exact absurd F (Ot P)
     obtain⟨rfl,rfl,rfl⟩:=zuK P P';have iw10:=iw9.by S10;have ih10:=ih9.by S10;have il10:=il9.by S10;have i9:=i9.by S10;clear il9 iw9 ih9 S10;have lwL:=fK.lw bL P.walk;have sp:=P.sp;have hnf:=bL.nf n;unfold ku at sp;rw[aY]at sp
     have cN:∀i k,i+k<=m+n->Cm 3500 (aF ra rb (ai ra rb xs i) k::ai ra rb (ai ra rb xs i) k):=λi k hik=>cA (by
       have:=L9 (a:=ra) (b:=rb) (xs:=xs) hik;rw[lT ra rb xs m n]at this;omega) (by omega)
     have c0:∀i,i<=n->ag 3500 (aF ra rb (ai ra rb xs m) i):=λi hi=>(cN m i (by omega)).d_ (wz ..)
     have bM:ag 3700 (aF ra rb xs m):=(cH m (wo m)).d_ (wz ..);have h0N:0∈ai ra rb xs (m+n):=bg.hp.zero ok.a0 ok.b0 h1 (by have:=P.n1;omega);have hwN:cS ra rb (ai ra rb xs (m+n))=some wd:=by rw[<- cw];exact P.word
     have bN:=P.bN;obtain⟨l',us,el,hs10,t10⟩:=cF.mp i10;cases el;have hul:=t10.length;rw[F0]at hul;k_few
     . rename_i z;cases z
     . refine jC hs10 (o0:=none) (tl:=[some vh]) rfl (λj y H'=>Is K H' y ((cg ra rb xs (es.map (hW m)) (m+n) wd).getD j .none)) ?_ ?_
       . intro D j x ys o H11 hx inv
         obtain⟨hj,ix⟩:=jq t10 hx;rw[F0]at hj;obtain⟨i,ds,hi,d1,d3,e1,e2⟩:=zwW (w:=wd) lwL hj;rw[wa,e1]at ix;have S11:=inv.same;have ix11:Is K H11 x (.tuple (N (aF ra rb (ai ra rb xs m) i)::ds)):=ix.by S11;have ih11:=ih10.by S11;have bi:=c0 i hi;o_head aA (j:=0) ix11 rfl (λv12 i12=>?_);k_few;rename_i v13 H13 S13 i13;refine cB (ds:=[N (aF ra rb (ai ra rb xs m) i+aF ra rb xs m)]) (by simp) (.cons i13 .nil) (λv14 H14 S14 i14=>?_);o_head Ng (ix11.by (S13.trans S14)) (by simp[HT.aX]) (λv15 H15 S15 i15=>?_);rw[Gf]at i15;refine Gv (i14.by S15) i15 (by simp;omega) (λv16 H16 S16 i16=>?_);refine d8 inv (by omega) (λ_ _ _ _ k h=>h.ji k (zAQ ..)) ⟨_,rfl⟩ (S13.trans (S14.trans (S15.trans S16))) ?_;rw[wa,e2];exact i16
       . intro D ys H11 n11 S11 e11 l11 r11
         have t11:ak K H11 ys (cg ra rb xs (es.map (hW m)) (m+n) wd):=B5 (by rw[l11,F0,wm];exact hul) r11;have iw11:=iw10.by S11;have il11:=il10.by S11;have i911:=i9.by S11;clear iw10 il10 i9 ih10 i10 t10 hs10 S11 r11;have lwN:LW ra rb xs m (es.map (hW m)) (m+n):=lwL.shift m;o_head cB (ds:=[.int 0,.int 1]) (by simp) (.cons (bV.mpr rfl) (.cons (bV.mpr rfl) .nil)) (λv12 H12 S12 i12=>?_);o_head aA (j:=1) (iw11.by S12) rfl (λv13 i13=>?_);o_head cB (ds:=[N 0,TN xs,.int 0,.int (m:Int)]) (by simp) (.cons i12 (.cons i13 (.cons (bV.mpr rfl) (.cons (bV.mpr rfl) .nil)))) (λv14 H14 S14 i14=>?_);o_head ft (by simp) (λl15 H15 n15 S15 e15=>?_);have S115:=S12.trans (S14.trans S15);o_head jS e15 (S115 _ _ e11) (by rw[Vw,l11];simp;omega) (λl16 H16 n16 S16 e16=>?_);have T16:=S115.trans S16;have i16:Is K H16 (.ref l16) (.list (cg ra rb xs ((0,0,m)::es.map (hW m)) (m+n) wd)):=cF.mpr ⟨l16,_,rfl,.of e16,.cons (i14.by (S15.trans S16)) (ak.same T16 _ _ t11)⟩;o_head Ro (iw11.by T16) i16 ok h1 (by omega) bg.hp ⟨rfl,⟨Wm _,m40,λz=>absurd (show 1<=0 from z) (by decide)⟩,?_⟩ (by rw[vo,wm];omega) h0N hwN cN (λH17 S17=>?_)
         . have e2:cu ra rb xs 0 0 m=m:=by unfold cu;omega
           show LW ra rb xs (cu ra rb xs 0 0 m) _ _
           rw[e2];exact lwN
         have T17:=T16.trans S17;have iw17:=iw11.by T17;have il17:=il11.by T17;have i917:=i911.by T17;have e17:=T17 _ _ e11;have t17:ak K H17 ys (cg ra rb xs (es.map (hW m)) (m+n) wd):=ak.same T17 _ _ t11;clear iw11 il11 i911 e11 t11 i12 i13 i14 i16 S12 S14 S15 S16 S17 S115 T16 T17 e15 e16;o_head cB (ds:=[.int 0,.int 1]) (by simp) (.cons (bV.mpr rfl) (.cons (bV.mpr rfl) .nil)) (λv18 H18 S18 i18=>?_);o_head aA (j:=1) (iw17.by S18) rfl (λv19 i19=>?_);o_head cB (ds:=[N 0,TN xs,.int 0,.int 1]) (by simp) (.cons i18 (.cons i19 (.cons (bV.mpr rfl) (.cons (bV.mpr rfl) .nil)))) (λv20 H20 S20 i20=>?_);o_head ft (by simp) (λl21 H21 n21 S21 e21=>?_);have T21:=S18.trans (S20.trans S21);have i2021:=i20.by S21;clear i18 i19 i20 S18 S20 S21;o_head Mt (iw17.by T21) ok.ba ok.bb h1 (by omega) (by omega) (by omega) (by rw[wP];exact cH) (λlr H22 n22 S22 i22=>?_);rw[wP]at i22;obtain⟨lr',us22,el,hs22,t22⟩:=cF.mp i22;cases el;have hul22:=t22.length;rw[DD]at hul22;o_head jC hs22 (o0:=none) (tl:=[]) rfl (λj y H'=>Is K H' y (fm (aF ra rb xs (j+1)) (ai ra rb xs (j+1)) 0 1)) ?_ ?_
         . intro D' j x ys' o H23 hx inv
           obtain⟨hj,ix⟩:=jq t22 hx;rw[DD]at hj;rw[wa,zwP hj]at ix;have ix23:Is K H23 x (zY ra rb xs j):=ix.by inv.same;o_head aA (j:=0) ix23 rfl (λv24 i24=>?_);o_head aA (j:=2) ix23 rfl (λv25 i25=>?_);o_head cB (ds:=[N (aF ra rb xs (j+1)),TN (ai ra rb xs (j+1)),.int 0,.int 1]) (by simp) (.cons i24 (.cons i25 (.cons (bV.mpr rfl) (.cons (bV.mpr rfl) .nil)))) (λv26 H26 S26 i26=>?_);exact d8 inv (by omega) (λ_ _ _ _ k h=>h.ji k (pD ..)) ⟨_,rfl⟩ S26 i26
         . intro D' ys' H23 n23 S23 e23 l23 r23
           have T23:=S22.trans S23;o_head jS (T23 _ _ e21) e23 (by rw[Vw,l23];simp;omega) (λl24 H24 n24 S24 e24=>?_)
           have t24:ak K H24 ([v20]++ys') ((wt (m+1)).map λk=>fm (aF ra rb xs k) (ai ra rb xs k) 0 1):=by
             refine B5 (by simp;omega) λi x hx=>?_
             rw[wa];cases i with
             | zero =>
               have hx:v20=x:=by simpa using hx
               rw[<- hx,wu,vM (by omega)];exact i2021.by (T23.trans S24)
             | succ i =>
               have hx:ys'[i]? = some x:=by simpa using hx
               have:=(Wt.mp hx).1;rw[wu,vM (by omega)];exact(r23 i x hx).by S24
           have i24:Is K H24 (.ref l24) (.list ((wt (m+1)).map λk=>fm (aF ra rb xs k) (ai ra rb xs k) 0 1)):=cF.mpr ⟨l24,_,rfl,.of e24,t24⟩;have T24:=T21.trans (T23.trans S24);have iw24:=iw17.by T24;have il24:=il17.by T24;have i924:=i917.by T24;have e1724:=T24 _ _ e17;have t1724:ak K H24 ys (cg ra rb xs (es.map (hW m)) (m+n) wd):=ak.same T24 _ _ t17;clear iw17 il17 i917 e17 t17 t22 hs22 i22 r23 e23 e24 t24 T24 T23 T21 S22 S23 S24 e21 i2021;o_head lF i24 (λl25 H25 us25 n25 S25 e25 t25=>?_);rw[zDh]at t25;o_head jS e25 (S25 _ _ e1724) (by rw[Vw,l11,t25.length];simp;omega) (λl26 H26 n26 S26 e26=>?_);have T26:=S25.trans S26
           have i26:Is K H26 (.ref l26) (.list (cg ra rb xs ((wt m).map (λk=>(0+k,0,1))++es.map (hW m)) (m+n) wd)):=by
             refine cF.mpr ⟨l26,_,rfl,.of e26,?_⟩
             have e:cg ra rb xs ((wt m).map (λk=>(0+k,0,1))++es.map (hW m)) (m+n) wd=((wt (m+1)).map λk=>fm (aF ra rb xs k) (ai ra rb xs k) 0 1).take m++cg ra rb xs (es.map (hW m)) (m+n) wd:=by
               unfold cg;rw[vA,Vh,<- Xp,List.take_range,xE (by omega),WM]
               congr 1
               refine qg λk _=>?_
               show fm (aF ra rb xs (0+k)) (ai ra rb xs (0+k)) 0 1=_
               rw[QG]
             rw[e];exact(ak.same S26 _ _ t25).append (ak.same T26 _ _ t1724)
           o_head Ro (iw24.by T26) i26 ok h1 (by omega) bg.hp (LW.ones m 0 (by rw[QG];exact lwN)) (by rw[wR,wm,wm,vx];omega) h0N hwN cN (λH27 S27=>?_);have T27:=T26.trans S27;have hpm:=bg.hp.at ok.a0 ok.b0 m;have v1:=rR ok.a0 ok.b0 (xs:=ai ra rb xs m) (by rw[aY];exact h1) hpm n;have v2:=rR ok.a0 ok.b0 h1 bg.hp m;o_head aA (j:=1) (show Is K H27 v9 (oz wd (aj (ai ra rb (ai ra rb xs m) n)).length)from i924.by T27) rfl (λv28 i28=>?_);rw[bV.mp i28];o_head aA (j:=1) (il24.by T27) rfl (λv29 i29=>?_);o_head UM i29 (by rw[aY];omega) (λls H30 ws zs n30 S30 e30 t30 nd mem=>?_);have hyl:=L_ nd mem;have hwl:=t30.length;rw[wm]at hwl;o_head ⟨ls,ws,rfl,e30,?_⟩;rw[show ws.length=(aj (ai ra rb xs m)).length by omega];k_few
           . refine aA (j:=1) (iw24.by (T27.trans S30)) rfl (λv31 i31=>?_)
             o_head UM i31 (by omega) (λls2 H32 ws2 zs2 n32 S32 e32 t32 nd2 mE=>?_);have hyl2:=L_ nd2 mE;have hwl2:=t32.length;rw[wm]at hwl2;o_head ⟨ls2,ws2,rfl,e32,?_⟩;rw[show ws2.length=(aj xs).length by omega];k_few;rw[decide_eq_true (by omega)];exact q _
           . rename_i z
             exact absurd (by omega) z
 walk_at "gt"
 . rcases C8 with⟨z,_⟩ | ⟨es,n,w,P,i8⟩
   . contradiction
   rcases C9 with⟨z,_⟩ | ⟨es',n',w',P',i9⟩
   . contradiction
   obtain⟨e1,e2⟩:=zxS ok h1 (by omega) bg.hp P.n1 (show 1<=m+n' by have:=P'.n1;omega) P.word (by rw[<- cw];exact P'.word);rw[cw,<- e1,<- e2]at i9;refine zBH (n:=4) (i8.by S9) i9 ?_ (by decide) ?_ ?_
   . exact nZ (mE ((yy (sk _)).mono (by decide)) ((nS _).mono (by decide)))
   . exact F9 (mE (Sz _) (FC _))
   walk_at "gt";exact main
 . exact main
 . exact main
end
variable{us:List wg}
theorem Rh(h:us.length=1):∃a,us=[a]:=by
 cases us with
 | nil=>cases h
 | cons a t=>exact⟨a,by rw[Ql.mp (xt h)]⟩
theorem X_(h:us.length=2):∃a0 a1,us=[a0,a1]:=by
 cases us with
 | nil=>cases h
 | cons a0 t =>
  obtain⟨a1,e⟩:=Rh (xt h);exact⟨a0,a1,by rw[e]⟩
theorem M7(h:us.length=3):∃a0 a1 a2,us=[a0,a1,a2]:=by
 cases us with
 | nil=>cases h
 | cons a0 t =>
  obtain⟨a1,a2,e⟩:=X_ (xt h);exact⟨a0,a1,a2,by rw[e]⟩
theorem zEQ(h:us.length=4):∃a0 a1 a2 a3,us=[a0,a1,a2,a3]:=by
 cases us with
 | nil=>cases h
 | cons a0 t =>
  obtain⟨a1,a2,a3,e⟩:=M7 (xt h);exact⟨a0,a1,a2,a3,by rw[e]⟩
inductive aO(K:wb)(n:Str)(st:w9)(f:we):Prop
 | mk {od an:Option we} {sl:Array (Option wg)} {oc kV dc pm cd ct:wg} (a:vj K wS n=some (some (.ref f))) (l:K.lookup f=some ⟨oc,od,.func (V3 n n (ou st) (kZ st) (aC st) .none kV dc pm an cd ct),sl⟩) (c:QM K cd n=true) (k:Qh K (.ref f)=true):aO K n st f
theorem aO.dn{K:wb}{h:wG}{mg:Str->Option wg}{n:Str}{st:w9}{f:we}{ps:List Str}(A:aO K n st f)(X:K.In h)(G:h.Ns wS mg)
  (b:∀(kV doc pm:wg)(an:Option we)(cdv ct:wg)(us:List wg),us.length=ps.length->bindArgs (V3 n n (ou st) (kZ st) (aC st) .none kV doc pm an cdv ct) ⟨us,[]⟩=pure (ps.zip us)):∃fd,Dn K mg n st ps f fd:=by
 obtain⟨a,l,c,k⟩:=A;have F:=Lv (st:=st) l c k;exact⟨_,F,Wj X G a,F.binds b⟩
set_option hygiene false in
local macro_rules | `(tactic| walk_at "bd")=>`(tactic| (intro _ _ _ _ _ _ us hl; first | (obtain ⟨_,rfl⟩:=Rh hl; rfl) | (obtain ⟨_,_,rfl⟩:=X_ hl; rfl) | (obtain ⟨_,_,_,rfl⟩:=M7 hl; rfl) | (obtain ⟨_,_,_,_,rfl⟩:=zEQ hl; rfl)))
set_option maxHeartbeats 8000000 in
theorem all_mk{l:xA}{w:wJ}{K:wb}{h:wG}{mg:Str->Option wg}{fa:we}(X:K.In h)(G:h.Ns wS mg)(hfa:mg "law"=some (.ref fa))
  {f0 f1 f2 f3 f4 f5 f6 f7 f8 f9 f10 f11 f12 f13 f14 f15 f16 f17 f18 f19 f20 f21 f22 f23 f24 f25 f26 f27 f28 f29 f30 f31 f32 f33 f34 f35 f36 f37 f38 f39 f40 f41 f42 f43 f44 f45 f46 f47 f48 f49 f50 f51 f52 f53 f54 f55 f56 f57 f58 f59 f60 f61 f62 f63 f64 f65 f66 f67 f68 f69 f70 f71 f72 f73 f74 f75 f76:we}
  {e0:we}
  {e1:we}
  {g0:we} {gn0:Nat} {gd0:Option we} {gs0:Array (Option wg)} {tk0_0 tk0_1:Tok}
  {g1:we} {gn1:Nat} {gd1:Option we} {gs1:Array (Option wg)} {tk1_0 tk1_1:Tok}
  {g2:we} {gn2:Nat} {gd2:Option we} {gs2:Array (Option wg)} {tk2_0 tk2_1:Tok}
  {tk3:Tok}
  {tk4:Tok}
  {tk5:Tok}
  {tk6:Tok}
  {tk7:Tok}
  {tk8:Tok}
  {g9:we} {gn9:Nat} {gd9:Option we} {gs9:Array (Option wg)} {tk9_0 tk9_1 tk9_2:Tok}
  (a0:aO K "is_whole" B7 f0)
  (a1:aO K "is_whole_from" EJ f1)
  (a2:aO K "greatest_divisor" Fx f2)
  (a3:aO K "is_number" GL f3)
  (a4:aO K "plus" FO f4)
  (a5:aO K "minus" GA f5)
  (a6:aO K "times" Fb f6)
  (a7:aO K "over" F6 f7)
  (a8:aO K "less" DY f8)
  (a9:aO K "is_factor" EX f9)
  (a10:aO K "is_shift" Fz f10)
  (a11:aO K "make_rule" FR f11)
  (a12:aO K "is_rule" FU f12)
  (a13:aO K "bend" Fg f13)
  (a14:aO K "pushes" Fn f14)
  (a15:aO K "pushed_by" F5 f15)
  (a16:aO K "is_phase" Fi f16)
  (a17:aO K "are_phases" tP f17)
  (a18:aO K "swarm_of" DH f18)
  (a19:aO K "greatest" D_ f19)
  (a20:aO K "worms_at" sT f20)
  (a21:aO K "flocks" Ah f21)
  (a22:aO K "at_the_end" s_ f22)
  (a23:aO K "glow" mY f23)
  (a24:aO K "history" Ek f24)
  (a25:aO K "behind" EI f25)
  (a26:aO K "is_laid" CO f26)
  (a27:aO K "laid" pJ f27)
  (a28:aO K "phases_behind" yU f28)
  (a29:aO K "stands" BW f29)
  (a30:aO K "round_behind" Ei f30)
  (a31:aO K "round_time" GB f31)
  (a32:aO K "tops" tN f32)
  (a33:aO K "is_free" sa f33)
  (a34:aO K "round_map" AF f34)
  (a35:aO K "still" tM f35)
  (a36:aO K "weighed" AG f36)
  (a37:aO K "led_on" C1 f37)
  (a38:aO K "rounds_behind" Ex f38)
  (a39:aO K "sums_of_places" Ca f39)
  (a40:aO K "rounds_time" AI f40)
  (a41:aO K "draws_freely" zg f41)
  (a42:aO K "stays_free" tW f42)
  (a43:aO K "free_rounds" B9 f43)
  (a44:aO K "has_stand" zP f44)
  (a45:aO K "is_row" EK f45)
  (a46:aO K "is_last_row" GC f46)
  (a47:aO K "is_paper" sV f47)
  (a48:aO K "go_free" CI f48)
  (a49:aO K "behind_rounds" tQ f49)
  (a50:aO K "behind_row" EW f50)
  (a51:aO K "leads_on" C3 f51)
  (a52:aO K "word_of" DZ f52)
  (a53:aO K "lets_by" Cg f53)
  (a54:aO K "glows_to_join" Er f54)
  (a55:aO K "next_row" Gg f55)
  (a56:aO K "paper_of" FJ f56)
  (a57:aO K "fate" Cf f57)
  (a58:aO K "_law_cell" Gy f58)
  (a59:aO K "_law_pen" Fj f59)
  (a60:aO K "_law_draw" Gw f60)
  (a61:aO K "_law_low" Cc f61)
  (a62:aO K "_law_sum" DP f62)
  (a63:aO K "_law_drawn_rule" Cz f63)
  (a64:aO K "_law_drawn_phases" AJ f64)
  (a65:aO K "_law_paper" C_ f65)
  (a66:aO K "_law_fate_told" DG f66)
  (a67:aO K "_law_says" Fw f67)
  (a68:aO K "_law_rest" DE f68)
  (a69:aO K "_law_product" EH f69)
  (a70:aO K "_law_part" B1 f70)
  (a71:aO K "_law_pushes" Ez f71)
  (a72:aO K "_law_round" pB f72)
  (a73:aO K "_law_power" En f73)
  (a74:aO K "_law_rests" yD f74)
  (a75:aO K "_law_start" FE f75)
  (a76:aO K "law" nW f76)
  (n_NoStand:vj K wS "NoStand"=some (some (.ref e0)))
  (n_TooLong:vj K wS "TooLong"=some (some (.ref e1)))
  (z_abs:vj K wS "abs"=some none)
  (z_all:vj K wS "all"=some none)
  (z_any:vj K wS "any"=some none)
  (z_bool:vj K wS "bool"=some none)
  (z_dict:vj K wS "dict"=some none)
  (z_enumerate:vj K wS "enumerate"=some none)
  (z_int:vj K wS "int"=some none)
  (z_isinstance:vj K wS "isinstance"=some none)
  (z_len:vj K wS "len"=some none)
  (z_list:vj K wS "list"=some none)
  (z_min:vj K wS "min"=some none)
  (z_range:vj K wS "range"=some none)
  (z_set:vj K wS "set"=some none)
  (z_str:vj K wS "str"=some none)
  (z_sum:vj K wS "sum"=some none)
  (z_tuple:vj K wS "tuple"=some none)
  (z_zip:vj K wS "zip"=some none)
  (h_x_NoStand:qk K e0 rX "ValueError.__new__"=true)
  (h_m_NoStand_TooLong:qF K (.ref e0) (.ref e1)=some false)
  (h_x_TooLong:qk K e1 rX "ValueError.__new__"=true)
  (h_m_TooLong_TooLong:qF K (.ref e1) (.ref e1)=some true)
  (q0:vj K wS "NOUGHT"=some (some (.ref g0)))
  (r0:K.lookup g0=some ⟨.type "tuple",gd0,.seq #[.int 0 tk0_0,.int 1 tk0_1] gn0,gs0⟩)
  (q1:vj K wS "ONE"=some (some (.ref g1)))
  (r1:K.lookup g1=some ⟨.type "tuple",gd1,.seq #[.int 1 tk1_0,.int 1 tk1_1] gn1,gs1⟩)
  (q2:vj K wS "GREATEST_FACTOR"=some (some (.ref g2)))
  (r2:K.lookup g2=some ⟨.type "tuple",gd2,.seq #[.int 4 tk2_0,.int 1 tk2_1] gn2,gs2⟩)
  (q3:vj K wS "FACTOR_BOTTOM"=some (some (.int 8 tk3)))
  (q4:vj K wS "SHIFT_BOTTOM"=some (some (.int 12 tk4)))
  (q5:vj K wS "MOST_WORMS"=some (some (.int 8 tk5)))
  (q6:vj K wS "PHASE_BOTTOM"=some (some (.int 60 tk6)))
  (q7:vj K wS "MOST_FREE"=some (some (.int 30 tk7)))
  (q8:vj K wS "MOST_GLOWS"=some (some (.int 40 tk8)))
  (q9:vj K wS "WORDS"=some (some (.ref g9)))
  (r9:K.lookup g9=some ⟨.type "tuple",gd9,.seq #[.str "one" tk9_0,.str "rests" tk9_1,.str "drawn" tk9_2] gn9,gs9⟩)
  : ∃fd:wE,(∀(s:wl)(v:wg),BindsTo s fd ⟨[v],[]⟩ [("_law_script",v)]) /\ ∀base:wG,K.In base->base.Ns wS mg->aH l.prog w K mg base aR 16 fa fd ["_law_script"] (y_ K):=by
 obtain⟨aL,lL,cL,kL⟩:=a76;cases hfa.symm.trans (Wj X G aL);have FL:=Lv (st:=nW) lL cL kL;have D76:Dn K mg _ _ zU _ _:=⟨FL,Wj X G aL,FL.binds (by walk_at "bd")⟩;have⟨_,D0⟩:=a0.dn (ps:=yp) X G (by walk_at "bd");have⟨_,D1⟩:=a1.dn (ps:=Ao) X G (by walk_at "bd");have⟨_,D2⟩:=a2.dn (ps:=t_) X G (by walk_at "bd");have⟨_,D3⟩:=a3.dn (ps:=tI) X G (by walk_at "bd");have⟨_,D4⟩:=a4.dn (ps:=zd) X G (by walk_at "bd");have⟨_,D5⟩:=a5.dn (ps:=AZ) X G (by walk_at "bd");have⟨_,D6⟩:=a6.dn (ps:=tJ) X G (by walk_at "bd");have⟨_,D7⟩:=a7.dn (ps:=tX) X G (by walk_at "bd");have⟨_,D8⟩:=a8.dn (ps:=yI) X G (by walk_at "bd");have⟨_,D9⟩:=a9.dn (ps:=yN) X G (by walk_at "bd");have⟨_,D10⟩:=a10.dn (ps:=yt) X G (by walk_at "bd");have⟨_,D11⟩:=a11.dn (ps:=Ap) X G (by walk_at "bd");have⟨_,D12⟩:=a12.dn (ps:=w_) X G (by walk_at "bd");have⟨_,D13⟩:=a13.dn (ps:=zA) X G (by walk_at "bd");have⟨_,D14⟩:=a14.dn (ps:=zc) X G (by walk_at "bd");have⟨_,D15⟩:=a15.dn (ps:=A_) X G (by walk_at "bd");have⟨_,D16⟩:=a16.dn (ps:=zR) X G (by walk_at "bd");have⟨_,D17⟩:=a17.dn (ps:=yG) X G (by walk_at "bd");have⟨_,D18⟩:=a18.dn (ps:=yC) X G (by walk_at "bd");have⟨_,D19⟩:=a19.dn (ps:=ye) X G (by walk_at "bd");have⟨_,D20⟩:=a20.dn (ps:=zp) X G (by walk_at "bd");have⟨_,D21⟩:=a21.dn (ps:=A2) X G (by walk_at "bd");have⟨_,D22⟩:=a22.dn (ps:=A8) X G (by walk_at "bd");have⟨_,D23⟩:=a23.dn (ps:=yK) X G (by walk_at "bd");have⟨_,D24⟩:=a24.dn (ps:=AH) X G (by walk_at "bd");have⟨_,D25⟩:=a25.dn (ps:=zZ) X G (by walk_at "bd")
 have⟨_,D26⟩:=a26.dn (ps:=tV) X G (by walk_at "bd");have⟨_,D27⟩:=a27.dn (ps:=zF) X G (by walk_at "bd");have⟨_,D28⟩:=a28.dn (ps:=tY) X G (by walk_at "bd");have⟨_,D29⟩:=a29.dn (ps:=Av) X G (by walk_at "bd");have⟨_,D30⟩:=a30.dn (ps:=tE) X G (by walk_at "bd");have⟨_,D31⟩:=a31.dn (ps:=zr) X G (by walk_at "bd");have⟨_,D32⟩:=a32.dn (ps:=z9) X G (by walk_at "bd");have⟨_,D33⟩:=a33.dn (ps:=tZ) X G (by walk_at "bd");have⟨_,D34⟩:=a34.dn (ps:=Ak) X G (by walk_at "bd");have⟨_,D35⟩:=a35.dn (ps:=yn) X G (by walk_at "bd");have⟨_,D36⟩:=a36.dn (ps:=ym) X G (by walk_at "bd");have⟨_,D37⟩:=a37.dn (ps:=zN) X G (by walk_at "bd");have⟨_,D38⟩:=a38.dn (ps:=z_) X G (by walk_at "bd");have⟨_,D39⟩:=a39.dn (ps:=yb) X G (by walk_at "bd");have⟨_,D40⟩:=a40.dn (ps:=Bg) X G (by walk_at "bd");have⟨_,D41⟩:=a41.dn (ps:=yF) X G (by walk_at "bd");have⟨_,D42⟩:=a42.dn (ps:=A3) X G (by walk_at "bd");have⟨_,D43⟩:=a43.dn (ps:=An) X G (by walk_at "bd");have⟨_,D44⟩:=a44.dn (ps:=yW) X G (by walk_at "bd");have⟨_,D45⟩:=a45.dn (ps:=Ac) X G (by walk_at "bd");have⟨_,D46⟩:=a46.dn (ps:=v_) X G (by walk_at "bd");have⟨_,D47⟩:=a47.dn (ps:=zL) X G (by walk_at "bd");have⟨_,D48⟩:=a48.dn (ps:=zV) X G (by walk_at "bd");have⟨_,D49⟩:=a49.dn (ps:=A9) X G (by walk_at "bd");have⟨_,D50⟩:=a50.dn (ps:=sX) X G (by walk_at "bd");have⟨_,D51⟩:=a51.dn (ps:=Ag) X G (by walk_at "bd");have⟨_,D52⟩:=a52.dn (ps:=AR) X G (by walk_at "bd");have⟨_,D53⟩:=a53.dn (ps:=yT) X G (by walk_at "bd");have⟨_,D54⟩:=a54.dn (ps:=zM) X G (by walk_at "bd")
 have⟨_,D55⟩:=a55.dn (ps:=AM) X G (by walk_at "bd");have⟨_,D56⟩:=a56.dn (ps:=zJ) X G (by walk_at "bd");have⟨_,D57⟩:=a57.dn (ps:=yc) X G (by walk_at "bd");have⟨_,D58⟩:=a58.dn (ps:=zD) X G (by walk_at "bd");have⟨_,D59⟩:=a59.dn (ps:=yj) X G (by walk_at "bd");have⟨_,D60⟩:=a60.dn (ps:=yP) X G (by walk_at "bd");have⟨_,D61⟩:=a61.dn (ps:=yu) X G (by walk_at "bd");have⟨_,D62⟩:=a62.dn (ps:=zy) X G (by walk_at "bd");have⟨_,D63⟩:=a63.dn (ps:=AA) X G (by walk_at "bd");have⟨_,D64⟩:=a64.dn (ps:=zT) X G (by walk_at "bd");have⟨_,D65⟩:=a65.dn (ps:=AE) X G (by walk_at "bd");have⟨_,D66⟩:=a66.dn (ps:=Ba) X G (by walk_at "bd");have⟨_,D67⟩:=a67.dn (ps:=x_) X G (by walk_at "bd");have⟨_,D68⟩:=a68.dn (ps:=zI) X G (by walk_at "bd");have⟨_,D69⟩:=a69.dn (ps:=zG) X G (by walk_at "bd");have⟨_,D70⟩:=a70.dn (ps:=yf) X G (by walk_at "bd");have⟨_,D71⟩:=a71.dn (ps:=AB) X G (by walk_at "bd");have⟨_,D72⟩:=a72.dn (ps:=tF) X G (by walk_at "bd");have⟨_,D73⟩:=a73.dn (ps:=Bc) X G (by walk_at "bd");have⟨_,D74⟩:=a74.dn (ps:=AO) X G (by walk_at "bd");have⟨_,D75⟩:=a75.dn (ps:=sW) X G (by walk_at "bd")
 have T:Txt K mg ⟨f0,_,f1,_,f2,_,f3,_,f4,_,f5,_,f6,_,f7,_,f8,_,f9,_,f10,_,f11,_,f12,_,f13,_,f14,_,f15,_,f16,_,f17,_,f18,_,f19,_,f20,_,f21,_,f22,_,f23,_,f24,_,f25,_,f26,_,f27,_,f28,_,f29,_,f30,_,f31,_,f32,_,f33,_,f34,_,f35,_,f36,_,f37,_,f38,_,f39,_,f40,_,f41,_,f42,_,f43,_,f44,_,f45,_,f46,_,f47,_,f48,_,f49,_,f50,_,f51,_,f52,_,f53,_,f54,_,f55,_,f56,_,f57,_,f58,_,f59,_,f60,_,f61,_,f62,_,f63,_,f64,_,f65,_,f66,_,f67,_,f68,_,f69,_,f70,_,f71,_,f72,_,f73,_,f74,_,f75,_,_,_,e0,e1,g0,g1,g2,g9⟩:=⟨D0,
  D1,
  D2,
  D3,
  D4,
  D5,
  D6,
  D7,
  D8,
  D9,
  D10,
  D11,
  D12,
  D13,
  D14,
  D15,
  D16,
  D17,
  D18,
  D19,
  D20,
  D21,
  D22,
  D23,
  D24,
  D25,
  D26,
  D27,
  D28,
  D29,
  D30,
  D31,
  D32,
  D33,
  D34,
  D35,
  D36,
  D37,
  D38,
  D39,
  D40,
  D41,
  D42,
  D43,
  D44,
  D45,
  D46,
  D47,
  D48,
  D49,
  D50,
  D51,
  D52,
  D53,
  D54,
  D55,
  D56,
  D57,
  D58,
  D59,
  D60,
  D61,
  D62,
  D63,
  D64,
  D65,
  D66,
  D67,
  D68,
  D69,
  D70,
  D71,
  D72,
  D73,
  D74,
  D75,
  D76,
  vy X G z_abs,
  vy X G z_all,
  vy X G z_any,
  vy X G z_bool,
  vy X G z_dict,
  vy X G z_enumerate,
  vy X G z_int,
  vy X G z_isinstance,
  vy X G z_len,
  vy X G z_list,
  vy X G z_min,
  vy X G z_range,
  vy X G z_set,
  vy X G z_str,
  vy X G z_sum,
  vy X G z_tuple,
  vy X G z_zip,
  Wj X G n_NoStand,
  Wj X G n_TooLong,
  h_x_NoStand,
  h_m_NoStand_TooLong,
  h_x_TooLong,
  h_m_TooLong_TooLong,
  Wj X G q0,
  λH=>.inr ⟨_,_,_,r0,rfl,rfl,by simp;decide,(.cons ⟨_,rfl⟩ (.cons ⟨_,rfl⟩ .nil))⟩,
  Wj X G q1,
  λH=>.inr ⟨_,_,_,r1,rfl,rfl,by simp;decide,(.cons ⟨_,rfl⟩ (.cons ⟨_,rfl⟩ .nil))⟩,
  Wj X G q2,
  λH=>.inr ⟨_,_,_,r2,rfl,rfl,by simp;decide,(.cons ⟨_,rfl⟩ (.cons ⟨_,rfl⟩ .nil))⟩,
  ⟨_,Wj X G q3⟩,
  ⟨_,Wj X G q4⟩,
  ⟨_,Wj X G q5⟩,
  ⟨_,Wj X G q6⟩,
  ⟨_,Wj X G q7⟩,
  ⟨_,Wj X G q8⟩,
  Wj X G q9,
  λH=>.inr ⟨_,_,_,r9,rfl,rfl,by simp;decide,(.cons ⟨_,rfl⟩ (.cons ⟨_,rfl⟩ (.cons ⟨_,rfl⟩ .nil)))⟩⟩
 exact⟨_,λs v=>.of_eq rfl,λbase _ _=>zCz T⟩
theorem walk{l:xA}{q:wI}{loose:List Str}{XP:(Str->Option wg)->wG->Prop}{YP:wJ->wG->Prop}{d:DefRec}{K:Params->wb}(hn:l.most=some 63)(hdf:d.params.defaults=[])
  (hY:∀(w:wJ)(h:wG),YP w h->(K w.params).In h)
  (F:∀(w:wJ)(mg:Str->Option wg)(fa:we)(h:wG),(K w.params).In h->h.Ns wS mg->mg d.name=some (.ref fa) ->
   ∃fd:wE,(∀(s:wl)(u:wg),BindsTo s fd ⟨[u],[]⟩ [("_law_script",u)]) /\ ∀base:wG,(K w.params).In base->base.Ns wS mg->aH l.prog w (K w.params) mg base aR 16 fa fd ["_law_script"] (y_ (K w.params))) :
  Ue q loose XP YP l.row.toRowW d [] (λf vs=>uH f vs) :=
 L2.YX (n:=63) (k:=16) (x:="_law_script") (CX:=λ_=>aR) (sp:=λw=>y_ (K w.params)) hn (by decide) hdf ⟨rfl,by decide,by decide,rfl⟩ hY F (λ_ H a ns hl hO hS=>⟨.ref a,rfl,a,ns,rfl,zCL hO hS,hl,λ_=>rfl⟩) λ_ _ _ _ _ z=>z
end G
local macro_rules | `(tactic| walk_at "fk")=>`(tactic| (refine' G.aO.mk ?a ?l ?c ?k; (case a=>k_is); (case l=>k_is); (case c=>k_is); (case k=>k_is)))
open PySem PySem.W PyProof.Rows
set_option maxRecDepth 100000 in
set_option maxHeartbeats 0 in
theorem PySem.Challenge.cw_glowflock_k37_whole_told_on_the_way_holds : PySem.Challenge.rw_glowflock_k37_whole_told_on_the_way.Holds := by
 w_on; refine GH.head ?_
 k_fill
 refine G.walk (l:=PySem.Challenge.rw_glowflock_k37_whole_told_on_the_way) rfl rfl (fun w h Y=>PySem.W.kIn_of Y) ?F
 case F =>
   intro w mg fa h KX GG hmg;refine' G.all_mk KX GG hmg ?a0 ?a1 ?a2 ?a3 ?a4 ?a5 ?a6 ?a7 ?a8 ?a9 ?a10 ?a11 ?a12 ?a13 ?a14 ?a15 ?a16 ?a17 ?a18 ?a19 ?a20 ?a21 ?a22 ?a23 ?a24 ?a25 ?a26 ?a27 ?a28 ?a29 ?a30 ?a31 ?a32 ?a33 ?a34 ?a35 ?a36 ?a37 ?a38 ?a39 ?a40 ?a41 ?a42 ?a43 ?a44 ?a45 ?a46 ?a47 ?a48 ?a49 ?a50 ?a51 ?a52 ?a53 ?a54 ?a55 ?a56 ?a57 ?a58 ?a59 ?a60 ?a61 ?a62 ?a63 ?a64 ?a65 ?a66 ?a67 ?a68 ?a69 ?a70 ?a71 ?a72 ?a73 ?a74 ?a75 ?a76 ?n_NoStand ?n_TooLong ?z_abs ?z_all ?z_any ?z_bool ?z_dict ?z_enumerate ?z_int ?z_isinstance ?z_len ?z_list ?z_min ?z_range ?z_set ?z_str ?z_sum ?z_tuple ?z_zip ?h_x_NoStand ?h_m_NoStand_TooLong ?h_x_TooLong ?h_m_TooLong_TooLong ?q0 ?r0 ?q1 ?r1 ?q2 ?r2 ?q3 ?q4 ?q5 ?q6 ?q7 ?q8 ?q9 ?r9
   (case a0=>walk_at "fk")
   (case a1=>walk_at "fk")
   (case a2=>walk_at "fk")
   (case a3=>walk_at "fk")
   (case a4=>walk_at "fk")
   (case a5=>walk_at "fk")
   (case a6=>walk_at "fk")
   (case a7=>walk_at "fk")
   (case a8=>walk_at "fk")
   (case a9=>walk_at "fk")
   (case a10=>walk_at "fk")
   (case a11=>walk_at "fk")
   (case a12=>walk_at "fk")
   (case a13=>walk_at "fk")
   (case a14=>walk_at "fk")
   (case a15=>walk_at "fk")
   (case a16=>walk_at "fk")
   (case a17=>walk_at "fk")
   (case a18=>walk_at "fk")
   (case a19=>walk_at "fk")
   (case a20=>walk_at "fk")
   (case a21=>walk_at "fk")
   (case a22=>walk_at "fk")
   (case a23=>walk_at "fk")
   (case a24=>walk_at "fk")
   (case a25=>walk_at "fk")
   (case a26=>walk_at "fk")
   (case a27=>walk_at "fk")
   (case a28=>walk_at "fk")
   (case a29=>walk_at "fk")
   (case a30=>walk_at "fk")
   (case a31=>walk_at "fk")
   (case a32=>walk_at "fk")
   (case a33=>walk_at "fk")
   (case a34=>walk_at "fk")
   (case a35=>walk_at "fk")
   (case a36=>walk_at "fk")
   (case a37=>walk_at "fk")
   (case a38=>walk_at "fk")
   (case a39=>walk_at "fk")
   (case a40=>walk_at "fk")
   (case a41=>walk_at "fk")
   (case a42=>walk_at "fk")
   (case a43=>walk_at "fk")
   (case a44=>walk_at "fk")
   (case a45=>walk_at "fk")
   (case a46=>walk_at "fk")
   (case a47=>walk_at "fk")
   (case a48=>walk_at "fk")
   (case a49=>walk_at "fk")
   (case a50=>walk_at "fk")
   (case a51=>walk_at "fk")
   (case a52=>walk_at "fk")
   (case a53=>walk_at "fk")
   (case a54=>walk_at "fk")
   (case a55=>walk_at "fk")
   (case a56=>walk_at "fk")
   (case a57=>walk_at "fk")
   (case a58=>walk_at "fk")
   (case a59=>walk_at "fk")
   (case a60=>walk_at "fk")
   (case a61=>walk_at "fk")
   (case a62=>walk_at "fk")
   (case a63=>walk_at "fk")
   (case a64=>walk_at "fk")
   (case a65=>walk_at "fk")
   (case a66=>walk_at "fk")
   (case a67=>walk_at "fk")
   (case a68=>walk_at "fk")
   (case a69=>walk_at "fk")
   (case a70=>walk_at "fk")
   (case a71=>walk_at "fk")
   (case a72=>walk_at "fk")
   (case a73=>walk_at "fk")
   (case a74=>walk_at "fk")
   (case a75=>walk_at "fk")
   (case a76=>walk_at "fk")
   (case n_NoStand=>k_is)
   (case n_TooLong=>k_is)
   (case z_abs=>k_is)
   (case z_all=>k_is)
   (case z_any=>k_is)
   (case z_bool=>k_is)
   (case z_dict=>k_is)
   (case z_enumerate=>k_is)
   (case z_int=>k_is)
   (case z_isinstance=>k_is)
   (case z_len=>k_is)
   (case z_list=>k_is)
   (case z_min=>k_is)
   (case z_range=>k_is)
   (case z_set=>k_is)
   (case z_str=>k_is)
   (case z_sum=>k_is)
   (case z_tuple=>k_is)
   (case z_zip=>k_is)
   (case h_x_NoStand=>k_exc)
   (case h_m_NoStand_TooLong=>kts_exm)
   (case h_x_TooLong=>k_exc)
   (case h_m_TooLong_TooLong=>kts_exm)
   (case q0=>k_is)
   (case r0=>k_is)
   (case q1=>k_is)
   (case r1=>k_is)
   (case q2=>k_is)
   (case r2=>k_is)
   (case q3=>k_is)
   (case q4=>k_is)
   (case q5=>k_is)
   (case q6=>k_is)
   (case q7=>k_is)
   (case q8=>k_is)
   (case q9=>k_is)
   (case r9=>k_is)
#print axioms PySem.Challenge.cw_glowflock_k37_whole_told_on_the_way_holds
