import PyProof.Rows.All
import Wide.All
import OpenK.AllK
import Wide.FinOn
import Lean
import PyProof.EqAt
import PyProof.EqKinds
import PyProof.TupleCall
import PyProof.P3In
import PyProof.ReprRoads
import PyProof.MaxThree
import PyProof.Rows.SetFrom
import PyProof.SetRoads
import PyProof.Rows.TupDisplay
import PyProof.AttrMissHeap
import KE.KDictOf
import PyProof.Walks
import KE.KItemsList
import PySem.SetTable
import PyProof.TupleKey
import PyProof.SetKind
import PyProof.IsRules
import KE.KSortTup
import PyProof.FactsAll.set_1
import KE.KDictList
import PyProof.WalksMore
import PyProof.DictValues
import PyProof.DictWalks
import PySem.Challenge.RW_glowflock_k37_whole_told_on_the_way
set_option compiler.extract_closed false
set_option Elab.async false
set_option linter.all false
set_option maxRecDepth 100000
open Array renaming append_assoc->XC,forIn_toList->Vz,getD->uR,getD_eq_getD_getElem?->vC,getElem?_eq_getElem->vY,getElem?_eq_none->Vv,getElem?_eq_some_iff->W2,getElem?_toList->Wy,length_toList->wK,replicate->uT,size_map->u8,toList->Up
open Bool renaming and_eq_true->wZ,and_eq_true_iff->Xd,and_false->QT,and_true->Xq,beq_eq_decide_eq->Qy,eq_iff_iff->vL,false_and->Ww,false_eq_true->ve,false_ne_true->vF,not_eq_true->uw,not_eq_true'->WV,not_false->QN,not_true->Wv,or_eq_true->uM,or_false->Ud,true_and->ql
open Classical renaming byContradiction->VX,not_not->qy
open False renaming elim->W1
open Int renaming dvd_mul_left->uo,dvd_mul_right->Vi,dvd_trans->qj,ediv_eq_of_eq_mul_right->QZ,ediv_le_self->ur,ediv_mul_le->uZ,emod_lt_of_pos->Qe,emod_nonneg->QI,fdiv_eq_ediv_of_nonneg->VI,gcd->vE,gcd_comm->XF,gcd_dvd_left->qG,gcd_dvd_right->Qn,gcd_pos_of_ne_zero_right->qC,gcd_zero_right->XS,mul_assoc->qi,mul_ediv_cancel_left->V6,mul_le_mul_of_nonneg_right->WJ,mul_ne_zero->xB,mul_neg->ud,mul_nonneg->Ub,mul_one->xI,mul_pos->vQ,natAbs_ediv_le_natAbs->xg,natAbs_mul->xW,natCast_ediv->V7,natCast_mul->VD,neg_dvd->uc,neg_one_mul->uI,one_mul->xM,pow_add->uj,pow_ne_zero->qo,pow_pos->ue,pow_succ->V9,pow_zero->QJ,sign_eq_neg_one_of_neg->Q6,sign_eq_one_of_pos->xL,toNat->xD,toNat_natCast->wP,zero_sub->XU
open List renaming Pairwise->Q5,all_cons->Xn,all_eq_true->WO,all_map->XJ,any_cons->Qt,any_eq_true->uB,append_assoc->Vh,append_inj_left->Xm,append_nil->Wh,cons_append->xn,dropLast_concat_getLast->QP,dropLast_eq_take->xZ,drop_eq_getElem_cons->qQ,drop_eq_nil_of_le->xP,drop_succ_cons->QL,drop_zero->x6,eq_nil_of_length_eq_zero->Vm,ext_getElem->WN,filterMap_cons->qK,filter_append->Va,filter_congr->vO,filter_cons->W4,filter_eq_nil_iff->xQ,filter_filter->Qb,find?_cons->uV,find?_some->uW,flatten_cons->VM,foldl->uE,foldl_append->XZ,foldl_cons->uF,forIn_cons->qR,forIn_nil->QR,getD_eq_getElem?_getD->wa,getElem?_append_left->vI,getElem?_append_right->vi,getElem?_cons_succ->Qm,getElem?_cons_zero->xx,getElem?_drop->Q0,getElem?_eq_getElem->wc,getElem?_eq_none->wL,getElem?_eq_some_iff->Wt,getElem?_map->wu,getElem?_range->vM,getElem?_replicate->xu,getElem?_set->VN,getElem?_set_ne->Xe,getElem?_set_self->xH,getElem?_take_of_lt->xk,getElem?_toArray->Xa,getElem_drop->X1,getElem_map->Vp,getElem_mem->vK,getElem_of_mem->wX,getElem_take->X0,length->xK,length_append->wR,length_cons->vo,length_drop->vR,length_dropLast->Xl,length_eq_zero_iff->Ql,length_erase_of_mem->xq,length_filter_le->WK,length_map->wm,length_nil->xG,length_pos_iff->qf,length_pos_of_mem->qt,length_range->vx,length_replicate->Wx,length_set->VC,length_singleton->vV,length_tail->Qv,length_take->Wq,length_zipWith->Xs,lookup_cons->qI,map_append->vA,map_congr_left->qg,map_cons->vd,map_drop->Xo,map_dropLast->xc,map_map->WM,map_nil->xl,map_replicate->XV,map_take->Xp,mem_append->vX,mem_append_left->VU,mem_append_right->Wc,mem_cons->wF,mem_cons_of_mem->wy,mem_cons_self->wz,mem_erase_of_ne->Xk,mem_filter->vg,mem_filterMap->qV,mem_iff_getElem->Xi,mem_iff_getElem?->x5,mem_map->wU,mem_of_find?_eq_some->xj,mem_of_getElem?->Qz,mem_or_eq_of_mem_set->xh,mem_range->wH,mem_singleton->w6,nil_append->QD,nodup_cons->WW,nodup_range->W5,not_mem_nil->WA,of_mem_zip->xz,pairwise_append->qH,pairwise_cons->W9,pairwise_iff_getElem->We,pairwise_map->qw,pairwise_singleton->xv,range->wt,range_succ->QF,replicate->vc,replicate_succ->qd,set_cons_succ->XQ,set_cons_zero->XR,size_toArray->wO,sum_cons->Vk,tail_cons->u4,take_add_one->Qo,take_append_drop->xY,take_length->Wr,take_of_length_le->WF,take_sublist->XW,take_subset->ut,take_succ_cons->Xw,take_zero->Ua,zipIdx_cons->uA,zipIdx_nil->uP
open List.Pairwise renaming drop->Ux,imp_of_mem->Us
open List.cons renaming injEq->uO
open Nat renaming add_assoc->WS,add_comm->QC,add_le_add_left->Xx,add_mul->ug,add_sub_cancel->qZ,add_sub_cancel'->qN,add_zero->XG,div_div_eq_div_mul->xU,eq_or_lt_of_le->Vb,eq_zero_or_pos->XT,gcd_dvd_right->XY,le_add_right->WP,le_antisymm->uL,le_max_left->uJ,le_max_right->um,le_of_dvd->Ug,le_of_lt->Ve,le_of_lt_succ->VQ,le_refl->wo,le_trans->Wa,lt_irrefl->Vj,lt_of_le_of_lt->W7,lt_of_lt_of_le->wV,lt_or_ge->wA,lt_succ_of_lt->VO,lt_trans->XE,lt_trichotomy->WU,lt_two_pow_self->Xy,min_eq_left->xE,min_le_right->uk,mod_eq_of_lt->xp,mod_lt->qm,mod_mul->xT,mul_add->QX,mul_assoc->W3,mul_comm->V5,mul_le_mul->V2,mul_le_mul_left->qM,mul_le_mul_right->Wf,mul_left_comm->X7,mul_mod->ui,mul_succ->qY,ne_of_gt->vn,ne_of_lt->wQ,not_lt_zero->WI,one_mul->uh,pow_add->QV,pow_le_pow_right->Xg,pow_succ->WY,strongRecOn->uS,sub_add_cancel->XO,sub_self->Vf,succ_mul->qB,succ_ne_self->uz,succ_pos->QE,two_pow_pos->Wi,zero_add->QG,zero_le->Wm,zero_mul->xr
open Nat.succ renaming inj->xt
open Ne renaming symm->WE
open Option renaming getD_none->ul,getD_some->Qw,isSome->Uh,map->Uv,map_eq_some_iff->Vs,map_some->uN
open Option.some renaming inj->wM,injEq->Qp
open Prod renaming ext->VH,fst->Um,snd->Uo
open PyProof.Rows renaming callWith_type1->vB,slot_tuple_getitem->qh
open PyProof.Rows.F renaming entry_set_update_loop->Qd,plain_set_update_loop->VA
open PyProof.Rows.IsTup renaming new->Qx
open PySem renaming Addr->we,Around->vb,FuncData->wE,Heap->wG,IsPair->Wz,IsTupleKey->vH,NameKind->W6,Program->wI,PyData->wC,SetTable->Ws,Shared->wl,Stmt->w9,Value->wg,World->wJ,binaryOp->WC,bootBuiltins->vN,cLine->WD,call->uH,codeAny_builtin->qr,compareOp->wT,letOwnedTupleGo->qT,mainGlobals->wS,mem_of_lookup->Vo,ofAClassStatement->qA,pyNext->VR,rawInt->VS,sizeLine->w8,sizeLine_eq->Vw,sliceBounds->qJ,starEach->w5,tupleKeyHash->vf,wpAny->wx,wpAny_Call_Name_kw->Qg,wpAny_attempt->VL,wpAny_bind->wf,wpAny_call_entry->Wd,wpAny_execs_nil->qS,wpAny_field->vD,wpAny_forIn_list->qc,wpAny_holding->Wk,wpAny_isInstance->Vr,wpAny_mono->WB,wpAny_newObj_type->WH,wpAny_passesOwn->VG,wpAny_pure->wp,wpAny_pyIter_list->qz,wpAny_pyIter_tuple->Vc,wpAny_seqItems->Wg,wpAny_setField_rec->Vd,wpAny_setState_of->VT,wpAny_specialOf->qU,wpAny_truthy_bool->Wo
open PySem.Around renaming under->Uq,under_plainId->VY
open PySem.Builtin.Dict renaming pairItems->xV,updateFrom->xy
open PySem.Builtin.Frozenset renaming newClass->Uk,updateFrom->u9
open PySem.Builtin.Int renaming intBits->Xu
open PySem.Builtin.List renaming listTooLong->qX
open PySem.Builtin.Range renaming rangeSize->Ut
open PySem.Builtin.Slice renaming sliceAdjust->qO,sliceApplied->Q3,sliceFields->Ul,slicePartIndex->u0,slicePlaces->VW
open PySem.Builtin.SmallTypes renaming nextOf->vJ,ownedTupleHandOut->Qc,ownedTupleIsFree->vG
open PySem.Builtin.Tuple renaming tupleExact->V4,tupleHashOf->vZ,tupleItemsOf->Q4
open PySem.Calls renaming Name_function_global->Q2,evalArgs_plain->Xf,spliced_cons->QY,spliced_nil->Q8
open PySem.Challenge renaming pw_glowflock_k37_whole_told_on_the_way->Vx,rw_glowflock_k37_whole_told_on_the_way->wq
open PySem.Code renaming isGuard->Ur
open PySem.EntryCells renaming newEntry->Xv
open PySem.F renaming args_enumerate_next_1->xw,args_tuple_add_2->qW,args_tuple_iterator_next_1->QQ,args_zip_next_1->VP,called_set->qb,entry_enumerate_next->xS,entry_tuple_add->Qk,entry_tuple_iterator_next->Q1,entry_zip_next->qa,excBase_ValueError->Xj,plainAttrs_list->WT,plain_set_new->uU,slot_enumerate_next->qE,slot_int_rmul->uG,slot_list_append->WQ,slot_tuple_add->Qr,slot_tuple_eq->xF,slot_tuple_hash->qx,slot_tuple_iterator_next->VJ,slot_zip_getattribute->qu,slot_zip_next->Wp,type_list_append->WR
open PySem.Heap renaming IsTuple->XM,MadeExcOf->u5,SameBut->vv,get?_push_ne->Q9,get?_push_of_some->wn,get?_push_size->wN,get?_update_other->Qs,get?_update_self->VB,lt_size->wD,size_push->V1,update->xR
open PySem.Heap.IsSliceOf renaming new->Uw
open PySem.Heap.SameBut renaming refl->X9,update->qL
open PySem.IntMulOk renaming of_left->uC,of_right->ua
open PySem.IsRange renaming new->Uu
open PySem.Obj renaming cls_mapFields->X6,data_mapFields->qp,isFreed_of_fields->qD,mapFields->Qu,mapSeq->xf,putSet->xi
open PySem.Paired renaming length->Uc
open PySem.PassesOwn renaming leaving->ub,never->vP
open PySem.PyData renaming canLay0->vU,canLayAll0->Wu,depth->Vg,depthAll->WX,eqv->wY,eqvAll->Vl,strOk->XI
open PySem.SeqAt renaming canLay_of_shaped->Vq,shaped->Wb
open PySem.SeqAt.EqAt renaming int_str->Xz,str_int->XA
open PySem.SetTable renaming below->WG,fill->Uj,grown->Xc,has->XN,insertAt->Wn,laid->Ui,layClean->X8,sizeAbove->qq,turns->Xb
open PySem.SetTable.below renaming go->Qq
open PySem.SetTable.layClean renaming free->W0
open PySem.SetTable.probe renaming go->xb
open PySem.SetTable.sizeAbove renaming go->Wl
open PySem.Shared renaming heap->uf
open PySem.Str renaming ofString->vW,ofString->wW
open PySem.Value renaming isInt->QU
open PySem.W renaming Frag->wb,OpenLaw->xA,WalkO->Ue,callWith_K->XD,cellsFrom_some->xJ,codeIn->QM,excIn->qk,exmOne->qF,fnOf->V3,hideAll->uD,hideAll_get->Xr,keepIn->Qh,kia_one->VE,kia_tup->VF,kitAny->u7,kitOne->V0,kitx_bool->X3,kitx_dict->X5,kitx_int->uu,kitx_list->X4,kitx_none->X2,kitx_str->uv,kitx_tuple->XH,methodObj->Q7,mg_none_of->vy,mg_of->Wj,nsIn->vj,of_hideAll->XB
open PySem.W.Looks renaming ld->Uy
open PySem.Walks renaming list->uQ
open Rat renaming den_divInt->u3,den_intCast->uY,divInt->wB,divInt_mul_divInt->xX,divInt_nonneg->XX,divInt_ofNat->xm,div_def->xN,div_mul_cancel->W8,ext->u6,intCast_add->qP,intCast_eq_zero_iff->Vn,intCast_le_intCast->Vt,intCast_lt_intCast->xO,intCast_mul->vS,intCast_pos->uK,le_iff->Xh,le_of_lt->vT,le_refl->WZ,le_trans->xo,lt_of_le_of_ne->Qa,mul_assoc->Uf,mul_comm->Qf,mul_eq_zero->xC,mul_le_mul_of_nonneg_right->QK,mul_nonneg->Qj,mul_pos->VZ,not_lt->Vu,num_divInt_den->Vy,num_intCast->uX,num_nonneg->Qi,one_mul->QW,pow_succ->WL,pow_zero->V8
namespace GH
open PySem PySem.W PyProof.Rows
noncomputable def sL (p:wI) (w:wJ) (m:Nat) (an:Option wg) (N:Nat) (s0:wl):Option wl :=
 Option.bind (Fast.tw14082659384304107361 Fast.tw14364793385576792824 p w m an N s0 (topStub p)) λs1=>match staticsOk (Fast.tw5923862056798008813 p.main.body) s0.heap s1.heap&&namesBound p s1.heap&&gensDone s1&&laidKept s0.heap s1.heap with | true=>some s1 | false=>none
noncomputable def gD (w:wJ) (os:OsState):wl:=⟨boot_heap w.params,#[],boot_drawn,boot_toks,os⟩
theorem zwF{p q:wI}{loose:List Str}{Xt:wl->Bool}{A:Type}{Yf:wl->A}{Ya:wJ->A}{N:Nat}(e:opening p=plainProg p.main.scope.names)(hN:Nat.ble 600 N=true)(f:∀s,fenceModules? p s=some s){m:Nat}{an:Option wg}
  (size:∀w:wJ,((boot_heap w.params).isNs wS,(boot_heap w.params).objs.size,(boot_heap w.params).nsMap wS "__annotations__")=(true,m,an))
  (h:∀w:wJ,(λos=>(sL p w m an N (gD w os)).map (λs=>(Fast.tw4187177175401517315 q loose (Fast.tw5923862056798008813 p.main.body) Xt true s,Yf s)))=λ_=>some (openGood q loose,Ya w)):LeftO p q loose Xt Yf Ya N:=λw=>by
 obtain⟨⟨h',gs,d,k,os⟩,e',e2⟩:=Vs.mp (boot_open e hN f (w:=w));obtain⟨rfl,rfl,rfl,rfl⟩:h'=boot_heap w.params/\gs = #[]/\d=boot_drawn/\k=boot_toks:=by simpa using e2
 obtain⟨z1,z2,z3⟩:_/\_/\_:=by simpa only[Prod.mk.injEq] using size w
 have r:=congrFun (h w) os;unfold openEnds;rw[e']
 show Uv _ (topFrom treeTable p w N _)=_
 rw[<- r];unfold topFrom sL gD;rw[<- Fast.te14082659384304107361,<- Fast.te14364793385576792824,<- Fast.te5923862056798008813,<- Fast.te4187177175401517315];dsimp only;rw[z1,z2,z3]
 rfl
noncomputable def jE (p:wI) (w:wJ) (m:Nat) (an:Option wg) (N:Nat) (s0:wl):Option wl:=Fast.tw14082659384304107361 Fast.tw14364793385576792824 p w m an N s0 (topStub p)
noncomputable def Aj (p:wI) (w:wJ) (os:OsState) (s1:wl):Bool:=staticsOk (Fast.tw5923862056798008813 p.main.body) (gD w os).heap s1.heap&&namesBound p s1.heap&&gensDone s1&&laidKept (gD w os).heap s1.heap
theorem YS{p q:wI}{loose:List Str}{Xt:wl->Bool}{A:Type}{Yf:wl->A}{Ya:wJ->A}{N:Nat}(e:opening p=plainProg p.main.scope.names)(hN:Nat.ble 600 N=true)(f:∀s,fenceModules? p s=some s){m:Nat}{an:Option wg}
  (size:∀w:wJ,((boot_heap w.params).isNs wS,(boot_heap w.params).objs.size,(boot_heap w.params).nsMap wS "__annotations__")=(true,m,an)) (hp:drecsOf q=[]) (he:plainsOf q (looseW q loose)=[]) (hd:dclssOf q loose=[])
  (hB0:∀w:wJ,(λos=>(jE p w m an N (gD w os)).map (λs=>(Aj p w os s,(Fast.tw4187177175401517315 q loose (Fast.tw5923862056798008813 p.main.body) Xt true s).2.2.2.1)))=λ_=>some (true,true))
  (hB1:∀w:wJ,(λos=>(jE p w m an N (gD w os)).map (λs=>((Fast.tw4187177175401517315 q loose (Fast.tw5923862056798008813 p.main.body) Xt true s).1,(Fast.tw4187177175401517315 q loose (Fast.tw5923862056798008813 p.main.body) Xt true s).2.1)))=λ_=>some (expectedOf q,bltViewBooted))
  (hB2:∀w:wJ,(λos=>(jE p w m an N (gD w os)).map (λs=>(Fast.tw4187177175401517315 q loose (Fast.tw5923862056798008813 p.main.body) Xt true s).2.2.1))=λ_=>some true)
  (hB3:∀w:wJ,(λos=>(jE p w m an N (gD w os)).map (λs=>(Fast.tw4187177175401517315 q loose (Fast.tw5923862056798008813 p.main.body) Xt true s).2.2.2.2.2.2.2))=λ_=>some (wideGood q,clsGoodW q loose))
  (hC:∀w:wJ,(λos=>(jE p w m an N (gD w os)).map (λs=>Yf s))=λ_=>some (Ya w)):LeftO p q loose Xt Yf Ya N:=by
 refine zwF e hN f size λw=>?_
 funext os
 have h1:=congrFun (hB0 w) os;obtain⟨s1,e1,e2⟩:=Vs.mp h1;have g1:=congrFun (hB1 w) os;have g2:=congrFun (hB2 w) os;have g3:=congrFun (hB3 w) os;have k:=congrFun (hC w) os;rw[e1]at g1 g2 g3 k;have g1:=wM g1;have g2:=wM g2;have g3:=wM g3;have a0:=congrArg Um e2;have b0:=congrArg Uo e2;have a1:=congrArg Um g1;have b1:=congrArg Uo g1
 have gp:(Fast.tw4187177175401517315 q loose (Fast.tw5923862056798008813 p.main.body) Xt true s1).2.2.2.2.1=pinGoodD (drecsOf q):=by
  rw[<- Fast.te4187177175401517315]
  show pinSeenD q (drecsOf q) s1=_
  rw[hp]
  rfl
 have ge:(Fast.tw4187177175401517315 q loose (Fast.tw5923862056798008813 p.main.body) Xt true s1).2.2.2.2.2.1=plainGoodE q (looseW q loose):=by
  rw[<- Fast.te4187177175401517315]
  show plainSeenE q (looseW q loose) s1=_
  unfold plainSeenE plainGoodE;rw[he]
  rfl
 have gd:(Fast.tw4187177175401517315 q loose (Fast.tw5923862056798008813 p.main.body) Xt true s1).2.2.2.2.2.2.1=plainGoodD q loose:=by
  rw[<- Fast.te4187177175401517315]
  show plainSeenD q loose s1=_
  unfold plainSeenD plainGoodD;rw[hd]
  rfl
 have g:Fast.tw4187177175401517315 q loose (Fast.tw5923862056798008813 p.main.body) Xt true s1=openGood q loose:=VH a1 (VH b1 (VH g2 (VH b0 (VH gp (VH ge (VH gd g3))))));have k:=wM k
 have ez:sL p w m an N (gD w os)=some s1:=by
  unfold sL;unfold jE at e1;rw[e1]
  show(match Aj p w os s1 with | true=>some s1 | false=>none)=some s1
  rw[show Aj p w os s1=true from a0]
 rw[ez];exact congrArg some (VH g k)
def qv:wI:=view Vx [1,2,3,4,5,6,8,9,10,11,12,13,14,15,16,17,18,20,21,22,23,24,25,26,27,28,29,31,32,33,34,35,36,37,38,39,40,42,43,45,46,47,48,49,50,51,52,53,55,56,57,58,59,60,61,62,63,64,66,67,68,69,70,71,72,73,74,75,76,77,78,79,80,81,83,84,85,86,87,88,89,90,91,92,93,94,95,96,97,98,99,100,101]
theorem Ts{a b:Bool}(h:a=true)(k:b=true):(a&&b)=true:=by rw[h,k];rfl
set_option maxHeartbeats 0 in
theorem Kh:wq.wellSaid=true:=by
 unfold OpenLaw.wellSaid OpenRow.wellSaid OpenRow.partSaid looksOpen
 repeat' with_reducible refine Ts ?_ ?_
 all_goals decide +kernel
theorem size(w:wJ):((boot_heap w.params).isNs wS,(boot_heap w.params).objs.size,(boot_heap w.params).nsMap wS "__annotations__")=(true,11,some (.ref 6)):=by kernel_rfl
theorem no1:drecsOf qv=[]:=by kernel_rfl
theorem no2:plainsOf qv (looseW qv [])=[]:=by kernel_rfl
theorem no3:dclssOf qv []=[]:=by kernel_rfl
theorem Y5(w:wJ):(λos=>(jE wq.row.prog w 11 (some (.ref 6)) 7584 (gD w os)).map (λs=>(Aj wq.row.prog w os s,(Fast.tw4187177175401517315 qv [] (Fast.tw5923862056798008813 wq.row.prog.main.body) (λs=>xlAt GH.qv [] s&&recOk (RowW.records (OpenRow.toRowW (OpenLaw.row wq))) s) true s).2.2.2.1)))=λ_=>some (true,true):=by kernel_rfl
theorem Y4(w:wJ):(λos=>(jE wq.row.prog w 11 (some (.ref 6)) 7584 (gD w os)).map (λs=>((Fast.tw4187177175401517315 qv [] (Fast.tw5923862056798008813 wq.row.prog.main.body) (λs=>xlAt GH.qv [] s&&recOk (RowW.records (OpenRow.toRowW (OpenLaw.row wq))) s) true s).1,(Fast.tw4187177175401517315 qv [] (Fast.tw5923862056798008813 wq.row.prog.main.body) (λs=>xlAt GH.qv [] s&&recOk (RowW.records (OpenRow.toRowW (OpenLaw.row wq))) s) true s).2.1)))=λ_=>some (expectedOf qv,bltViewBooted):=by kernel_rfl
theorem Zb(w:wJ):(λos=>(jE wq.row.prog w 11 (some (.ref 6)) 7584 (gD w os)).map (λs=>(Fast.tw4187177175401517315 qv [] (Fast.tw5923862056798008813 wq.row.prog.main.body) (λs=>xlAt GH.qv [] s&&recOk (RowW.records (OpenRow.toRowW (OpenLaw.row wq))) s) true s).2.2.1))=λ_=>some true:=by kernel_rfl
theorem Y7(w:wJ):(λos=>(jE wq.row.prog w 11 (some (.ref 6)) 7584 (gD w os)).map (λs=>(Fast.tw4187177175401517315 qv [] (Fast.tw5923862056798008813 wq.row.prog.main.body) (λs=>xlAt GH.qv [] s&&recOk (RowW.records (OpenRow.toRowW (OpenLaw.row wq))) s) true s).2.2.2.2.2.2.2))=λ_=>some (wideGood qv,clsGoodW qv []):=by kernel_rfl
local macro_rules | `(tactic| o_head $H)=>`(tactic| (refine holds_open (q:=GH.qv) (loose:=[]) (Xt:=λ s=>xlAt GH.qv [] s && recOk (RowW.records (OpenRow.toRowW (OpenLaw.row wq))) s) (XP:=XL GH.qv []) (Yf:=Hook.obs $H) (Ya:=Hook.val $H) (YP:=Hook.says $H) (N:=7584) ?hl (Hook.of $H) (Hook.keeps $H) (λ s e=>xl_of s (Xd.mp e).1) XL.keeps (by rfl) (by rfl) (by rfl) (λ s e=>recFacts_of (Xd.mp e).2) (by rfl) (by first | assumption | decide +kernel) (by decide +kernel) ⟨rfl,rfl,rfl,rfl,rfl,by decide +kernel⟩ ?hw ?hc; (case hl=>refine GH.YS (by kernel_rfl) rfl (λ s=>by kernel_rfl) GH.size GH.no1 GH.no2 GH.no3 GH.Y5 GH.Y4 GH.Zb GH.Y7 ?_; intro w; kernel_rfl)))
local macro_rules | `(tactic| o_law)=>`(tactic| refine holds_law GH.Kh λ Kh=>?_)
set_option maxHeartbeats 0
open_top head for wq
end GH
set_option maxHeartbeats 4000000
namespace L2
open PySem PySem.Spec PyProof.Rows
variable{H:Hp}{a b:we}{o:HO}
abbrev Key:=Sum Int Str
def Ld:Key->wg->Bool
 | .inl k,v=>QU k v
 | .inr x,v=>Value.isStrOf x v
def zEU(w:wJ):Key->Int
 | .inl k=>hashInt k
 | .inr x=>hashStr w x
theorem kb :∀{k:Key}{v:wg},Ld k v=true->(∃i t,k=Sum.inl i/\v=Value.int i t)\/(∃x t,k=Sum.inr x/\v=Value.str x t)
 | .inl i,v,h=>by
  obtain⟨t,e⟩:=Value.isInt_shape (k:=i) (v:=v) h;exact .inl ⟨i,t,rfl,e⟩
 | .inr x,v,h=>by
  obtain⟨t,e⟩:=Value.isStrOf_shape (x:=x) (v:=v) h;exact .inr ⟨x,t,rfl,e⟩
theorem zC7(a b:Int):decide ((Sum.inl a:Key)=Sum.inl b)=(a == b):=by
 by_cases e:a=b
 ·subst e;simp
 ·have h:¬ (Sum.inl a:Key)=Sum.inl b:=λq=>e (Sum.inl.inj q)
  rw[decide_eq_false h];exact(beq_eq_false_iff_ne.mpr e).symm
theorem zDt(a b:Str):decide ((Sum.inr a:Key)=Sum.inr b)=decide (a=b):=by
 by_cases e:a=b
 ·subst e;simp
 ·have h:¬ (Sum.inr a:Key)=Sum.inr b:=λq=>e (Sum.inr.inj q)
  rw[decide_eq_false h,decide_eq_false e]
theorem zDm(a:Int)(b:Str):decide ((Sum.inl a:Key)=Sum.inr b)=false:=decide_eq_false (λq=>nomatch q)
theorem zDu(a:Str)(b:Int):decide ((Sum.inr a:Key)=Sum.inl b)=false:=decide_eq_false (λq=>nomatch q)
def Eo(prog:wI)(w:wJ):PySem.KeyKind prog w Key where
 is:=Ld
 hash:=zEU w
 inj:=λv a b ha hb=>by
  rcases kb ha with⟨i,t,rfl,rfl⟩ | ⟨x,t,rfl,rfl⟩
  ·rcases kb hb with⟨j,u,rfl,e⟩ | ⟨y,u,rfl,e⟩
   ·injection e with e1 _;rw[e1]
   ·exact nomatch e
  ·rcases kb hb with⟨j,u,rfl,e⟩ | ⟨y,u,rfl,e⟩
   ·exact nomatch e
   ·injection e with e1 _;rw[e1]
 byValue:=λk v h=>by
  rcases kb h with⟨i,t,rfl,rfl⟩ | ⟨x,t,rfl,rfl⟩<;>rfl
 pyHash:=λhv h=>by
  rcases kb hv with⟨i,t,rfl,rfl⟩ | ⟨x,t,rfl,rfl⟩
  ·exact wpAny_pyHash_int h
  ·exact wpAny_pyHash_str h
 eqBool:=λhu hv h=>by
  rcases kb hu with⟨i,t,rfl,rfl⟩ | ⟨x,t,rfl,rfl⟩
  ·rcases kb hv with⟨j,u,rfl,rfl⟩ | ⟨y,u,rfl,rfl⟩
   ·rw[zC7]at h;exact wpAny_eqBool_int h
   ·rw[zDm]at h;exact Xz i t y u _ _ _ _ h
  ·rcases kb hv with⟨j,u,rfl,rfl⟩ | ⟨y,u,rfl,rfl⟩
   ·rw[zDu]at h;exact XA x t j u _ _ _ _ h
   ·rw[zDt]at h;exact wpAny_eqBool_str h
 «strs»:=λk x t v h=>by
  rcases kb h with⟨i,u,rfl,e⟩ | ⟨y,u,rfl,e⟩
  ·exact nomatch e
  ·injection e with e1 _
   subst e1;cases v<;>rfl
inductive V where
 | a_ | bl (b:Bool) | int (i:Int) | str (x:Str) | byt (b:Array UInt8) | flt (b:UInt64) | ref (a:we) | ty (n:String)
 deriving DecidableEq
def bj:V->wg->Prop
 | .a_,u=>u=Value.none
 | .bl b,u=>u=Value.bool b
 | .int i,u=>∃t,u=Value.int i t
 | .str x,u=>∃t,u=Value.str x t
 | .byt b,u=>∃t,u=Value.bytes b t
 | .flt b,u=>∃t,u=Value.float b t
 | .ref a,u=>u=Value.ref a
 | .ty n,u=>u=Value.type n
abbrev aT:List V->List wg->Prop:=Paired bj
theorem aT.length{xs:List V}{us:List wg}(r:aT xs us):xs.length=us.length:=Uc r
theorem aT.get:∀{xs:List V}{us:List wg}{i:Nat}{x:V},aT xs us->xs[i]? = some x->∃u,us[i]? = some u/\bj x u
 | _,_,_,_,.nil,e=>by simp at e
 | _,_,0,_,.cons r _,e=>by simp at e;subst e;exact⟨_,rfl,r⟩
 | _,_,i+1,x,.cons _ t,e=>by
  obtain⟨u,h1,h2⟩:=aT.get (i:=i) (x:=x) t (by simpa using e);exact⟨u,by simpa using h1,h2⟩
theorem aT.set{x:V}{u:wg}(r:bj x u):∀{xs:List V}{us:List wg}(i:Nat),aT xs us->aT (xs.set i x) (us.set i u)
 | _,_,_,.nil=>.nil
 | _,_,0,.cons _ t=>.cons r t
 | _,_,i+1,.cons q t=>.cons q (aT.set r i t)
theorem aT.append:∀{xs ys:List V}{us ws:List wg},aT xs us->aT ys ws->aT (xs++ys) (us++ws)
 | _,_,_,_,.nil,s=>s
 | _,_,_,_,.cons r t,s=>.cons r (aT.append t s)
theorem aT.take:∀{xs:List V}{us:List wg}(n:Nat),aT xs us->aT (xs.take n) (us.take n)
 | _,_,0,_=>.nil
 | _,_,_+1,.nil=>.nil
 | _,_,n+1,.cons r t=>.cons r (aT.take n t)
theorem aT.drop:∀{xs:List V}{us:List wg}(n:Nat),aT xs us->aT (xs.drop n) (us.drop n)
 | _,_,0,r=>r
 | _,_,_+1,.nil=>.nil
 | _,_,n+1,.cons _ t=>aT.drop n t
def NR:Option V->Option wg->Prop
 | some v,some u=>bj v u
 | none,none=>True
 | _,_=>False
def KV{κ : Type} : List (κ × V)->List (κ × wg)->Prop:=Paired λ(p : κ × V)(q : κ × wg)=>p.1=q.1/\bj p.2 q.2
def kV:Key->V
 | .inl i=>.int i
 | .inr x=>.str x
inductive HO where
 | lst (xs:List V)
 | tup (xs:List V)
 | dK (kvs:List (Key × V)) | dT (kvs:List (List Key × V))
 | set (S:Int->Bool) (n:Nat)
 | ins (C dx:we) (fs:List (Str × V))
 | own (x:we)
 | xd (fs:List (Str × V))
 | met (f x:we)
 | tG (lo hi:Int)
 | gF (o:Obj) (u:HO)
 | kT (ps:Array wg)
 | ext (φ : wG->Prop)
abbrev Hp:=we->Option HO
def upd(H:Hp)(a:we)(o:HO):Hp:=λb=>if b=a then some o else H b
theorem cZ : upd H a o a=some o:=by unfold upd;rw[if_pos rfl]
theorem eF(h:b≠a):upd H a o b=H b:=by unfold upd;rw[if_neg h]
theorem U8{u:HO}(h:H a=some o)(h':H b=some u)(d:o≠u):a≠b:=by
 intro e;subst e;rw[h]at h';exact d (wM h')
theorem jP(h:H a=some o)(h':H b=none):a≠b:=by
 intro e;subst e;rw[h]at h';cases h'
section
variable(P:wI)(w:wJ)
def dN(H:Hp)(h:wG)(a:we):HO->Prop
 | .lst xs=>xs.length<=w8 /\ ∃(its:List wg)(n:Nat),aT xs its/\h.get? a=some {cls:=.type "list",data:=.seq its.toArray n}
 | .tup xs=>xs.length<=w8 /\ ∃its:List wg,aT xs its/\IsTup h a its.toArray
 | .dK kvs=>kvs.length<=w8/\(a == sysModules)=false /\ ∃vs,KV kvs vs/\h.DictOf (Eo P w) a vs
 | .dT kvs=>kvs.length<=w8/\(a == sysModules)=false /\ ∃xs:List (List Key × we × wg),
     Paired (λ(p:List Key × V)(q:List Key × we × wg)=>p.1=q.1/\H q.2.1=some (.tup (p.1.map kV))/\bj p.2 q.2.2) kvs xs /\
     ∃o es ep,h.get? a=some o/\o.ExactDict/\o.data=.dict es ep/\es.toList=xs.map (entryOfKey (tupleKind (Eo P w)))/\(xs.map (·.1)).Nodup
 | .set S n=>h.SetOf (intKind P w) a S n
 | .ins C dx fs=>H dx=some (.own a)/\fs.length<=1000/\dx≠a/\h.get? a=some (PySem.W.instObj C dx) /\
     ∃mA,h.Ns1 dx mA/\(∀f,NR (fs.lookup f) (mA f))/\PySem.Within mA (fs.map (·.1))
 | .own _=>∃o,h.get? a=some o
 | .xd fs=>∃mA,h.Ns1 a mA /\ ∀f,NR (fs.lookup f) (mA f)
 | .tG lo hi=>∃t u v,h.get? a=some {cls:=.type "range",data:=.fields #[.int lo t,.int hi u,.int 1 v]}
 | .gF o u=>h.get? a=some o/\dN H h a u
 | .kT ps=>h.get? a=some {cls:=.none,data:=.fields ps}
 | .met f x=>h.get? a=some (Q7 (.ref f) (.ref x))
 | .ext φ=>φ h/\(∃o,h.get? a=some o) /\ ∀h1 h2:wG,φ h1->(∀o,h1.get? a=some o->h2.get? a=some o) -> φ h2
def dB(H:Hp)(h:wG):Prop:=∀a o,H a=some o->dN P w H h a o
end
section
variable{P:wI}{w:wJ}{H H':Hp}{h h':wG}{a:we}{o:HO}
theorem dN.lt(x:dN P w H h a o):a<h.objs.size:=by
 cases o with
 | lst xs=>obtain⟨_,_,_,_,e⟩:=x;exact wD e
 | tup xs=>obtain⟨_,_,_,p⟩:=x;exact p.lt
 | dK kvs=>obtain⟨_,_,_,_,o,_,_,e,_⟩:=x;exact wD e
 | dT kvs=>obtain⟨_,_,_,_,o,_,_,e,_⟩:=x;exact wD e
 | set S n=>obtain⟨o,_,_,_,e,_⟩:=x;exact wD e
 | ins C dx fs=>obtain⟨_,_,_,e,_⟩:=x;exact wD e
 | own y=>obtain⟨_,e⟩:=x;exact wD e
 | xd fs=>obtain⟨_,⟨_,_,_,e,_⟩,_⟩:=x;exact wD e
 | tG lo hi=>obtain⟨_,_,_,e⟩:=x;exact wD e
 | gF ob u=>obtain⟨e,_⟩:=x;exact wD e
 | kT ps=>exact wD (show h.get? a=some _ from x)
 | met f y=>exact wD (show h.get? a=some _ from x)
 | ext φ=>obtain⟨_,⟨_,e⟩,_⟩:=x;exact wD e
theorem Paired.Kn{α β : Type}{F G : α -> β -> Prop} : ∀{l₁ : List α}{l₂ : List β},Paired F l₁ l₂ -> (∀a b,F a b->G a b)->Paired G l₁ l₂
 | _,_,.nil,_=>.nil
 | _,_,.cons r t,f=>.cons (f _ _ r) (Paired.Kn t f)
theorem dN.kE(x:dN P w H h a o)(k:∀b u,(b=a\/H b=some (.own a))->h.get? b=some u->h'.get? b=some u)
  (ho:∀b,H b=some (.own a)->H' b=some (.own a)) (ht:∀b xs,H b=some (.tup xs)->H' b=some (.tup xs)):dN P w H' h' a o:=by
 induction o with
 | lst xs=>obtain⟨z,its,n,r,e⟩:=x;exact⟨z,its,n,r,k _ _ (.inl rfl) e⟩
 | tup xs=>obtain⟨z,its,r,ob,e,c⟩:=x;exact⟨z,its,r,ob,k _ _ (.inl rfl) e,c⟩
 | dK kvs=>obtain⟨z,y,vs,r,ob,es,ep,e,c⟩:=x;exact⟨z,y,vs,r,ob,es,ep,k _ _ (.inl rfl) e,c⟩
 | dT kvs =>
  obtain⟨z,y,xs,r,ob,es,ep,e,c⟩:=x;exact⟨z,y,xs,Paired.Kn r λp q z=>⟨z.1,ht _ _ z.2.1,z.2.2⟩,ob,es,ep,k _ _ (.inl rfl) e,c⟩
 | set S n=>obtain⟨ob,es,ep,t,e,c⟩:=x;exact⟨ob,es,ep,t,k _ _ (.inl rfl) e,c⟩
 | ins C dx fs =>
  obtain⟨d,z,ne,e,mA,⟨od,es,ep,e2,c⟩,r⟩:=x;exact⟨ho _ d,z,ne,k _ _ (.inl rfl) e,mA,⟨od,es,ep,k _ _ (.inr d) e2,c⟩,r⟩
 | own y=>obtain⟨ob,e⟩:=x;exact⟨ob,k _ _ (.inl rfl) e⟩
 | xd fs=>obtain⟨mA,⟨od,es,ep,e,c⟩,r⟩:=x;exact⟨mA,⟨od,es,ep,k _ _ (.inl rfl) e,c⟩,r⟩
 | tG lo hi=>obtain⟨t,u,v,e⟩:=x;exact⟨t,u,v,k _ _ (.inl rfl) e⟩
 | gF ob u ih=>obtain⟨e,q⟩:=x;exact⟨k _ _ (.inl rfl) e,ih q⟩
 | kT ps =>
  have e:h.get? a=some {cls:=.none,data:=.fields ps}:=x
  show h'.get? a=some {cls:=.none,data:=.fields ps}
  exact k a _ (.inl rfl) e
 | met f y =>
  have e:h.get? a=some (Q7 (.ref f) (.ref y)):=x
  show h'.get? a=some (Q7 (.ref f) (.ref y))
  exact k a _ (.inl rfl) e
 | ext φ=>obtain⟨p,⟨o,e⟩,st⟩:=x;exact⟨st _ _ p λo q=>k _ _ (.inl rfl) q,⟨o,k _ _ (.inl rfl) e⟩,st⟩
theorem dB.lt(x:dB P w H h)(e:H a=some o):a<h.objs.size:=(x a o e).lt
theorem dB.fresh(x:dB P w H h)(e:h.objs.size<=a):H a=none:=by
 cases q:H a with
 | none=>rfl
 | some u=>exact absurd (wV (x.lt q) e) (Vj _)
theorem dB.kept(x:dB P w H h)(k:∀b u,h.get? b=some u->h'.get? b=some u):dB P w H h':=λa o e =>
 (x a o e).kE (λb u _ q=>k b u q) (λ_ q=>q) λ_ _ q=>q
theorem dB.laid(x:dB P w H h)(k:∀b u,h.get? b=some u->h'.get? b=some u)(hp:h.objs.size<=a)(new:dN P w (upd H a o) h' a o):dB P w (upd H a o) h':=λb u e=>by
 have hn:=x.fresh hp
 by_cases hb:b=a
 ·subst hb;rw[cZ]at e;cases e;exact new
 ·rw[eF hb]at e
  exact(x b u e).kE (λc v _ q=>k c v q) (λc q=>by rw[eF (jP q hn)];exact q) λc xs q=>by rw[eF (jP q hn)];exact q
end
def Rd(H:Hp)(a:we)(u:HO):Prop:=H a=some u \/ ∃o,H a=some (.gF o u)
theorem Rd.ok{P:wI}{w:wJ}{H:Hp}{h:wG}{a:we}{u:HO}(r:Rd H a u)(x:dB P w H h):dN P w H h a u:=by
 rcases r with r | ⟨o,r⟩
 ·exact x a u r
 ·obtain⟨_,q⟩:=x a _ r
  exact q
def tT:Option HO->Prop
 | some (.lst _)=>True
 | some (.dK _)=>True
 | some (.dT _)=>True
 | some (.set _ _)=>True
 | some (.ins _ _ _)=>True
 | some (.ext _)=>True
 | _=>False
section
variable{P:wI}{w:wJ}{H:Hp}{h h':wG}{x e:we}{o':HO}
theorem dB.write(ok:dB P w H h)(mu:tT (H x))(he:e=x\/H e=some (.own x))(k:∀b u,b≠e->h.get? b=some u->h'.get? b=some u)(heo:∃u,h'.get? e=some u)
  (new:dN P w (upd H x o') h' x o'):dB P w (upd H x o') h':=λb u q=>by
 have nown:∀c y,H c=some (.own y)->c≠x:=λc y r z=>by subst z;rw[r]at mu;exact mu
 have ntup:∀c xs,H c=some (.tup xs)->c≠x:=λc xs r z=>by subst z;rw[r]at mu;exact mu
 by_cases hb:b=x
 ·subst hb;rw[cZ]at q;cases q;exact new
 ·rw[eF hb]at q
  by_cases hbe:b=e
  ·have q':H b=some (.own x):=by
    rcases he with z | z
    ·exact absurd (hbe.trans z) hb
    ·rw[hbe];exact z
   rw[q]at q';cases q';obtain⟨v,hv⟩:=heo;exact⟨v,by rw[hbe];exact hv⟩
  ·refine(ok b u q).kE (λc v hc r=>k c v ?_ r) (λc r=>by rw[eF (nown c b r)];exact r) λc xs r=>by rw[eF (ntup c xs r)];exact r
   rcases hc with rfl | hc
   ·exact hbe
   ·rintro rfl
    rcases he with z | z
    ·exact nown c b hc z
    ·rw[hc]at z;cases z;exact hb rfl
end
structure Un(fs ex:List we)(H H':Hp)(h h':wG):Prop where
 keep:∀b o,h.get? b=some o->H b=none->b ∉ fs->b ∉ ex->h'.get? b=some o
 slot:∀b o,h.get? b=some o->H b=none->b∈fs->b ∉ ex->∃sl,h'.get? b=some {o with slots:=sl}
 free:∀b o,h.get? b=some o->H b=none->b ∉ ex->H' b=none
 there:∀b o,h.get? b=some o->b ∉ ex->∃o',h'.get? b=some o'
 iJ:∀b xs,H b=some (.tup xs)->H' b=some (.tup xs)
 g_:∀b o u,H b=some (.gF o u)->H' b=some (.gF o u)
 iH:∀b ps,H b=some (.kT ps)->∃more,H' b=some (.kT (ps++more))
section
variable{fs fs' ex ex':List we}{H H1 H2:Hp}{h h1 h2 h':wG}{a x e:we}{o:HO}
theorem Un.any(u:Un fs ex H H1 h h1){b:we}{ob:Obj}(q:h.get? b=some ob)(n:H b=none)(hx:b ∉ ex):∃sl,h1.get? b=some {ob with slots:=sl}:=by
 by_cases hb:b∈fs
 ·exact u.slot b ob q n hb hx
 ·exact⟨ob.slots,u.keep b ob q n hb hx⟩
theorem Un.kept(k:∀b u,h.get? b=some u->h'.get? b=some u):Un fs ex H H h h' :=
 ⟨λb ob q _ _ _=>k b ob q,λb ob q _ _ _=>⟨ob.slots,k b ob q⟩,λ_ _ _ n _=>n,λb ob q _=>⟨ob,k b ob q⟩,λ_ _ q=>q,λ_ _ _ q=>q,λ_ ps q=>⟨#[],by rw[q];simp⟩⟩
theorem Un.refl:Un fs ex H H h h:=Un.kept λ_ _ q=>q
theorem Un.laid(k:∀b u,h.get? b=some u->h'.get? b=some u)(hp:h.objs.size<=a)(hn:H a=none):Un fs ex H (upd H a o) h h' where
 keep:=λb u q _ _ _=>k b u q
 slot:=λb u q _ _ _=>⟨u.slots,k b u q⟩
 free:=λb u q n _=>by rw[eF (wQ (wV (wD q) hp))];exact n
 there:=λb u q _=>⟨u,k b u q⟩
 iJ:=λb xs q=>by rw[eF (jP q hn)];exact q
 g_:=λb u xs q=>by rw[eF (jP q hn)];exact q
 iH:=λb ps q=>⟨#[],by rw[eF (jP q hn),q];simp⟩
theorem Un.write(mu:tT (H x))(he:e=x\/H e=some (.own x))(k:∀b u,b≠e->h.get? b=some u->h'.get? b=some u)(heo:∃u,h'.get? e=some u):Un fs ex H (upd H x o) h h':=by
 have hx:∀b,H b=none->b≠x:=λb n z=>by subst z;rw[n]at mu;exact mu
 have hb:∀b,H b=none->b≠e:=λb n z=>by
  subst z;rcases he with r | r
  ·exact hx b n r
  ·rw[n]at r;cases r
 have hm:∀b u,H b=some u->¬ tT (some u)->b≠x:=λb u q nm z=>by subst z;rw[q]at mu;exact nm mu
 refine⟨λb u q n _ _=>k b u (hb b n) q,λb u q n _ _=>⟨u.slots,k b u (hb b n) q⟩,λb u q n _=>by rw[eF (hx b n)];exact n,λb u q _=>?_,
  λb xs q=>by rw[eF (hm b _ q λz=>z)];exact q,λb u xs q=>by rw[eF (hm b _ q λz=>z)];exact q,λb ps q=>⟨#[],by rw[eF (hm b _ q λz=>z),q];simp⟩⟩
 by_cases hbe:b=e
 ·subst hbe;exact heo
 ·exact⟨u,k b u hbe q⟩
end
def ja(h:wG)(H:Hp):List we:=(wt h.objs.size).filter λa=>(H a).isSome
def kq(h:wG)(H:Hp):wG:=uD h (ja h H)
theorem zxt(h:wG)(H:Hp):(kq h H).objs.size=h.objs.size:=PySem.W.hideAll_size _ _
theorem zzJ{h:wG}{H:Hp}{b:we}{o:Obj}(e:h.get? b=some o)(n:H b=none):(kq h H).get? b=some o :=
 Xr _ e λhm=>by
  have q:(H b).isSome=true:=(vg.mp hm).2;rw[n]at q;simp at q
theorem zBx{h:wG}{H:Hp}{b:we}{o:Obj}(e:(kq h H).get? b=some o):h.get? b=some o/\H b=none:=by
 have e':h.get? b=some o:=XB (ja h H) e;refine⟨e',?_⟩;cases q:H b with
 | none=>rfl
 | some x =>
  have hm:b∈ja h H:=vg.mpr ⟨wH.mpr (wD e'),by simp[q]⟩;have z:(kq h H).get? b=none:=PySem.W.hideAll_none (ja h H) hm;rw[z]at e;cases e
def zAO(g h:wG)(L:we):List (we × Obj):=(wt h.objs.size).filterMap λa=>if a=L\/(g.get? a).isSome=true then none else(h.get? a).map λo=>(a,o)
def dq(g h:wG)(L d:we):List (we × Obj):=(zAO g h L).filter λp=>decide (p.1≠d)
structure Mod(K:wb)(mg:Str->Option wg)(base:wG):Prop where
 pL:K.In base
 glob:base.Ns wS mg
 blt:∃mb,base.Ns builtinsNs mb /\ ∀x:Str,x≠"__name__" -> mb x=vN x
 nolimit:base.NoLimit
structure Cx where
 prog:wI
 w:wJ
 K:wb
 mg:Str->Option wg
 base:wG
 A:vb
 N:List Str
 s₀ : wl
 H₀ : Hp
 env:Env
 outer:List Env
 stack:List Env
 ex:List we
 fn:Str->Bool
 calm:Bool
 pn:List (we × Obj)
 xe:wg->wl->Prop
def dX(l:List Env):List we:=l.filterMap (·.frame)
abbrev Cx.fs(X:Cx):List we:=dX X.outer
def Ab(sc:Scope)(x:Str):Prop:=sc.names.lookup x=some .local\/sc.names.lookup x=some .cell\/sc.names.lookup x=some .free
def Loc(sc:Scope)(x:Str):Prop:=sc.names.lookup x=some .local\/sc.names.lookup x=some .cell
def zEV(env:Env)(h:wG)(m:Str->Option wg)(x:Str)(u:wg):Prop :=
 (env.kindOf x=some .local/\m x=some u)\/((env.kindOf x=some .cell\/env.kindOf x=some .free) /\ ∃c,env.cells.lookup x=some c/\h.IsCell c (some u))
structure Cx.Ok(X:Cx):Prop where
 mod:Mod X.K X.mg X.base
 kind:X.env.scope.kind=.function
 glob:X.env.globals=wS
 blt:X.env.builtins=builtinsNs
 above:X.s₀.heap.objs.size<=X.env.locals
 inj:∀x y c,X.env.cells.lookup x=some c->X.env.cells.lookup y=some c->x=y
 has:∀x,(X.env.kindOf x=some .cell\/X.env.kindOf x=some .free)->∃c,X.env.cells.lookup x=some c
 lq:∀x c,X.fn x=true->X.env.cells.lookup x=some c->X.s₀.heap.objs.size<=c
 hd:X.calm=true->X.A.handled=none
 frames:X.A.frames=some X.stack
 ml:X.stack=X.outer\/(X.stack=X.env::X.outer/\X.env.frame=some X.env.locals)
 rO:∀b∈X.ex,b≠X.env.locals /\ ∀x c,X.env.cells.lookup x=some c->c≠b
 bs:∀b o,X.base.get? b=some o->X.s₀.heap.get? b=some o/\X.H₀ b=none
 iX:X.base.objs.size<=X.s₀.heap.objs.size
 kD:∀b o,X.base.get? b=some o->b ∉ X.ex
 lB:∀b∈X.ex,b ∉ X.fs
 fh:X.s₀.heap.FunFrames X.base X.outer
 jr:∀b∈X.fs,X.H₀ b=none
structure Inv(X:Cx)(pins:List (we × Obj))(σ : List (Option V))(H:Hp)(s:wl):Prop where
 ok:X.Ok
 os:s.os=X.s₀.os
 bare:AllBare s.gens
 base:Un X.fs X.ex X.H₀ H X.s₀.heap s.heap
 loc:∃m,s.heap.Ns X.env.locals m /\ ∀(i:Nat)(x:Str)(v:V),X.N[i]? = some x -> σ[i]? = some (some v)->Ab X.env.scope x->∃u,bj v u/\zEV X.env s.heap m x u
 cell:∀x c,X.env.cells.lookup x=some c->∃v,s.heap.IsCell c v
 free:H X.env.locals=none
 gn:∀x c,X.env.cells.lookup x=some c->H c=none
 pin:∀p∈X.pn++pins,s.heap.get? p.1=some p.2/\H p.1=none/\p.1≠X.env.locals/\p.1 ∉ X.fs /\ ∀v,p.2.data≠.cell v
 aI:dB X.prog X.w H s.heap
 len : σ.length=X.N.length
section
variable{X:Cx}{pins:List (we × Obj)}{σ : List (Option V)}{H H':Hp}{s:wl}{h':wG}
variable{i t':Nat}{ch:List we}{x:Str}
theorem Cx.Ok.Zc(ok:X.Ok){b:we}{o:Obj}(e:X.base.get? b=some o):b ∉ X.fs:=λhb=>by
 have:=(ok.fh.mem hb).1;rw[e]at this;cases this
theorem Inv.bs(I:Inv X pins σ H s):∀b o,X.base.get? b=some o->s.heap.get? b=some o/\H b=none:=λb o e =>
 ⟨I.base.keep b o (I.ok.bs b o e).1 (I.ok.bs b o e).2 (I.ok.Zc e) (I.ok.kD b o e),I.base.free b o (I.ok.bs b o e).1 (I.ok.bs b o e).2 (I.ok.kD b o e)⟩
theorem Inv.bk(I:Inv X pins σ H s):∀b o,X.base.get? b=some o->s.heap.get? b=some o:=λb o e=>(I.bs b o e).1
theorem Inv.mod(I:Inv X pins σ H s):Mod X.K X.mg X.base:=I.ok.mod
theorem Inv.dS(I:Inv X pins σ H s):X.K.In s.heap:=I.ok.mod.pL.keeps I.bk
theorem Inv.lt(I:Inv X pins σ H s):X.env.locals<s.heap.objs.size:=let ⟨_,hn,_⟩:=I.loc;hn.lt
theorem Inv.sz(I:Inv X pins σ H s):X.s₀.heap.objs.size<=s.heap.objs.size:=Wa I.ok.above (Ve I.lt)
theorem Inv.Zf(I:Inv X pins σ H s){a:we}(h:s.heap.objs.size<=a):a ∉ X.fs:=λhb=>by
 obtain⟨_,o,ho,_⟩:=I.ok.fh.mem hb;exact absurd (wV (wD ho) (Wa I.sz h)) (Vj _)
theorem Inv.kR(I:Inv X pins σ H s):∀x c,X.env.cells.lookup x=some c->c≠X.env.locals:=λx c e z=>by
 obtain⟨v,o,ho,hd⟩:=I.cell x c e;obtain⟨m,⟨o',es,ep,ho',hd',_⟩,_⟩:=I.loc;rw[z,ho']at ho;cases ho;rw[hd']at hd;cases hd
theorem Inv.fh(I:Inv X pins σ H s):s.heap.FunFrames X.base X.outer:=by
 have all:∀(l:List Env),(∀b∈dX l,b∈X.fs)->X.s₀.heap.FunFrames X.base l->s.heap.FunFrames X.base l:=by
  intro l
  induction l with
  | nil=>intro _ _;trivial
  | cons env r ih =>
   intro hs hl;obtain⟨hk,⟨L,o,hf,hn,ho,hd⟩,hr⟩:=hl;have hL:L∈X.fs:=hs L (by unfold dX;rw[qK,hf];exact wz);obtain⟨sl,e⟩:=I.base.slot L o ho (I.ok.jr L hL) hL λz=>I.ok.lB L z hL
   exact⟨hk,⟨L,_,hf,hn,e,hd⟩,ih (λb hb=>hs b (by unfold dX;rw[qK,hf];exact wy _ hb)) hr⟩
 exact all X.outer (λ_ hb=>hb) I.ok.fh
theorem Inv.stack(I:Inv X pins σ H s):s.heap.FunFrames X.base X.stack:=by
 rcases I.ok.ml with e | ⟨e,hf⟩
 ·rw[e];exact I.fh
 ·rw[e]
  obtain⟨m,hn,_⟩:=I.loc;refine .cons (by rw[I.ok.kind];decide) hf hn ?_ I.fh;exact Heap.get?_none_of_le (Wa I.ok.iX I.ok.above)
theorem Inv.mO(I:Inv X pins σ H s):∀b∈dX X.stack,b∈X.env.locals::X.fs:=λb hb=>by
 rcases I.ok.ml with e | ⟨e,hf⟩
 ·rw[e]at hb;exact wy _ hb
 ·rw[e]at hb
  unfold dX at hb;rw[qK,hf]at hb;exact hb
theorem Inv.sr(I:Inv X pins σ H s):∀b∈dX X.stack,H b=none:=λb hb=>by
 rcases wF.mp (I.mO b hb)with e | hb
 ·rw[e];exact I.free
 ·obtain⟨_,o,ho,_⟩:=I.ok.fh.mem hb
  exact I.base.free b o ho (I.ok.jr b hb) λz=>I.ok.lB b z hb
theorem Inv.step{g':Array GenState}{d':Drawn}(I:Inv X pins σ H s)
  (hch:∀b∈ch,(b∈X.ex\/X.s₀.heap.objs.size<=b)/\b≠X.env.locals/\(∀x c,X.env.cells.lookup x=some c->c≠b) /\ ∀p∈X.pn++pins,p.1≠b)
  (keep:∀b o,b≠X.env.locals->b ∉ X.fs->b ∉ ch->s.heap.get? b=some o->H b=none->h'.get? b=some o)
  (slot:∀b o,b≠X.env.locals->b∈X.fs->b ∉ ch->s.heap.get? b=some o->H b=none->∃sl,h'.get? b=some {o with slots:=sl}) (free:∀b o,b ∉ ch->s.heap.get? b=some o->H b=none->H' b=none)
  (there:∀b o,b ∉ ch->s.heap.get? b=some o->∃o',h'.get? b=some o')
  (iJ:∀b xs,H b=some (.tup xs)->H' b=some (.tup xs)) (g_:∀b o u,H b=some (.gF o u)->H' b=some (.gF o u)) (iH:∀b ps,H b=some (.kT ps)->∃more,H' b=some (.kT (ps++more)))
  (ns:∀m,s.heap.Ns X.env.locals m->h'.Ns X.env.locals m) (aI:dB X.prog X.w H' h') (hg:AllBare g') :
  Inv X pins σ H' {s with heap:=h',gens:=g',drawn:=d',toks:=t'}:=by
 have neL:∀b o,X.s₀.heap.get? b=some o->b≠X.env.locals:=λb o e=>wQ (wV (wD e) I.ok.above)
 have neC:∀b o,X.s₀.heap.get? b=some o->b ∉ X.ex->b ∉ ch:=λb o e hx hb=>by
  rcases (hch b hb).1 with z | z
  ·exact hx z
  ·exact absurd (wV (wD e) z) (Vj _)
 have cellK:∀x c,X.env.cells.lookup x=some c->∀v,s.heap.IsCell c v->h'.IsCell c v:=λx c e v ⟨o,ho,hd⟩=>by
  have nch:c ∉ ch:=λz=>(hch c z).2.2.1 x c e rfl
  by_cases hc:c∈X.fs
  ·obtain⟨sl,q⟩:=slot c o (I.kR x c e) hc nch ho (I.gn x c e)
   exact⟨_,q,hd⟩
  ·exact⟨o,keep c o (I.kR x c e) hc nch ho (I.gn x c e),hd⟩
 refine⟨I.ok,I.os,hg,⟨λb o e n hb hx=>?_,λb o e n hb hx=>?_,λb o e n hx=>?_,λb o e hx=>?_,λb xs e=>iJ b xs (I.base.iJ b xs e),λb o xs e=>g_ b o xs (I.base.g_ b o xs e),λb ps e=>?_⟩,?_,λx c e=>?_,?_,λx c e=>?_,λp hp=>?_,aI,I.len⟩
 ·exact keep b o (neL b o e) hb (neC b o e hx) (I.base.keep b o e n hb hx) (I.base.free b o e n hx)
 ·obtain⟨sl,e1⟩:=I.base.slot b o e n hb hx
  obtain⟨sl',e2⟩:=slot b _ (neL b o e) hb (neC b o e hx) e1 (I.base.free b o e n hx);exact⟨sl',e2⟩
 ·obtain⟨o',e1⟩:=I.base.there b o e hx
  exact free b o' (neC b o e hx) e1 (I.base.free b o e n hx)
 ·obtain⟨o',e1⟩:=I.base.there b o e hx
  exact there b o' (neC b o e hx) e1
 ·obtain⟨m1,e1⟩:=I.base.iH b ps e
  obtain⟨m2,e2⟩:=iH b _ e1;exact⟨m1++m2,by rw[e2,XC]⟩
 ·obtain⟨m,hn,hl⟩:=I.loc
  refine⟨m,ns m hn,λi x v e1 e2 e3=>?_⟩;obtain⟨u,r,l⟩:=hl i x v e1 e2 e3;refine⟨u,r,?_⟩;rcases l with l | ⟨k,c,e,z⟩
  ·exact .inl l
  ·exact .inr ⟨k,c,e,cellK x c e _ z⟩
 ·obtain⟨v,z⟩:=I.cell x c e
  exact⟨v,cellK x c e v z⟩
 ·obtain⟨m,⟨o,_,_,ho,_⟩,_⟩:=I.loc
  exact free _ o (λz=>(hch _ z).2.1 rfl) ho I.free
 ·obtain⟨v,o,ho,hd⟩:=I.cell x c e
  exact free c o (λz=>(hch c z).2.2.1 x c e rfl) ho (I.gn x c e)
 ·obtain⟨e,n,ne,nf,d⟩:=I.pin p hp
  have nch:p.1 ∉ ch:=λz=>(hch p.1 z).2.2.2 p hp rfl
  exact⟨keep p.1 p.2 ne nf nch e n,free p.1 p.2 nch e n,ne,nf,d⟩
theorem Inv.un(I:Inv X pins σ H s)(u:Un X.fs [] H H' s.heap h')(aI:dB X.prog X.w H' h'):Inv X pins σ H' {s with heap:=h',toks:=t'}:=by
 obtain⟨m,⟨o,es,ep,ho,r⟩,_⟩:=id I.loc;obtain⟨sl,hL⟩:=u.any ho I.free (by simp)
 exact I.step (g':=s.gens) (d':=s.drawn) (ch:=[]) (λ_ z=>nomatch z) (λb o _ hb _ e n=>u.keep b o e n hb (by simp)) (λb o _ hb _ e n=>u.slot b o e n hb (by simp)) (λb o _ e n=>u.free b o e n (by simp)) (λb o _ e=>u.there b o e (by simp)) u.iJ u.g_ u.iH (λm' hm=>by
  obtain⟨o',es',ep',ho',r'⟩:=hm;rw[ho]at ho';cases ho';exact⟨_,es',ep',hL,r'⟩) aI I.bare
theorem Inv.call{g':Array GenState}{d':Drawn}(I:Inv X pins σ H s)(u:Un (dX X.stack) ch H H' s.heap h')(aI:dB X.prog X.w H' h')(hg:AllBare g')
  (hch:∀b∈ch,(b∈X.ex\/X.s₀.heap.objs.size<=b)/\b≠X.env.locals/\(∀x c,X.env.cells.lookup x=some c->c≠b) /\ ∀p∈X.pn++pins,p.1≠b) :
  Inv X pins σ H' {s with heap:=h',gens:=g',drawn:=d',toks:=t'}:=by
 obtain⟨m,⟨o,es,ep,ho,r⟩,_⟩:=id I.loc;obtain⟨sl,hL⟩:=u.any ho I.free λz=>(hch _ z).2.1 rfl
 exact I.step (ch:=ch) hch (λb o hL hb hc e n=>u.keep b o e n (λz=>(wF.mp (I.mO b z)).elim hL hb) hc) (λb o _ _ hc e n=>u.any e n hc) (λb o hc e n=>u.free b o e n hc) (λb o hc e=>u.there b o e hc) u.iJ u.g_ u.iH (λm' hm=>by
  obtain⟨o',es',ep',ho',r'⟩:=hm;rw[ho]at ho';cases ho';exact⟨_,es',ep',hL,r'⟩) aI hg
theorem Inv.turned{it:we}(I:Inv X pins σ H s)(k:∀b o,b≠it->s.heap.get? b=some o->h'.get? b=some o)(hn:H it=none)(hL:it≠X.env.locals)
  (h1:it∈X.ex\/X.s₀.heap.objs.size<=it) (h2:∀x c,X.env.cells.lookup x=some c->c≠it) (h3:∀p∈X.pn++pins,p.1≠it):Inv X pins σ H {s with heap:=h',toks:=t'}:=by
 have nit:∀b u,H b=some u->b≠it:=λb u e z=>by rw[z,hn]at e;cases e
 refine I.step (g':=s.gens) (d':=s.drawn) (ch:=[it]) (λb hb=>?_) (λb o _ _ hc e _=>k b o (λz=>hc (by simp[z])) e) (λb o _ _ hc e _=>⟨o.slots,k b o (λz=>hc (by simp[z])) e⟩) (λ_ _ _ _ n=>n)
  (λb o hc e=>⟨o,k b o (λz=>hc (by simp[z])) e⟩) (λ_ _ e=>e) (λ_ _ _ e=>e) (λb ps e=>⟨#[],by rw[e];simp⟩) (λm hm=>?_) (λb u e=>?_) I.bare
 ·have e:b=it:=by simpa using hb
  subst e;exact⟨h1,hL,h2,h3⟩
 ·obtain⟨o,es,ep,ho,r⟩:=hm
  exact⟨o,es,ep,k _ o (WE hL) ho,r⟩
 ·refine(I.aI b u e).kE (λc v hc q=>k c v ?_ q) (λ_ q=>q) λ_ _ q=>q
  rcases hc with z | z
  ·rw[z];exact nit b u e
  ·exact nit c _ z
theorem Inv.tok(I:Inv X pins σ H s)(t:Nat):Inv X pins σ H {s with toks:=t}:=I.un (h':=s.heap) (t':=t) Un.refl I.aI
theorem Inv.kept(I:Inv X pins σ H s)(k:∀b u,s.heap.get? b=some u->h'.get? b=some u):Inv X pins σ H {s with heap:=h',toks:=t'}:=I.un (Un.kept k) (I.aI.kept k)
theorem Inv.laid{a:we}{o:HO}(I:Inv X pins σ H s)(k:∀b u,s.heap.get? b=some u->h'.get? b=some u)(hp:s.heap.objs.size<=a)(new:dN X.prog X.w (upd H a o) h' a o) :
  Inv X pins σ (upd H a o) {s with heap:=h',toks:=t'}:=I.un (Un.laid k hp (I.aI.fresh hp)) (I.aI.laid k hp new)
theorem Inv.write{x e:we}{o:HO}(I:Inv X pins σ H s)(mu:tT (H x))(he:e=x\/H e=some (.own x))(k:∀b u,b≠e->s.heap.get? b=some u->h'.get? b=some u)(heo:∃u,h'.get? e=some u)
  (new:dN X.prog X.w (upd H x o) h' x o):Inv X pins σ (upd H x o) {s with heap:=h',toks:=t'}:=I.un (Un.write mu he k heo) (I.aI.write mu he k heo new)
theorem Inv.JU{pins':List (we × Obj)}(I:Inv X pins σ H s)(h:∀p∈pins',s.heap.get? p.1=some p.2/\H p.1=none/\p.1≠X.env.locals/\p.1 ∉ X.fs /\ ∀v,p.2.data≠.cell v):Inv X pins' σ H s :=
 ⟨I.ok,I.os,I.bare,I.base,I.loc,I.cell,I.free,I.gn,λp hp=>(vX.mp hp).elim (λz=>I.pin p (VU _ z)) (h p),I.aI,I.len⟩
theorem Ng{N:List Str}(hN:N.Nodup){j:Nat}(a:N[i]? = some x)(b:N[j]? = some x):i=j:=by
 obtain⟨h1,e1⟩:=Wt.mp a;obtain⟨h2,e2⟩:=Wt.mp b;exact(List.getElem_inj hN).mp (e1.trans e2.symm)
theorem U9{M:Model}{A:vb}{E:wg->wl->Prop}{v:V}{u:wg}{Q:Unit->wl->Prop}(I:Inv X pins σ H s)(hN:X.N.Nodup)(hi:X.N[i]? = some x)(hx:Loc X.env.scope x)(r:bj v u)
  (h:∀s',Inv X pins (σ.set i (some v)) H s'->(∃a,vv a s.heap s'.heap/\(a=X.env.locals\/X.env.cells.lookup x=some a))->Q () s') (hf:X.fn x=true\/X.env.scope.names.lookup x=some .local:=by first | exact .inl rfl | exact .inr rfl | assumption):wx M A (storeName X.env x u) Q E s:=by
 obtain⟨m,hn,hl⟩:=id I.loc;have hcls:(X.env.scope.kind == .class || (X.env.scope.kind == .module&&X.env.locals != X.env.globals))=false:=by rw[I.ok.kind];rfl
 have hiσ : i < σ.length:=by rw[I.len];exact(Wt.mp hi).1
 have kR:=I.kR
 have tracked:∀{a:we}{h':wG},(∃o,s.heap.get? a=some o/\H a=none)->vv a s.heap h'->dB X.prog X.w H h':=λ{a h'} ha hs b ob e=>by
  obtain⟨_,_,hfree⟩:=ha;refine(I.aI b ob e).kE (λc w' hc q=>(hs.2 c ?_).trans q) (λ_ q=>q) λ_ _ q=>q
  rintro rfl;rcases hc with rfl | hc
  ·rw[hfree]at e;cases e
  ·rw[hfree]at hc;cases hc
 rcases hx with hk | hk
 ·refine wpAny_storeName_local hk hn (λh' hn' hs=>?_) hcls
  obtain⟨oL,_,_,hoL,_⟩:=id hn;refine h _ ⟨I.ok,I.os,I.bare,⟨λb o e n hb hx=>?_,λb o e n hb hx=>?_,I.base.free,λb o e hx=>?_,I.base.iJ,I.base.g_,I.base.iH⟩,⟨_,hn',λj y v' e1 e2 e3=>?_⟩,λy c e=>?_,I.free,I.gn,λp hp=>?_,tracked ⟨oL,hoL,I.free⟩ hs,by simpa using I.len⟩ ⟨_,hs,.inl rfl⟩
  ·exact(hs.2 b (wQ (wV (wD e) I.ok.above))).trans (I.base.keep b o e n hb hx)
  ·obtain⟨sl,e1⟩:=I.base.slot b o e n hb hx
   exact⟨sl,(hs.2 b (wQ (wV (wD e) I.ok.above))).trans e1⟩
  ·obtain⟨o',e1⟩:=I.base.there b o e hx
   exact⟨o',(hs.2 b (wQ (wV (wD e) I.ok.above))).trans e1⟩
  ·by_cases hj:j=i
   ·subst hj
    rw[hi]at e1;cases e1;rw[xH hiσ]at e2;cases e2;exact⟨u,r,.inl ⟨hk,by simp⟩⟩
   ·rw[Xe (WE hj)]at e2
    obtain⟨u',r',q⟩:=hl j y v' e1 e2 e3;refine⟨u',r',?_⟩;rcases q with⟨k,e⟩ | ⟨k,c,e,z⟩
    ·refine .inl ⟨k,?_⟩
     have:y≠x:=λe=>hj (Ng hN e1 (e ▸ hi))
     simp[this,e]
    ·exact .inr ⟨k,c,e,z.sameBut hs (kR y c e)⟩
  ·obtain⟨w',z⟩:=I.cell y c e
   exact⟨w',z.sameBut hs (kR y c e)⟩
  ·obtain⟨e,n,ne,nf,d⟩:=I.pin p hp
   exact⟨(hs.2 p.1 ne).trans e,n,ne,nf,d⟩
 ·have hfn:X.fn x=true:=by
   rcases hf with z | z
   ·exact z
   ·rw[z]at hk;cases hk
  obtain⟨c,hc⟩:=I.ok.has x (.inl hk);obtain⟨w',z⟩:=I.cell x c hc;refine wpAny_storeName_cell I.ok.kind hk hc z (λh' hc' hs=>?_);obtain⟨oc,hoc,hocd⟩:=id z;refine h {s with heap:=h'} ⟨I.ok,I.os,I.bare,⟨λb o e n hb hx=>?_,λb o e n hb hx=>?_,I.base.free,λb o e hx=>?_,I.base.iJ,I.base.g_,I.base.iH⟩,⟨m,hn.sameBut hs (WE (kR x c hc)),λj y v' e1 e2 e3=>?_⟩,λy c' e=>?_,I.free,I.gn,λp hp=>?_,tracked ⟨oc,hoc,I.gn x c hc⟩ hs,by simpa using I.len⟩ ⟨c,hs,.inr hc⟩
  ·exact(hs.2 b (wQ (wV (wD e) (I.ok.lq x c hfn hc)))).trans (I.base.keep b o e n hb hx)
  ·obtain⟨sl,e1⟩:=I.base.slot b o e n hb hx
   exact⟨sl,(hs.2 b (wQ (wV (wD e) (I.ok.lq x c hfn hc)))).trans e1⟩
  ·obtain⟨o',e1⟩:=I.base.there b o e hx
   exact⟨o',(hs.2 b (wQ (wV (wD e) (I.ok.lq x c hfn hc)))).trans e1⟩
  ·by_cases hj:j=i
   ·subst hj
    rw[hi]at e1;cases e1;rw[xH hiσ]at e2;cases e2;exact⟨u,r,.inr ⟨.inl hk,c,hc,hc'⟩⟩
   ·rw[Xe (WE hj)]at e2
    obtain⟨u',r',q⟩:=hl j y v' e1 e2 e3;refine⟨u',r',?_⟩;rcases q with q | ⟨k,c',e,z'⟩
    ·exact .inl q
    ·refine .inr ⟨k,c',e,z'.sameBut hs ?_⟩
     rintro rfl;exact hj (Ng hN e1 (I.ok.inj _ _ _ e hc ▸ hi))
  ·by_cases hcc:c'=c
   ·subst hcc;exact⟨_,hc'⟩
   ·obtain⟨w2,z2⟩:=I.cell y c' e
    exact⟨w2,z2.sameBut hs hcc⟩
  ·obtain⟨e,n,ne,nf,d⟩:=I.pin p hp
   refine⟨(hs.2 p.1 ?_).trans e,n,ne,nf,d⟩;intro q;rw[q,hoc]at e;have q':oc=p.2:=wM e;exact d w' (by rw[<- q'];exact hocd)
theorem pO{M:Model}{A:vb}{E:wg->wl->Prop}{v:V}{u:wg}{Q:Unit->wl->Prop}(I:Inv X pins σ H s)(hN:X.N.Nodup)(hi:X.N[i]? = some x)(hx:Loc X.env.scope x)(r:bj v u)
  (h:∀s',Inv X pins (σ.set i (some v)) H s'->Q () s') (hf:X.fn x=true\/X.env.scope.names.lookup x=some .local:=by first | exact .inl rfl | exact .inr rfl | assumption):wx M A (storeName X.env x u) Q E s :=
 U9 I hN hi hx r (λs' I' _=>h s' I') hf
theorem Inv.J9{s':wl}(I:Inv X pins σ H s)(ho:s'.os=s.os)(u:Un (dX X.stack) ch H H' s.heap s'.heap)(aI:dB X.prog X.w H' s'.heap)(hg:AllBare s'.gens)
  (hch:∀b∈ch,(b∈X.ex\/X.s₀.heap.objs.size<=b)/\b≠X.env.locals/\(∀x c,X.env.cells.lookup x=some c->c≠b) /\ ∀p∈X.pn++pins,p.1≠b):Inv X pins σ H' s':=by
 obtain⟨h',g',d',t',o'⟩:=s';have e:o'=s.os:=ho;subst e;exact I.call (g':=g') (t':=t') (d':=d') u aI hg hch
end
abbrev XK:=wg->Option we->Hp->Prop
abbrev St:=List (Option V)
abbrev VK:=V->Hp->Prop
abbrev TE:=St->Hp->VK->Prop
abbrev TT:=St->Hp->(Bool->Hp->Prop)->Prop
abbrev TA:=St->Hp->(List V->Hp->Prop)->Prop
structure cv where
 nx:St->Hp->Prop
 rt:VK
 bk:St->Hp->Prop:=λ_ _=>False
 ct:St->Hp->Prop:=λ_ _=>False
abbrev TS:=cv->St->Hp->Prop
def EP(X:Cx)(pins:List (we × Obj))(σ : St)(Q:VK)(u:wg)(s':wl):Prop:=∃v H',Inv X pins σ H' s'/\bj v u/\Q v H'
def TP(X:Cx)(pins:List (we × Obj))(σ : St)(Q:Bool->Hp->Prop)(b:Bool)(s':wl):Prop:=∃H',Inv X pins σ H' s'/\Q b H'
def AP(X:Cx)(pins:List (we × Obj))(σ : St)(Q:List V->Hp->Prop)(us:List wg)(s':wl):Prop:=∃vs H',Inv X pins σ H' s'/\aT vs us/\Q vs H'
def SP(X:Cx)(pins:List (we × Obj))(D:cv)(f:Flow)(s':wl):Prop :=
 match f with
 | .next=>∃σ' H',Inv X pins σ' H' s'/\D.nx σ' H'
 | .brk=>∃σ' H',Inv X pins σ' H' s'/\D.bk σ' H'
 | .cont=>∃σ' H',Inv X pins σ' H' s'/\D.ct σ' H'
 | .ret u=>∃v σ' H',Inv X pins σ' H' s'/\bj v u/\D.rt v H'
def PE(X:Cx)(e:Expr)(t:TE):Prop :=
 ∀(pins:List (we × Obj))(s:wl)(σ : St)(H:Hp)(Q:VK),Inv X pins σ H s->t σ H Q->wx (model X.prog X.w) X.A (eval e X.env) (EP X pins σ Q) X.xe s
def PT(X:Cx)(e:Expr)(t:TT):Prop :=
 ∀(pins:List (we × Obj))(s:wl)(σ : St)(H:Hp)(Q:Bool->Hp->Prop),Inv X pins σ H s->t σ H Q->wx (model X.prog X.w) X.A (isTrue e X.env (eval e X.env)) (TP X pins σ Q) X.xe s
def PW(X:Cx)(e:Expr)(t:TT):Prop :=
 ∀(whole:Sem wg)(pins:List (we × Obj))(s:wl)(σ : St)(H:Hp)(Q:Bool->Hp->Prop),Inv X pins σ H s->t σ H Q->wx (model X.prog X.w) X.A (isTrue e X.env whole) (TP X pins σ Q) X.xe s
theorem PW.pt{X:Cx}{e:Expr}{t:TT}(h:PW X e t):PT X e t:=h _
def PA(X:Cx)(es:List Expr)(t:TA):Prop :=
 ∀(pos:Pos)(pins:List (we × Obj))(s:wl)(σ : St)(H:Hp)(Q:List V->Hp->Prop),Inv X pins σ H s->t σ H Q->wx (model X.prog X.w) X.A (spliced (backTo pos (w5 es X.env))) (AP X pins σ Q) X.xe s
def PS(X:Cx)(st:w9)(t:TS):Prop :=
 ∀(pins:List (we × Obj))(s:wl)(σ : St)(H:Hp)(D:cv),Inv X pins σ H s->t D σ H->wx (model X.prog X.w) X.A (exec st X.env) (SP X pins D) X.xe s
def fL(X:Cx)(st:List w9)(t:TS):Prop :=
 ∀(pins:List (we × Obj))(s:wl)(σ : St)(H:Hp)(D:cv),Inv X pins σ H s->t D σ H->wx (model X.prog X.w) X.A (execs st X.env) (SP X pins D) X.xe s
theorem aK{α : Type}{t:Sem α}{Q Q' : α -> wl->Prop}{M:Model}{A:vb}{E:wg->wl->Prop}{s:wl}(h:wx M A t Q E s)(hQ:∀a s,Q a s->Q' a s):wx M A t Q' E s:=WB h hQ λ_ _ x=>x
section
variable{X:Cx}
variable{x:Str}{u:wg}
def rM(i:Nat):TE:=λσ H Q=>∃v,σ[i]? = some (some v)/\Q v H
def tC(v:V):TE:=λ_ H Q=>Q v H
theorem zDJ{i:Nat}{pos:Pos}(hN:X.N[i]? = some x)(hv:Ab X.env.scope x)(hd:(x == ("__debug__" : Str))=false:=by decide)(hcd:(x == ("__classdict__" : Str))=false:=by decide):PE X (.Name x pos) (rM i):=by
 intro pins s σ H Q I h;obtain⟨v,e,h⟩:=h;obtain⟨m,hn,hl⟩:=I.loc;obtain⟨u,r,l⟩:=hl i x v hN e hv;have fin:EP X pins σ Q u s:=⟨v,H,I,r,h⟩;rcases l with⟨hk,hm⟩ | ⟨hk,c,hc,hcell⟩
 ·exact wpAny_Name (wpAny_loadName_local I.ok.kind hk hn hm fin) hd
 ·rcases hk with hk | hk
  ·exact wpAny_Name (wpAny_loadName_cell I.ok.kind hk hc hcell fin) hd
  ·exact wpAny_Name (wpAny_loadName_free I.ok.kind hk hc hcell fin hcd) hd
theorem ay{i j pos} : PE X (.Constant (.int i) j pos) (tC (.int i)):=λ_ _ _ H _ I h=>wpAny_Constant_int ⟨.int i,H,I.tok _,⟨_,rfl⟩,h⟩
theorem eI{b j pos} : PE X (.Constant (.bool b) j pos) (tC (.bl b)):=λ_ _ _ H _ I h=>Constant_bool ⟨.bl b,H,I,rfl,h⟩
theorem fG{j pos} : PE X (.Constant .none j pos) (tC .a_):=λ_ _ _ H _ I h=>Constant_none ⟨.a_,H,I,rfl,h⟩
theorem iY{x j pos} : PE X (.Constant (.str x) j pos) (tC (.str x)):=λ_ _ _ H _ I h=>Calls.Constant_str ⟨.str x,H,I.tok _,⟨_,rfl⟩,h⟩
def Gl(X:Cx)(x:Str):Prop:=X.env.kindOf x=some .globalImplicit
theorem rP{E:wg->wl->Prop}{pins:List (we × Obj)}{s:wl}{σ : St}{H:Hp}{pos:Pos}{Q:wg->wl->Prop}(I:Inv X pins σ H s)(hg:Gl X x)(hm:X.mg x=some u)(h:Q u s)
  (hd:(x == ("__debug__" : Str))=false:=by decide):wx (model X.prog X.w) X.A (eval (.Name x pos) X.env) Q E s :=
 Q2 I.ok.kind hg (Calls.loadGlobal_global (by rw[I.ok.glob];exact I.mod.glob.keeps I.bk) hm h) hd
theorem gP{E:wg->wl->Prop}{pins:List (we × Obj)}{s:wl}{σ : St}{H:Hp}{pos:Pos}{Q:wg->wl->Prop}(I:Inv X pins σ H s)(hg:Gl X x)(hm:X.mg x=none)(hv:vN x=some u)(h:Q u s)
  (hn:x≠"__name__":=by decide) (hd:(x == ("__debug__" : Str))=false:=by decide):wx (model X.prog X.w) X.A (eval (.Name x pos) X.env) Q E s:=by
 obtain⟨mb,h1,h2⟩:=I.mod.blt;exact Q2 I.ok.kind hg (Calls.loadGlobal_builtin (by rw[I.ok.glob];exact I.mod.glob.keeps I.bk) hm (by rw[I.ok.blt];exact h1.keeps I.bk) ((h2 x hn).trans hv) h) hd
theorem b_{v:V}{pos:Pos}(hg:Gl X x)(hm:X.mg x=some u)(r:bj v u)(hd:(x == ("__debug__" : Str))=false:=by decide):PE X (.Name x pos) (tC v) :=
 λ_ _ _ H _ I h=>rP I hg hm ⟨v,H,I,r,h⟩ hd
theorem ik{v:V}{pos:Pos}(hg:Gl X x)(hm:X.mg x=none)(hv:vN x=some u)(r:bj v u)(hn:x≠"__name__":=by decide)(hd:(x == ("__debug__" : Str))=false:=by decide):PE X (.Name x pos) (tC v) :=
 λ_ _ _ H _ I h=>gP I hg hm hv ⟨v,H,I,r,h⟩ hn hd
def t2I(ta tb:TE)(k:Int->Int->Hp->Prop):St->Hp->Prop:=λσ H=>ta σ H λx H1=>tb σ H1 λy H2=>∃i j,x=.int i/\y=.int j/\k i j H2
variable{a b:Expr}{ta tb:TE}{pos:Pos}
def nJ(p:Int->Int->Bool)(ta tb:TE):TE:=λσ H Q=>t2I ta tb (λi j H2=>Q (.bl (p i j)) H2) σ H
abbrev tLt:TE->TE->TE:=nJ λi j=>decide (i<j)
abbrev tLe:TE->TE->TE:=nJ λi j=>decide (i<=j)
abbrev tGt:TE->TE->TE:=nJ λi j=>decide (j<i)
abbrev tGe:TE->TE->TE:=nJ λi j=>decide (j<=i)
abbrev zE6:TE->TE->TE:=nJ λi j=>decide (i=j)
abbrev zE5:TE->TE->TE:=nJ λi j=>!decide (i=j)
def tB(t:TE):TT:=λσ H Q=>t σ H λx H1=>∃c,x=.bl c/\Q c H1
theorem cz{e:Expr}{t:TE}(h:PE X e t)(he:∀whole,isTrue e X.env whole=(do let v <- whole;standAt e.pos;holding [v] (truthy v)):=by intro _;rfl):PT X e (tB t):=by
 intro pins s σ H Q I hw;refine isTrue_plain (aK (h pins s σ H _ I hw) λv s1 ⟨x,H1,I1,r1,q1⟩=>?_) (he _);obtain⟨d,rfl,q⟩:=q1;cases r1;exact Wo ⟨H1,I1,q⟩
variable{tA tB':TT}{dq:List Expr}
def M_(t u:TT):TT:=λσ H Q=>t σ H λc H1=>if c=true then u σ H1 Q else Q false H1
def Ry(t u:TT):TT:=λσ H Q=>t σ H λc H1=>if c=true then Q true H1 else u σ H1 Q
def TM(t:TT):TT:=λσ H Q=>t σ H λc H1=>Q (!c) H1
theorem ES(ha:PT X a tA):PW X (.BoolOp .And [a] pos) tA:=by
 intro wh pins s σ H Q I h;refine isTrue_and (aK (ha pins s σ H Q I h) λc s1 e=>?_);cases c with
 | true=>exact isTrue_and_nil e
 | false=>exact e
theorem iD(ha:PT X a tA):PW X (.BoolOp .Or [a] pos) tA:=by
 intro wh pins s σ H Q I h;refine isTrue_or (aK (ha pins s σ H Q I h) λc s1 e=>?_);cases c with
 | false=>exact isTrue_or_nil e
 | true=>exact e
theorem yY(ha:PT X a tA)(hb:PW X (.BoolOp .And (b::dq) pos) tB'):PW X (.BoolOp .And (a::b::dq) pos) (M_ tA tB'):=by
 intro wh pins s σ H Q I h;refine isTrue_and (aK (ha pins s σ H _ I h) λc s1 ⟨H1,I1,q1⟩=>?_);cases c with
 | true=>exact hb wh pins s1 σ H1 Q I1 q1
 | false=>exact⟨H1,I1,q1⟩
theorem fN(ha:PT X a tA)(hb:PW X (.BoolOp .Or (b::dq) pos) tB'):PW X (.BoolOp .Or (a::b::dq) pos) (Ry tA tB'):=by
 intro wh pins s σ H Q I h;refine isTrue_or (aK (ha pins s σ H _ I h) λc s1 ⟨H1,I1,q1⟩=>?_);cases c with
 | true=>exact⟨H1,I1,q1⟩
 | false=>exact hb wh pins s1 σ H1 Q I1 q1
theorem cU(ha:PT X a tA):PT X (.UnaryOp .Not a pos) (TM tA):=by
 intro pins s σ H Q I h;exact isTrue_not (ha pins s σ H (λc H1=>Q (!c) H1) I h)
def Tv(ta tb:TE):TE:=λσ H Q=>ta σ H λx H1=>∃c,x=.bl c/\if c=true then tb σ H1 Q else Q (.bl false) H1
def L_(ta:TE):TE:=λσ H Q=>ta σ H λx H1=>∃c,x=.bl c/\Q (.bl (!c)) H1
theorem gE{op}{t:TE}(h:PE X a t):PE X (.BoolOp op [a] pos) t:=λpins s σ H Q I hw=>BoolOp_one (h pins s σ H Q I hw)
theorem eO(ha:PE X a ta)(hb:PE X (.BoolOp .And (b::dq) pos) tb):PE X (.BoolOp .And (a::b::dq) pos) (Tv ta tb):=by
 intro pins s σ H Q I h;refine BoolOp_and (aK (ha pins s σ H _ I h) λv s1 ⟨x,H1,I1,r1,q1⟩=>?_);obtain⟨c,rfl,q1⟩:=q1;cases r1;refine Wo ?_;cases c with
 | true=>exact hb pins s1 σ H1 Q I1 q1
 | false=>exact⟨.bl false,H1,I1,rfl,q1⟩
theorem nF(ha:PE X a ta):PE X (.UnaryOp .Not a pos) (L_ ta):=by
 intro pins s σ H Q I h;refine UnaryOp_ (aK (ha pins s σ H _ I h) λv s1 ⟨x,H1,I1,r1,q1⟩=>?_);obtain⟨c,rfl,q1⟩:=q1;cases r1;exact not_of (Wo ⟨.bl (!c),H1,I1,rfl,q1⟩)
def L4(t:TT)(ta tb:TE):TE:=λσ H Q=>t σ H λc H1=>if c=true then ta σ H1 Q else tb σ H1 Q
theorem tP{c:Expr}(hc:PT X c tA)(ha:PE X a ta)(hb:PE X b tb):PE X (.IfExp c a b pos) (L4 tA ta tb):=by
 intro pins s σ H Q I h;refine wpAny_IfExp (aK (hc pins s σ H _ I h) λd s1 ⟨H1,I1,q1⟩=>?_);cases d with
 | true=>exact ha pins s1 σ H1 Q I1 q1
 | false=>exact hb pins s1 σ H1 Q I1 q1
end
def aO(K:wb)(H:Hp)(a:we)(xs:List V):Prop :=
 Rd H a (.lst xs) \/
  ∃(o:Obj)(its:Array wg)(n:Nat),K.lookup a=some o/\o.cls=.type "list"/\o.dict=none/\o.data=.seq its n/\its.size<=w8/\aT xs its.toList
def aU(K:wb)(H:Hp)(a:we)(xs:List V):Prop :=
 Rd H a (.tup xs) \/
  ∃(o:Obj)(its:Array wg)(n:Nat),K.lookup a=some o/\o.cls=.type "tuple"/\o.data=.seq its n/\its.size<=w8/\aT xs its.toList
def zE1:wg->Option V
 | .none=>some .a_
 | .bool b=>some (.bl b)
 | .int i _=>some (.int i)
 | .str x _=>some (.str x)
 | .bytes b _=>some (.byt b)
 | .float b _=>some (.flt b)
 | .ref a=>some (.ref a)
 | .type n=>some (.ty n)
 | _=>none
theorem bj.abs{x:V}{u:wg}(r:bj x u):zE1 u=some x:=by
 cases x with
 | a_=>cases r;rfl
 | bl _=>cases r;rfl
 | int _=>obtain⟨t,rfl⟩:=r;rfl
 | str _=>obtain⟨t,rfl⟩:=r;rfl
 | byt _=>obtain⟨t,rfl⟩:=r;rfl
 | flt _=>obtain⟨t,rfl⟩:=r;rfl
 | ref _=>cases r;rfl
 | ty _=>cases r;rfl
theorem bj.inj{x y:V}{u:wg}(r:bj x u)(q:bj y u):x=y:=wM (r.abs.symm.trans q.abs)
theorem aT.inj:∀{xs ys:List V}{us:List wg},aT xs us->aT ys us->xs=ys
 | _,_,_,.nil,.nil=>rfl
 | _,_,_,.cons r t,.cons r' t'=>by rw[r.inj r',aT.inj t t']
section
variable{X:Cx}{pins:List (we × Obj)}{σ : St}{H:Hp}{s:wl}{a:we}{xs ys:List V}
theorem aO.of{K:wb}(h:H a=some (.lst xs)):aO K H a xs:=.inl (.inl h)
theorem aU.of{K:wb}(h:H a=some (.tup xs)):aU K H a xs:=.inl (.inl h)
theorem Inv.list(I:Inv X pins σ H s)(h:aO X.K H a xs):∃its:List wg,aT xs its/\PlainL s.heap a its.toArray/\xs.length<=w8:=by
 rcases h with h | ⟨o,its,n,hk,hc,hd,hs,hz,r⟩
 ·obtain⟨z,its,n,r,e⟩:=h.ok I.aI
  exact⟨its,r,⟨_,n,e,rfl,rfl,rfl⟩,z⟩
 ·refine⟨its.toList,r,⟨o,n,I.dS a o hk,hc,hd,by simpa using hs⟩,?_⟩
  have e:=r.length;simp only[wK]at e
  lia
theorem Inv.tuple(I:Inv X pins σ H s)(h:aU X.K H a xs):∃its:List wg,aT xs its/\IsTup s.heap a its.toArray/\xs.length<=w8:=by
 rcases h with h | ⟨o,its,n,hk,hc,hs,hz,r⟩
 ·obtain⟨z,its,r,p⟩:=h.ok I.aI
  exact⟨its,r,p,z⟩
 ·refine⟨its.toList,r,⟨o,I.dS a o hk,hc,n,by simpa using hs⟩,?_⟩
  have e:=r.length;simp only[wK]at e
  lia
theorem Inv.A4(I:Inv X pins σ H s)(h:aO X.K H a xs)(h':aO X.K H a ys):xs=ys:=by
 obtain⟨its,r,⟨o,n,e,_,_,d⟩,_⟩:=I.list h;obtain⟨its',r',⟨o',n',e',_,_,d'⟩,_⟩:=I.list h';rw[e]at e';cases e';rw[d]at d'
 injection d' with d1 _
 have:its=its':=by simpa using congrArg Up d1
 subst this;exact r.inj r'
theorem Inv.A1(I:Inv X pins σ H s)(h:aU X.K H a xs)(h':aU X.K H a ys):xs=ys:=by
 obtain⟨its,r,⟨o,e,_,n,d⟩,_⟩:=I.tuple h;obtain⟨its',r',⟨o',e',_,n',d'⟩,_⟩:=I.tuple h';rw[e]at e';cases e';rw[d]at d'
 injection d' with d1 _
 have:its=its':=by simpa using congrArg Up d1
 subst this;exact r.inj r'
end
abbrev Cx.jd(X:Cx)(E:wg->wl->Prop):Cx:={X with xe:=E}
abbrev Cx.Af(X:Cx):Cx:=X.jd λ_ _=>False
theorem Cx.Ok.jd{X:Cx}(ok:X.Ok)(E:wg->wl->Prop):(X.jd E).Ok :=
 ⟨ok.mod,ok.kind,ok.glob,ok.blt,ok.above,ok.inj,ok.has,ok.lq,ok.hd,ok.frames,ok.ml,ok.rO,ok.bs,ok.iX,ok.kD,ok.lB,ok.fh,ok.jr⟩
theorem Cx.Ok.kB{X:Cx}{E:wg->wl->Prop}(ok:(X.jd E).Ok):X.Ok :=
 ⟨ok.mod,ok.kind,ok.glob,ok.blt,ok.above,ok.inj,ok.has,ok.lq,ok.hd,ok.frames,ok.ml,ok.rO,ok.bs,ok.iX,ok.kD,ok.lB,ok.fh,ok.jr⟩
section
variable{X:Cx}{pins:List (we × Obj)}{σ : St}{H:Hp}{s:wl}{E:wg->wl->Prop}
theorem Inv.jd(I:Inv X pins σ H s)(E:wg->wl->Prop):Inv (X.jd E) pins σ H s:=⟨I.ok.jd E,I.os,I.bare,I.base,I.loc,I.cell,I.free,I.gn,I.pin,I.aI,I.len⟩
theorem Inv.kB(I:Inv (X.jd E) pins σ H s):Inv X pins σ H s:=⟨I.ok.kB,I.os,I.bare,I.base,I.loc,I.cell,I.free,I.gn,I.pin,I.aI,I.len⟩
theorem SP.kB{D:cv}{f:Flow}{s':wl}(h:SP (X.jd E) pins D f s'):SP X pins D f s':=by
 cases f with
 | next=>obtain⟨σ',H',I,q⟩:=h;exact⟨σ',H',I.kB,q⟩
 | brk=>obtain⟨σ',H',I,q⟩:=h;exact⟨σ',H',I.kB,q⟩
 | cont=>obtain⟨σ',H',I,q⟩:=h;exact⟨σ',H',I.kB,q⟩
 | ret u=>obtain⟨v,σ',H',I,r,q⟩:=h;exact⟨v,σ',H',I.kB,r,q⟩
theorem fL.Af{st:List w9}{t:TS}(h:fL X.Af st t):fL X st t:=λpins s σ H D I hw =>
 WB (h pins s σ H D (I.jd _) hw) (λ_ _ q=>q.kB) λ_ _ z=>W1 z
end
section
variable{X:Cx}{st:w9}{dq:List w9}{t u:TS}{e:Expr}{te:TE}{pos:Pos}
def K0:TS:=λD σ H=>D.nx σ H
def DG(t u:TS):TS:=λD σ H=>t {D with nx:=u D} σ H
theorem bR:fL X [] K0:=λ_ _ σ H _ I h=>qS ⟨σ,H,I,h⟩
theorem ar(h1:PS X st t)(h2:fL X dq u):fL X (st::dq) (DG t u):=by
 intro pins s σ H D I h;refine wpAny_execs_cons (aK (h1 pins s σ H {D with nx:=u D} I h) λf s1 q=>?_);cases f with
 | next =>
  obtain⟨σ',H',I',q⟩:=q;exact h2 pins s1 σ' H' D I' q
 | ret v=>exact q
 | brk=>exact q
 | cont=>exact q
theorem av(h1:PS X st t):fL X [st] t:=by
 intro pins s σ H D I h;refine wpAny_execs_cons (aK (h1 pins s σ H D I h) λf s1 q=>?_);cases f with
 | next=>exact qS q
 | ret v=>exact q
 | brk=>exact q
 | cont=>exact q
theorem Inv.quiet{pins:List (we × Obj)}{σ : St}{H:Hp}{s:wl}(I:Inv X pins σ H s):interactive X.env=false:=by simp[interactive,I.ok.kind]
def Sy(te:TE):TS:=λD σ H=>te σ H λ_ H1=>D.nx σ H1
theorem nA(he:PE X e te)(hs:swapsWith e none pos.line X.env=pure false:=by rfl):PS X (.Expr e pos) (Sy te):=by
 intro pins s σ H D I h;exact wpAny_Expr_any (aK (he pins s σ H _ I h) λv s1 ⟨x,H1,I1,r1,q1⟩=>⟨σ,H1,I1,q1⟩) I.quiet hs
def Yd(te:TE):TS:=λD σ H=>te σ H D.rt
theorem aB(he:PE X e te):PS X (.Return (some e) pos) (Yd te):=by
 intro pins s σ H D I h;exact wpAny_Return_some (aK (he pins s σ H _ I h) λv s1 ⟨x,H1,I1,r1,q1⟩=>⟨x,σ,H1,I1,r1,q1⟩)
def KY(c:TT)(t u:TS):TS:=λD σ H=>c σ H λb H1=>if b=true then t D σ H1 else u D σ H1
theorem bQ{c:Expr}{a b:List w9}{tc:TT}(hc:PT X c tc)(ha:fL X a t)(hb:fL X b u):PS X (.If c a b pos) (KY tc t u):=by
 intro pins s σ H D I h;refine wpAny_If (aK (hc pins s σ H _ I h) λd s1 ⟨H1,I1,q1⟩=>?_);cases d with
 | true=>exact ha pins s1 σ H1 D I1 q1
 | false=>exact hb pins s1 σ H1 D I1 q1
def zDH:TS:=λ_ _ _=>False
theorem Em:PS X st zDH:=λ_ _ _ _ _ _ h=>h.elim
end
abbrev TG:=V->St->Hp->(St->Hp->Prop)->Prop
abbrev kr:=List V->St->Hp->(St->Hp->Prop)->Prop
def PG(X:Cx)(target:Expr)(t:TG):Prop :=
 ∀(pins:List (we × Obj))(s:wl)(σ : St)(H:Hp)(v:V)(u:wg)(Q:St->Hp->Prop),Inv X pins σ H s->bj v u->t v σ H Q ->
  wx (model X.prog X.w) X.A (assign target X.env u) (λ_ s'=>∃σ' H',Inv X pins σ' H' s'/\Q σ' H') X.xe s
def zx(X:Cx)(ts:List Expr)(t:kr):Prop :=
 ∀(pins:List (we × Obj))(s:wl)(σ : St)(H:Hp)(vs:List V)(us:List wg)(Q:St->Hp->Prop),Inv X pins σ H s->aT vs us->t vs σ H Q ->
  wx (model X.prog X.w) X.A (assignInOrder ((assignEach ts X.env).map (·.2)) us) (λ_ s'=>∃σ' H',Inv X pins σ' H' s'/\Q σ' H') X.xe s
abbrev AH:=V->V->V->Hp->(Hp->Prop)->Prop
def Py(X:Cx)(t:AH):Prop :=
 ∀(pins:List (we × Obj))(s:wl)(σ : St)(H:Hp)(o i v:V)(ov iv u:wg)(Q:Hp->Prop),Inv X pins σ H s->bj o ov->bj i iv->bj v u->t o i v H Q ->
  wx (model X.prog X.w) X.A (setItem ov iv u) (λ_ s'=>∃H',Inv X pins σ H' s'/\Q H') X.xe s
abbrev rZ:=V->V->Hp->VK->Prop
def Sq(X:Cx)(op:Operator)(t:rZ):Prop :=
 ∀(pins:List (we × Obj))(s:wl)(σ : St)(H:Hp)(x y:V)(v u:wg)(Q:VK),Inv X pins σ H s->bj x v->bj y u->t x y H Q ->
  wx (model X.prog X.w) X.A (inplaceOp op v u) (EP X pins σ Q) X.xe s
section
variable{X:Cx}{pos:Pos}
variable{i:Nat}{x:Str}{e:Expr}{te:TE}{pos':Pos}
def iB(i:Nat):TG:=λv σ H Q=>Q (σ.set i (some v)) H
theorem bP(hN:X.N.Nodup)(hi:X.N[i]? = some x)(hx:Loc X.env.scope x)(hf:X.fn x=true\/X.env.scope.names.lookup x=some .local:=by first | exact .inl rfl | exact .inr rfl | assumption):PG X (.Name x pos) (iB i):=by
 intro pins s σ H v u Q I r h;exact wpAny_assign_Name (pO I hN hi hx r (λs' I'=>⟨_,H,I',h⟩) hf)
def OJ:kr:=λvs σ H Q=>vs=[]/\Q σ H
def SS(t:TG)(u:kr):kr:=λvs σ H Q=>∃v r,vs=v::r/\t v σ H λσ' H'=>u r σ' H' Q
theorem lI :zx X [] OJ:=by
 intro pins s σ H vs us Q I r h;obtain⟨e,h⟩:=h;subst e;cases r;exact assignInOrder_nil ⟨σ,H,I,h⟩
theorem gx{es:List Expr}{t:TG}{u:kr}(h1:PG X e t)(h2:zx X es u)
  (hs:(assignEach (e::es) X.env).map (·.2)=assign e X.env::(assignEach es X.env).map (·.2):=by rfl):zx X (e::es) (SS t u):=by
 intro pins s σ H vs us Q I r h;obtain⟨v,vr,e1,h⟩:=h;subst e1;cases r with
 | cons r rr =>
  rw[hs];refine assignInOrder_cons (aK (h1 pins s σ H _ _ _ I r h) λ_ s1 ⟨σ1,H1,I1,q1⟩=>?_);exact h2 pins s1 σ1 H1 _ _ Q I1 rr q1
def lZ(K:wb)(n:Nat)(t:kr):TG:=λv σ H Q=>∃a xs,v=.ref a/\aU K H a xs/\xs.length=n/\t xs σ H Q
theorem my{es:List Expr}{k:Nat}{t:kr}{n:Nat}(hc:X.calm=true)(h:zx X es t)
  (hn:(assignEach es X.env).length=n:=by rfl) (hst:(assignEach es X.env).findIdx? (·.1)=none:=by rfl):PG X (.Tuple es k pos) (lZ X.K n t):=by
 intro pins s σ H v u Q I r hw;obtain⟨a,xs,e1,hq,hl,hw⟩:=hw;subst e1;cases r;obtain⟨its,rv,ht,hz⟩:=I.tuple hq;refine assign_Tuple_tuple (I.ok.hd hc) ht (by simp[hn,<- hl,rv.length]) hst λh' hx=>?_
 have I1:Inv X pins σ H {s with heap:=h'}:=I.kept (t':=s.toks) λb o e=>hx b o (wQ (wD e)) e
 exact h pins _ σ H xs _ Q I1 (by simpa using rv) hw
def SV(to ti:TE)(t:AH):TG:=λv σ H Q=>to σ H λo H1=>ti σ H1 λi H2=>t o i v H2 λH3=>Q σ H3
theorem p9{o i:Expr}{to ti:TE}{t:AH}(ho:PE X o to)(hi:PE X i ti)(hs:Py X t)
  (ha:∀v,assign (.Subscript o i pos) X.env v=(do
   let ov <- holding [v] (eval o X.env)
   let iv <- holding [v,ov] (eval i X.env)
   standAt pos
   holding [v,ov,iv] (setItem ov iv v)
   release [v,ov,iv] []):=by intro _;rfl):PG X (.Subscript o i pos) (SV to ti t):=by
 intro pins s σ H v u Q I r h;rw[ha];refine wf (Wk (aK (ho pins s σ H _ I h) λov s1 ⟨x,H1,I1,r1,q1⟩=>?_));refine wf (Wk (aK (hi pins s1 σ H1 _ I1 q1) λiv s2 ⟨y,H2,I2,r2,q2⟩=>?_));refine wf (wpAny_standAt (wf (Wk (aK (hs pins s2 σ H2 x y v ov iv u _ I2 r1 r2 r q2) λ_ s3 ⟨H3,I3,q3⟩=>?_))));exact wpAny_release ⟨σ,H3,I3,q3⟩
def jS(te:TE)(g:TG):TS:=λD σ H=>te σ H λx H1=>g x σ H1 D.nx
theorem nH{tg:Expr}{g:TG}(he:PE X e te)(hg:PG X tg g)(hs:swapsWithSole [tg] e pos.line X.env=pure false:=by rfl)(hw:swappedStores [tg] e X.env=pure none:=by rfl)
  (h1:(assignEach [tg] X.env).map (·.2)=[assign tg X.env]:=by rfl):PS X (.Assign [tg] e pos) (jS te g):=by
 intro pins s σ H D I h;refine wpAny_Assign_stores (aK (he pins s σ H _ I h) λv s1 ⟨x,H1,I1,r1,q1⟩=>?_) hs hw;rw[h1];exact aK (hg pins s1 σ H1 x v _ I1 r1 q1) λ_ s2 q=>q
theorem zDA(hN:X.N.Nodup)(hi:X.N[i]? = some x)(hx:Loc X.env.scope x)(he:PE X e te)(hs:swapsWith e (some (.Name x pos')) pos.line X.env=pure false:=by rfl)(hf:X.fn x=true\/X.env.scope.names.lookup x=some .local:=by first | exact .inl rfl | exact .inr rfl | assumption) :
  PS X (.Assign [.Name x pos'] e pos) (jS te (iB i)):=by
 intro pins s σ H D I h;refine wpAny_Assign_Name (aK (he pins s σ H _ I h) λv s1 ⟨y,H1,I1,r1,q1⟩=>?_) hs;exact pO I1 hN hi hx r1 (λs2 I2=>⟨_,H1,I2,q1⟩) hf
def YF(i j:Nat)(ta:TA):TS:=λD σ H=>ta σ H λvs H1=>∃v w,vs=[v,w]/\D.nx ((σ.set i (some v)).set j (some w)) H1
theorem zCQ{j:Nat}{y:Str}{a b:Expr}{ta:TA}{px py pt:Pos}{kt k2 pt2}(hc:X.calm=true)(hN:X.N.Nodup)(hi:X.N[i]? = some x)(hj:X.N[j]? = some y)(hij:i≠j)
  (hx:X.env.scope.names.lookup x=some .local) (hy:X.env.scope.names.lookup y=some .local) (ha:PA X [a,b] ta)
  (hw:swappedStores [.Tuple [.Name x px,.Name y py] kt pt] (.Tuple [a,b] k2 pt2) X.env=pure (some [x,y]))
  (hs:swapsWithSole [.Tuple [.Name x px,.Name y py] kt pt] (.Tuple [a,b] k2 pt2) pos.line X.env=pure false:=by rfl) :
  PS X (.Assign [.Tuple [.Name x px,.Name y py] kt pt] (.Tuple [a,b] k2 pt2) pos) (YF i j ta):=by
 intro pins s σ H D I h;rw[exec_Assign_arm];refine wf (wpAny_standAt ?_);rw[hs];refine wf (wp ?_);rw[if_neg (by decide)];refine wf (Tuple_ (aK (ha _ pins s σ H _ I h) λus s1 ⟨vs,H1,I1,r1,q1⟩=>?_));obtain⟨v,w,e1,q1⟩:=q1;subst e1
 obtain⟨u1,u2,rfl,rv,rw'⟩:∃u1 u2,us=[u1,u2]/\bj v u1/\bj w u2:=by
  cases r1 with
  | cons p q =>
   cases q with
   | cons p' q' =>
    cases q';exact⟨_,_,rfl,p,p'⟩
 refine WH ?_ (by show 2<=w8;decide);have I2:Inv X pins σ H1 {s1 with heap:=s1.heap.push {cls:=.type "tuple",data:=.seq [u1,u2].toArray}}:=I1.kept (t':=s1.toks) λb o e=>wn _ e
 rw[hw];refine wf (wp ?_)
 show wx (model X.prog X.w) X.A (do rule "assign.swapped-stores";let items <- unpackItems (.ref s1.heap.objs.size) 2 none;assignInOrder [λv=>bindName X.env y v,λv=>bindName X.env x v] items.reverse;pure Flow.next) _ _ _
 refine wf (wpAny_rule (wf (unpackItems_tuple (items:=#[u1,u2]) (I.ok.hd hc) (Qx s1.heap _) λh' hx'=>?_)));have I3:=I2.kept (h':=h') (t':=s1.toks) λb o e=>hx' b o (wQ (wD e)) e
 show wx _ _ (assignInOrder [λv=>bindName X.env y v,λv=>bindName X.env x v] [u2,u1] >>= λ_=>pure Flow.next) _ _ _
 refine wf (assignInOrder_cons (wpAny_bindName (pO I3 hN hj (.inl hy) rw' (λs2 I4=>?_) (.inr hy))));refine assignInOrder_cons (wpAny_bindName (pO I4 hN hi (.inl hx) rv (λs3 I5=>assignInOrder_nil (wp ?_)) (.inr hx)));rw[List.set_comm _ _ (WE hij)]at I5;exact⟨_,H1,I5,q1⟩
def Rh(i:Nat)(te:TE)(ti:rZ):TS:=λD σ H=>∃x,σ[i]? = some (some x)/\te σ H λy H1=>ti x y H1 λz H2=>D.nx (σ.set i (some z)) H2
theorem zC0{op:Operator}{ti:rZ}(hN:X.N.Nodup)(hi:X.N[i]? = some x)(hx:Loc X.env.scope x)(he:PE X e te)(ho:Sq X op ti)(hf:X.fn x=true\/X.env.scope.names.lookup x=some .local:=by first | exact .inl rfl | exact .inr rfl | assumption) :
  PS X (.AugAssign (.Name x pos') op e pos) (Rh i te ti):=by
 intro pins s σ H D I h;obtain⟨v,e1,h⟩:=h;obtain⟨m,hn,hl⟩:=I.loc;have BI:Ab X.env.scope x:=by rcases hx with k | k;exact .inl k;exact .inr (.inl k)
 obtain⟨u,r,l⟩:=hl i x v hi e1 BI;refine wpAny_AugAssign_Name ?_
 have go:wx (model X.prog X.w) X.A (eval e X.env) (λw s₂=>wx (model X.prog X.w) X.A (inplaceOp op u w) (λr s₃=>wx (model X.prog X.w) X.A (storeName X.env x r) (λ_=>SP X pins D .next) X.xe s₃) X.xe s₂) X.xe s:=by
  refine aK (he pins s σ H _ I h) λw s1 ⟨y,H1,I1,r1,q1⟩=>?_
  refine aK (ho pins s1 σ H1 v y u w _ I1 r r1 q1) λz s2 ⟨zv,H2,I2,r2,q2⟩=>?_
  exact pO I2 hN hi hx r2 (λs3 I3=>⟨_,H2,I3,q2⟩) hf
 rcases l with⟨hk,hm⟩ | ⟨hk,c,hc,hcell⟩
 ·exact wpAny_loadName_local I.ok.kind hk hn hm go
 ·rcases hk with hk | hk
  ·exact wpAny_loadName_cell I.ok.kind hk hc hcell go
  ·rcases hx with k | k
   ·have:X.env.scope.names.lookup x=some .free:=hk
    rw[k]at this;cases this
   ·have:X.env.scope.names.lookup x=some .free:=hk
    rw[k]at this;cases this
def To(f:Int->Int->Int):rZ:=λx y H Q=>∃i j,x=.int i/\y=.int j/\Q (.int (f i j)) H
theorem zDk :Sq X .Add (To λi j=>i+j):=by
 intro pins s σ H x y v u Q I r1 r2 h;obtain⟨i,j,e1,e2,q⟩:=h;subst e1;subst e2;obtain⟨t,rfl⟩:=r1;obtain⟨t',rfl⟩:=r2;exact iadd_int ⟨.int _,H,I.tok _,⟨_,rfl⟩,q⟩
end
section
variable{X:Cx}{pos:Pos}
def BG(c:TT)(tb:TS):TS:=λD σ H=>∃W:Nat->St->Hp->Prop,(∃m,W m σ H) /\ ∀m σ H,W m σ H ->
 c σ H λb H1=>if b=true then ∃N:St->Hp->Prop,(∀σ' H',N σ' H'->∃m',m'<m/\W m' σ' H')/\tb {D with nx:=N,ct:=N,bk:=D.nx} σ H1 else D.nx σ H1
theorem nE{c:Expr}{body:List w9}{tc:TT}{tb:TS}(hp:PassesOwn (model X.prog X.w) X.A X.env X.xe)(hc:PT X c tc)(hb:fL X body tb):PS X (.While c body [] pos) (BG tc tb):=by
 intro pins s σ H D I h;obtain⟨W,⟨m0,w0⟩,turn⟩:=h;refine wpAny_While (codeAny_whileLoop (λn s'=>∃σ' H',Inv X pins σ' H' s'/\W n σ' H') ?_ m0 ⟨σ,H,I,w0⟩);rintro n s1 ⟨σ1,H1,I1,w1⟩;refine VG hp (aK (hc pins s1 σ1 H1 _ I1 (turn n σ1 H1 w1)) λb s2 ⟨H2,I2,q2⟩=>?_);cases b with
 | true =>
  obtain⟨N,hN,q2⟩:=q2;rw[if_pos rfl];refine VG hp (aK (hb pins s2 σ1 H2 _ I2 q2) λf s3 q3=>?_);cases f with
  | next =>
   obtain⟨σ3,H3,I3,n3⟩:=q3;obtain⟨m',hm,w3⟩:=hN σ3 H3 n3;exact⟨m',hm,σ3,H3,I3,w3⟩
  | cont =>
   obtain⟨σ3,H3,I3,n3⟩:=q3;obtain⟨m',hm,w3⟩:=hN σ3 H3 n3;exact⟨m',hm,σ3,H3,I3,w3⟩
  | brk=>exact q3
  | ret v=>exact q3
 | false =>
  rw[if_neg vF];exact qS ⟨σ1,H2,I2,q2⟩
end
variable{tg:Expr}{P:wI}{w:wJ}{K:wb}
structure It where
 go:Nat->Hp->Prop
 fD:Nat->Hp->V->Hp->Prop
 stop:Nat->Hp->Prop
def eK(X:Cx)(pins:List (we × Obj))(H:Hp)(b:we):Prop :=
 H b=none/\b≠X.env.locals/\b ∉ X.fs/\(b∈X.ex\/X.s₀.heap.objs.size<=b)/\(∀x c,X.env.cells.lookup x=some c->c≠b) /\ ∀p∈X.pn++pins,p.1≠b
theorem Inv.jM{X:Cx}{pins:List (we × Obj)}{σ : St}{H H':Hp}{s:wl}{b:we}(I:Inv X pins σ H s)(hb:s.heap.objs.size<=b)(hn:H' b=none):eK X pins H' b:=by
 refine⟨hn,vn (wV I.lt hb),I.Zf hb,.inr (Wa I.sz hb),λx c e z=>?_,λp hp z=>?_⟩
 ·obtain⟨v,q⟩:=I.cell x c e
  exact absurd (wV q.lt (by rw[z];exact hb)) (Vj _)
 ·exact absurd (wV (wD (I.pin p hp).1) (by rw[z];exact hb)) (Vj _)
structure jK(P:wI)(w:wJ)(K:wb)(tg:Expr)(J:It)(fp:List we)(it:we)(tn:Nat->wG->Prop):Prop where
 mem:it∈fp
 obj:∀i h,tn i h->∀b∈fp,∃o,h.get? b=some o /\ ∀v,o.data≠.cell v
 keep:∀i h h',tn i h->(∀b∈fp,∀o,h.get? b=some o->h'.get? b=some o)->tn i h'
 item:∀(X:Cx),X.prog=P->X.w=w->X.K=K->X.calm=true->∀(i:Nat)(pins:List (we × Obj))(s:wl)(σ : St)(H:Hp)(E:wg->wl->Prop),Inv X pins σ H s->(∀b∈fp,eK X pins H b)->tn i s.heap->J.go i H ->
   wx (model P w) X.A (VR (.ref it)) (λr s1=>∃u,r=some u /\
     wx (model P w) X.A (qT tg (.ref it) u) (λ_ s2=>∃x H',Inv X pins σ H' s2/\bj x u/\J.fD i H x H'/\tn (i+1) s2.heap /\ ∀b∈fp,H' b=none) E s1) E s
 done:∀(X:Cx),X.prog=P->X.w=w->X.K=K->X.calm=true->∀(i:Nat)(pins:List (we × Obj))(s:wl)(σ : St)(H:Hp)(E:wg->wl->Prop),Inv X pins σ H s->(∀b∈fp,eK X pins H b)->tn i s.heap->J.stop i H ->
   wx (model P w) X.A (VR (.ref it)) (λr s1=>r=none/\Inv X pins σ H s1) E s
 self:∀(A:vb)(i:Nat)(s:wl)(Q:wg->wl->Prop)(E:wg->wl->Prop),tn i s.heap->Q (.ref it) s->wx (model P w) A (pyIter (.ref it)) Q E s
abbrev TI:=St->Hp->(It->Hp->Prop)->Prop
def Cg(X:Cx)(pins:List (we × Obj))(σ : St)(tg:Expr)(R:It->Hp->Prop)(itv:wg)(s2:wl):Prop :=
 ∃(it:we)(fp:List we)(tn:Nat->wG->Prop)(J:It)(H':Hp),itv=.ref it/\Inv X pins σ H' s2/\jK X.prog X.w X.K tg J fp it tn/\tn 0 s2.heap/\(∀b∈fp,eK X pins H' b)/\R J H'
def PI(X:Cx)(tg iter:Expr)(wi:TI):Prop :=
 ∀(pins:List (we × Obj))(s:wl)(σ : St)(H:Hp)(R:It->Hp->Prop),Inv X pins σ H s->wi σ H R ->
  wx (model X.prog X.w) X.A (eval iter X.env) (λv s1=>wx (model X.prog X.w) X.A (pyIter v) (Cg X pins σ tg R) X.xe s1) X.xe s
theorem FQ{M:Model}{A:vb}{E:wg->wl->Prop}{s:wl}{it:we}{u:wg}{o:Obj}{n:String}{vs:Array wg}{Q:Unit->wl->Prop}(ho:s.heap.get? it=some o)(hc:o.cls=.type n)(hd:o.data=.fields vs)
   (hn:["enumerate","zip","dict_itemiterator","dict_reverseitemiterator","odict_iterator","itertools.zip_longest","itertools.pairwise"].contains n=false) (hQ:Q () s):wx M A (qT tg (.ref it) u) Q E s:=by
 unfold qT
 cases tg<;>first
   | exact wp hQ
   | (cases u<;>first
       | exact wp hQ
       | (refine wf (wpAny_load ho ?_)
          rw[hc,hd]
          show wx M A (if(["enumerate","zip","dict_itemiterator","dict_reverseitemiterator","odict_iterator","itertools.zip_longest","itertools.pairwise"].contains n&&vs[0]? == some (VS _))=true then _ else _) Q E s
          rw[if_neg (by intro h;rw[hn,Ww]at h;cases h)];exact wp hQ))
def jg(K:wb)(a:we):It :=
 ⟨λi H=>∃xs x,aO K H a xs/\xs[i]? = some x,λi H x H'=>H'=H /\ ∀xs,aO K H a xs->xs[i]? = some x,λi H=>∃xs,aO K H a xs/\xs.length<=i⟩
def je(K:wb)(a:we):It :=
 ⟨λi H=>∃xs x,aU K H a xs/\xs[i]? = some x,λi H x H'=>H'=H /\ ∀xs,aU K H a xs->xs[i]? = some x,λi H=>∃xs,aU K H a xs/\xs.length<=i⟩
def gG(lo:Int)(n:Nat):It:=⟨λi _=>i<n,λi H x H'=>H'=H/\x=.int (lo+i),λi _=>n<=i⟩
theorem Yq(a it:we):jK P w K tg (jg K a) [it] it (λi h=>h.IsListIter it a i) where
 mem:=by simp
 obj:=λi h st b hb=>by
  have e:b=it:=by simpa using hb
  subst e;obtain⟨o,e,c,d⟩:=st;exact⟨o,e,λv z=>by rw[d]at z;cases z⟩
 keep:=λi h h' st k=>st.at λo e=>k it (by simp) o e
 item:=by
  intro X hP hw hK hc i pins s σ H E I hf st hg;subst hP hw hK;obtain⟨xs,x,hq,hx⟩:=hg;obtain⟨its,rv,p,hz⟩:=I.list hq;obtain⟨u,hu,ru⟩:=rv.get hx;obtain⟨f0,f1,f2,f3,f4,f5⟩:=hf it (by simp);refine wpAny_pyNext_list_item st p.isList (x:=u) (by simpa using hu) λh' st' sb=>?_
  have I1:Inv X pins σ H {s with heap:=h'}:=I.turned (t':=s.toks) (λb o hb e=>(sb.2 b hb).trans e) f0 f1 f3 f4 f5;obtain⟨o,e,c,d⟩:=id st';exact⟨u,rfl,FQ (s:={s with heap:=h'}) e c d (by decide) ⟨x,H,I1,ru,⟨rfl,λys hy=>by rw[I.A4 hy hq];exact hx⟩,st',λb hb=>(hf b hb).1⟩⟩
 done:=by
  intro X hP hw hK hc i pins s σ H E I hf st hg;subst hP hw hK;obtain⟨xs,hq,hx⟩:=hg;obtain⟨its,rv,p,hz⟩:=I.list hq;obtain⟨f0,f1,f2,f3,f4,f5⟩:=hf it (by simp);have hl:=rv.length;exact wpAny_pyNext_list_end (I.ok.hd hc) st p.isList (by simp;lia) λh' eb=>⟨rfl,I.turned (t':=s.toks) (λb o hb e=>eb b o hb e) f0 f1 f3 f4 f5⟩
 self:=λ_ _ _ _ _ st h=>wpAny_pyIter_listiter st h
theorem N7(a it:we):jK P w K tg (je K a) [it] it (λi h=>h.IsTupleIter it a i) where
 mem:=by simp
 obj:=λi h st b hb=>by
  have e:b=it:=by simpa using hb
  subst e;obtain⟨o,e,c,d⟩:=st;exact⟨o,e,λv z=>by rw[d]at z;cases z⟩
 keep:=λi h h' st k=>st.at λo e=>k it (by simp) o e
 item:=by
  intro X hP hw hK hc i pins s σ H E I hf st hg;subst hP hw hK;obtain⟨xs,x,hq,hx⟩:=hg;obtain⟨its,rv,p,hz⟩:=I.tuple hq;obtain⟨u,hu,ru⟩:=rv.get hx;obtain⟨f0,f1,f2,f3,f4,f5⟩:=hf it (by simp);refine wpAny_pyNext_tuple_item st (show s.heap.IsTuple a its.toArray from p) (x:=u) (by simpa using hu) λh' st' sb=>?_
  have I1:Inv X pins σ H {s with heap:=h'}:=I.turned (t':=s.toks) (λb o hb e=>(sb.2 b hb).trans e) f0 f1 f3 f4 f5;obtain⟨o,e,c,d⟩:=id st';exact⟨u,rfl,FQ (s:={s with heap:=h'}) e c d (by decide) ⟨x,H,I1,ru,⟨rfl,λys hy=>by rw[I.A1 hy hq];exact hx⟩,st',λb hb=>(hf b hb).1⟩⟩
 done:=by
  intro X hP hw hK hc i pins s σ H E I hf st hg;subst hP hw hK;obtain⟨xs,hq,hx⟩:=hg;obtain⟨its,rv,p,hz⟩:=I.tuple hq;obtain⟨f0,f1,f2,f3,f4,f5⟩:=hf it (by simp);have hl:=rv.length;exact wpAny_pyNext_tuple_end (I.ok.hd hc) st (show s.heap.IsTuple a its.toArray from p) (by simp;lia) λh' eb=>⟨rfl,I.turned (t':=s.toks) (λb o hb e=>eb b o hb e) f0 f1 f3 f4 f5⟩
 self:=λ_ _ _ _ _ st h=>wpAny_pyIter_tupleiter st h
theorem zuO(it:we)(lo:Int)(n:Nat):jK P w K tg (gG lo n) [it] it (λi h=>IsRangeIter h it (lo+(i:Nat)*1) ((n:Int)-(i:Nat)) 1) where
 mem:=by simp
 obj:=λi h st b hb=>by
  have e:b=it:=by simpa using hb
  subst e
  exact⟨_,st,λv z=>by
   have z':Data.fields _=Data.cell v:=z;cases z'⟩
 keep:=λi h h' st k=>k it (by simp) _ st
 item:=by
  intro X hP hw hK hc i pins s σ H E I hf st hg;subst hP hw hK;obtain⟨f0,f1,f2,f3,f4,f5⟩:=hf it (by simp);have W:=Walks.range (prog:=X.prog) (w:=X.w) (I.ok.hd hc) it lo 1 n;refine W.item i s _ _ hg st λv h' tk hv st' kk=>?_
  obtain⟨t,rfl⟩:=hv;have I1:Inv X pins σ H {s with heap:=h',toks:=tk}:=I.turned (λb o hb e=>kk b o (by simpa using hb) e) f0 f1 f3 f4 f5;refine⟨_,rfl,FQ (s:={s with heap:=h',toks:=tk}) (n:="range_iterator") st' rfl rfl (by decide) ⟨.int (lo+i),H,I1,⟨t,?_⟩,⟨rfl,rfl⟩,st',λb hb=>(hf b hb).1⟩⟩;rw[xI]
 done:=by
  intro X hP hw hK hc i pins s σ H E I hf st hg;subst hP hw hK;obtain⟨f0,f1,f2,f3,f4,f5⟩:=hf it (by simp);exact wpAny_pyNext_range_end (I.ok.hd hc) st (by have:n<=i:=hg;lia) λh' eb=>⟨rfl,I.turned (t':=s.toks) (λb o hb e=>eb b o hb e) f0 f1 f3 f4 f5⟩
 self:=λ_ _ _ _ _ st h=>wpAny_pyIter_rangeiter st h
section
variable{X:Cx}{tg:Expr}
variable{σ:St}{H:Hp}{fp:List we}
def B0(K:wb)(tl:TE):TI:=λσ H R=>tl σ H λx H1=>∃a,x=.ref a/\(∃xs,aO K H1 a xs)/\R (jg K a) H1
def MK(K:wb)(tl:TE):TI:=λσ H R=>tl σ H λx H1=>∃a,x=.ref a/\(∃xs,aU K H1 a xs)/\R (je K a) H1
theorem gI{l:Expr}{tl:TE}(hl:PE X l tl):PI X tg l (B0 X.K tl):=by
 intro pins s σ H R I h;refine aK (hl pins s σ H _ I h) λv s1 ⟨x,H1,I1,r1,q1⟩=>?_
 obtain⟨a,e,⟨xs,hq⟩,q⟩:=q1;subst e;cases r1;obtain⟨its,rv,p,hz⟩:=I1.list hq;refine qz p.isList ?_;refine⟨s1.heap.objs.size,[s1.heap.objs.size],_,_,H1,rfl,I1.kept (t':=s1.toks) λb o e=>wn _ e,Yq a _,⟨_,wN _ rfl,rfl,rfl⟩,λb hb=>?_,q⟩;have e:b=s1.heap.objs.size:=by simpa using hb
 subst e;exact I1.jM (wo _) (I1.aI.fresh (wo _))
theorem j7{l:Expr}{tl:TE}(hl:PE X l tl):PI X tg l (MK X.K tl):=by
 intro pins s σ H R I h;refine aK (hl pins s σ H _ I h) λv s1 ⟨x,H1,I1,r1,q1⟩=>?_
 obtain⟨a,e,⟨xs,hq⟩,q⟩:=q1;subst e;cases r1;obtain⟨its,rv,p,hz⟩:=I1.tuple hq;refine Vc (show s1.heap.IsTuple a its.toArray from p) ?_;refine⟨s1.heap.objs.size,[s1.heap.objs.size],_,_,H1,rfl,I1.kept (t':=s1.toks) λb o e=>wn _ e,N7 a _,⟨_,wN _ rfl,rfl,rfl⟩,λb hb=>?_,q⟩;have e:b=s1.heap.objs.size:=by simpa using hb
 subst e;exact I1.jM (wo _) (I1.aI.fresh (wo _))
theorem Mk{pins:List (we × Obj)}{s:wl}{R:It->Hp->Prop}{E:wg->wl->Prop}{lo hi:Int}{t u v:Tok}{tk:Nat}(I:Inv X pins σ H s)(h1 : -(2^62)<=lo)(h2:lo<2^62)(h3 : -(2^62)<=hi)(h4:hi<2^62)
  (q:R (gG lo (hi-lo).toNat) H):wx (model X.prog X.w) X.A (pyIter (.ref s.heap.objs.size)) (Cg X pins σ tg R) E {s with heap:=s.heap.push {cls:=.type "range",data:=.fields #[.int lo t,.int hi u,.int 1 v]},toks:=tk}:=by
 refine wpAny_pyIter_range (Uu ..) (small_one h1 h2 h3 h4) ?_;have I1:Inv X pins σ H {s with heap:=s.heap.push {cls:=.type "range",data:=.fields #[.int lo t,.int hi u,.int 1 v]},toks:=tk}:=I.kept λb o e=>wn _ e
 refine⟨(s.heap.push {cls:=.type "range",data:=.fields #[.int lo t,.int hi u,.int 1 v]}).objs.size,[(s.heap.push {cls:=.type "range",data:=.fields #[.int lo t,.int hi u,.int 1 v]}).objs.size],_,_,H,rfl,
  I1.kept (t':=tk) λb o e=>wn _ e,zuO _ lo (hi-lo).toNat,?_,λb hb=>?_,q⟩
 ·have e1:lo+((0:Nat):Int)*1=lo:=by simp
  have e2:(((hi-lo).toNat:Nat):Int)-((0:Nat):Int)=Ut lo hi 1:=by rw[rangeSize_one];split<;>lia
  show IsRangeIter _ _ (lo+((0:Nat):Int)*1) ((((hi-lo).toNat:Nat):Int)-((0:Nat):Int)) 1
  rw[e1,e2];exact wN _ rfl
 ·have e:b=(s.heap.push {cls:=.type "range",data:=.fields #[.int lo t,.int hi u,.int 1 v]}).objs.size:=by simpa using hb
  subst e;exact I1.jM (wo _) (I1.aI.fresh (wo _))
def En(ta:TA):TI:=λσ H R=>ta σ H λvs H1=>∃j:Int,vs=[.int j] /\ -(2^62)<=j/\j<2^62/\R (gG 0 j.toNat) H1
def R1(ta:TA):TI:=λσ H R=>ta σ H λvs H1=>∃i j:Int,vs=[.int i,.int j]/\(-(2^62)<=i/\i<2^62 /\ -(2^62)<=j/\j<2^62)/\R (gG i (j-i).toNat) H1
theorem jR{a:Expr}{ta:TA}{p pos:Pos}(hg:Gl X "range")(hm:X.mg "range"=none)(ha:PA X [a] ta)(hs:w5 [a] X.env=[(false,eval a X.env)]:=by rfl):PI X tg (.Call (.Name "range" p) [a] [] pos) (En ta):=by
 intro pins s σ H R I h;refine Call_ (gP I hg hm boot_range (vB (aK (ha pos pins s σ H _ I h) λus s1 ⟨vs,H1,I1,r1,q1⟩=>?_) hs rfl));obtain⟨j,e,q1,q2,q⟩:=q1;subst e;cases r1 with
 | cons r rr =>
  cases rr;obtain⟨t,rfl⟩:=r;exact call_range_1 (Mk I1 (by lia) (by lia) q1 q2 (by simpa using q))
theorem zwC{a b:Expr}{ta:TA}{p pos:Pos}(hg:Gl X "range")(hm:X.mg "range"=none)(ha:PA X [a,b] ta)(hs:w5 [a,b] X.env=[(false,eval a X.env),(false,eval b X.env)]:=by rfl)(hs2:w5 [b] X.env=[(false,eval b X.env)]:=by rfl) :
  PI X tg (.Call (.Name "range" p) [a,b] [] pos) (R1 ta):=by
 intro pins s σ H R I h;refine Call_ (gP I hg hm boot_range (vB (aK (ha pos pins s σ H _ I h) λus s1 ⟨vs,H1,I1,r1,q1⟩=>?_) (by rw[hs,hs2]) (by rw[hs2];rfl)));obtain⟨i,j,e,⟨q1,q2,q3,q4⟩,q⟩:=q1;subst e;cases r1 with
 | cons r rr =>
  cases rr with
  | cons r' rr =>
   cases rr;obtain⟨t,rfl⟩:=r;obtain⟨t',rfl⟩:=r';exact call_range_2 (Mk I1 q1 q2 q3 q4 q)
def lW(wi:TI)(g:TG)(tb:TS):TS:=λD σ H=>wi σ H λJ H1=>∃W:Nat->Nat->St->Hp->Prop,(∃m,W 0 m σ H1) /\ ∀i m σ H,W i m σ H ->
 (J.stop i H/\D.nx σ H)\/(J.go i H /\ ∃N:St->Hp->Prop,(∀σ' H',N σ' H'->∃m',m'<m/\W (i+1) m' σ' H') /\ ∀x H',J.fD i H x H'->g x σ H' λσ2 H2=>tb {D with nx:=N,ct:=N,bk:=D.nx} σ2 H2)
def pV(fp:List we)(h:wG):List (we × Obj):=fp.filterMap λb=>(h.get? b).map λo=>(b,o)
theorem z8{h:wG}{b:we}{o:Obj}(hb:b∈fp)(e:h.get? b=some o):(b,o)∈pV fp h:=qV.mpr ⟨b,hb,by rw[e];rfl⟩
theorem zwA{h:wG}{p:we × Obj}(hp:p∈pV fp h):p.1∈fp/\h.get? p.1=some p.2:=by
 obtain⟨b,hb,e⟩:=qV.mp hp;cases q:h.get? b with
 | none=>rw[q]at e;cases e
 | some o =>
  rw[q]at e;have e':(b,o)=p:=wM e;subst e';exact⟨hb,q⟩
theorem Inv.pinned{pins:List (we × Obj)}{s:wl}(I:Inv X pins σ H s)(hf:∀b∈fp,eK X pins H b)(ho:∀b∈fp,∃o,s.heap.get? b=some o /\ ∀v,o.data≠.cell v):Inv X (pins++pV fp s.heap) σ H s :=
 I.JU λp hp=>(vX.mp hp).elim (λz=>I.pin p (Wc _ z)) λz=>by
  obtain⟨hb,e⟩:=zwA z;obtain⟨f0,f1,f2,_⟩:=hf p.1 hb;obtain⟨o,e',d⟩:=ho p.1 hb;rw[e]at e';cases e';exact⟨e,f0,f1,f2,d⟩
theorem Inv.sj{pins pl:List (we × Obj)}{s:wl}(I:Inv X (pins++pl) σ H s):Inv X pins σ H s:=I.JU λp hp=>I.pin p (Wc _ (VU _ hp))
theorem g6{iter:Expr}{body:List w9}{wi:TI}{g:TG}{tb:TS}{pos:Pos}(hp:PassesOwn (model X.prog X.w) X.A X.env X.xe)(hc:X.calm=true)(hi:PI X tg iter wi)(hg:PG X tg g)(hb:fL X body tb)
  (hs:∀x,foldedSetIterable iter X.env x=pure x:=by intro _;rfl):PS X (.For tg iter body [] pos) (lW wi g tb):=by
 intro pins s σ H D I h;refine wpAny_For (aK (hi pins s σ H _ I h) λv s1 h1=>aK h1 λitv s2 h2=>?_) hs;obtain⟨it,fp,tn,J,H2,e,I2,T,st2,f2,W,⟨m0,w0⟩,turn⟩:=h2;subst e
 have stat:∀{H':Hp},(∀b∈fp,H' b=none)->∀b∈fp,eK X pins H' b:=λhn b hb=>⟨hn b hb,(f2 b hb).2⟩
 refine codeAny_forLoop_any (λn s'=>∃i σ' H',Inv X pins σ' H' s'/\tn i s'.heap/\(∀b∈fp,H' b=none)/\W i n σ' H') ?_ m0 ⟨0,σ,H2,I2,st2,λb hb=>(f2 b hb).1,w0⟩;rintro n s3 ⟨i,σ3,H3,I3,st3,fr3,w3⟩;rcases turn i n σ3 H3 w3 with⟨stop,qn⟩ | ⟨go,N,hN,step⟩
 ·refine VG hp (aK (T.done X rfl rfl rfl hc i pins s3 σ3 H3 X.xe I3 (stat fr3) st3 stop) λr s4 ⟨hr,I4⟩=>?_)
  subst hr;exact qS ⟨σ3,H3,I4,qn⟩
 ·refine VG hp (aK (T.item X rfl rfl rfl hc i pins s3 σ3 H3 X.xe I3 (stat fr3) st3 go) λr s4 ⟨u,hr,h4⟩=>?_)
  subst hr;refine VG hp (aK h4 λ_ s5 ⟨x,H5,I5,r5,y5,st5,fr5⟩=>?_);have I5':=I5.pinned (stat fr5) (T.obj _ _ st5);refine VG hp (aK (hg _ s5 σ3 H5 x u _ I5' r5 (step x H5 y5)) λ_ s6 ⟨σ6,H6,I6,q6⟩=>?_);refine VG hp (aK (hb _ s6 σ6 H6 _ I6 q6) λf s7 q7=>?_)
  have again:∀{σ7:St}{H7:Hp},Inv X (pins++pV fp s5.heap) σ7 H7 s7->N σ7 H7->∃m,m<n /\ ∃i σ' H',Inv X pins σ' H' s7/\tn i s7.heap/\(∀b∈fp,H' b=none)/\W i m σ' H':=λ{σ7 H7} I7 n7=>by
   obtain⟨m',hm,w7⟩:=hN σ7 H7 n7;refine⟨m',hm,i+1,σ7,H7,I7.sj,T.keep _ _ _ st5 λb hb o e=>(I7.pin (b,o) (Wc _ (Wc _ (z8 hb e)))).1,λb hb=>?_,w7⟩;obtain⟨o,e,d⟩:=T.obj _ _ st5 b hb;exact(I7.pin (b,o) (Wc _ (Wc _ (z8 hb e)))).2.1
  cases f with
  | next=>obtain⟨σ7,H7,I7,n7⟩:=q7;exact again I7 n7
  | cont=>obtain⟨σ7,H7,I7,n7⟩:=q7;exact again I7 n7
  | brk=>obtain⟨σ7,H7,I7,q7⟩:=q7;exact⟨σ7,H7,I7.sj,q7⟩
  | ret v=>obtain⟨x7,σ7,H7,I7,r7,q7⟩:=q7;exact⟨x7,σ7,H7,I7.sj,r7,q7⟩
end
variable{tb:TS}{D:cv}{σ:St}{H:Hp}
theorem zzS{K:wb}{a:we}{xs:List V}{g:TG}(Pv:Nat->St->Hp->Prop)(h0:Pv 0 σ H)(hl:∀i σ H,i<=xs.length->Pv i σ H->aO K H a xs)
  (hs:∀i x σ H,xs[i]? = some x->Pv i σ H->g x σ H λσ2 H2=>tb {D with nx:=Pv (i+1),ct:=Pv (i+1),bk:=D.nx} σ2 H2) (hd:∀σ H,Pv xs.length σ H->D.nx σ H) :
  ∃W:Nat->Nat->St->Hp->Prop,(∃m,W 0 m σ H) /\ ∀i m σ H,W i m σ H ->
   ((jg K a).stop i H/\D.nx σ H)\/((jg K a).go i H /\ ∃N:St->Hp->Prop,(∀σ' H',N σ' H'->∃m',m'<m/\W (i+1) m' σ' H') /\ ∀x H',(jg K a).fD i H x H'->g x σ H' λσ2 H2=>tb {D with nx:=N,ct:=N,bk:=D.nx} σ2 H2):=by
 refine⟨λi m σ H=>m=xs.length-i/\i<=xs.length/\Pv i σ H,⟨xs.length,by simp,Wm _,h0⟩,?_⟩;rintro i m σ H ⟨rfl,hi,p⟩;have q:=hl i σ H hi p
 by_cases hlt:i<xs.length
 ·refine .inr ⟨⟨xs,xs[i],q,by simp[hlt]⟩,Pv (i+1),λσ' H' p'=>⟨xs.length-(i+1),by lia,rfl,hlt,p'⟩,λx H' y=>?_⟩
  obtain⟨e,y⟩:=y;subst e;exact hs i x σ _ (y xs q) p
 ·have e:i=xs.length:=by lia
  subst e;exact .inl ⟨⟨xs,q,wo _⟩,hd σ H p⟩
theorem zAw{K:wb}{a:we}{xs:List V}{g:TG}(Pv:Nat->St->Hp->Prop)(h0:Pv 0 σ H)(hl:∀i σ H,i<=xs.length->Pv i σ H->aU K H a xs)
  (hs:∀i x σ H,xs[i]? = some x->Pv i σ H->g x σ H λσ2 H2=>tb {D with nx:=Pv (i+1),ct:=Pv (i+1),bk:=D.nx} σ2 H2) (hd:∀σ H,Pv xs.length σ H->D.nx σ H) :
  ∃W:Nat->Nat->St->Hp->Prop,(∃m,W 0 m σ H) /\ ∀i m σ H,W i m σ H ->
   ((je K a).stop i H/\D.nx σ H)\/((je K a).go i H /\ ∃N:St->Hp->Prop,(∀σ' H',N σ' H'->∃m',m'<m/\W (i+1) m' σ' H') /\ ∀x H',(je K a).fD i H x H'->g x σ H' λσ2 H2=>tb {D with nx:=N,ct:=N,bk:=D.nx} σ2 H2):=by
 refine⟨λi m σ H=>m=xs.length-i/\i<=xs.length/\Pv i σ H,⟨xs.length,by simp,Wm _,h0⟩,?_⟩;rintro i m σ H ⟨rfl,hi,p⟩;have q:=hl i σ H hi p
 by_cases hlt:i<xs.length
 ·refine .inr ⟨⟨xs,xs[i],q,by simp[hlt]⟩,Pv (i+1),λσ' H' p'=>⟨xs.length-(i+1),by lia,rfl,hlt,p'⟩,λx H' y=>?_⟩
  obtain⟨e,y⟩:=y;subst e;exact hs i x σ _ (y xs q) p
 ·have e:i=xs.length:=by lia
  subst e;exact .inl ⟨⟨xs,q,wo _⟩,hd σ H p⟩
theorem Oe{lo:Int}{n:Nat}{g:TG}(Pv:Nat->St->Hp->Prop)(h0:Pv 0 σ H)
  (hs:∀i σ H,i<n->Pv i σ H->g (.int (lo+i)) σ H λσ2 H2=>tb {D with nx:=Pv (i+1),ct:=Pv (i+1),bk:=D.nx} σ2 H2) (hd:∀σ H,Pv n σ H->D.nx σ H) :
  ∃W:Nat->Nat->St->Hp->Prop,(∃m,W 0 m σ H) /\ ∀i m σ H,W i m σ H ->
   ((gG lo n).stop i H/\D.nx σ H)\/((gG lo n).go i H /\ ∃N:St->Hp->Prop,(∀σ' H',N σ' H'->∃m',m'<m/\W (i+1) m' σ' H') /\ ∀x H',(gG lo n).fD i H x H'->g x σ H' λσ2 H2=>tb {D with nx:=N,ct:=N,bk:=D.nx} σ2 H2):=by
 refine⟨λi m σ H=>m=n-i/\i<=n/\Pv i σ H,⟨n,by simp,Wm _,h0⟩,?_⟩;rintro i m σ H ⟨rfl,hi,p⟩
 by_cases hlt:i<n
 ·refine .inr ⟨hlt,Pv (i+1),λσ' H' p'=>⟨n-(i+1),by lia,rfl,hlt,p'⟩,λx H' y=>?_⟩
  obtain⟨e,y⟩:=y;subst e y;exact hs i σ _ hlt p
 ·have e:i=n:=by lia
  subst e;exact .inl ⟨wo _,hd σ H p⟩
abbrev R2:=V->V->Hp->VK->Prop
def aN(X:Cx)(f:wg->wg->Sem wg)(r:R2):Prop :=
 ∀(pins:List (we × Obj))(s:wl)(σ : St)(H:Hp)(x y:V)(v u:wg)(Q:VK),Inv X pins σ H s->bj x v->bj y u->r x y H Q ->
  wx (model X.prog X.w) X.A (f v u) (EP X pins σ Q) X.xe s
def Fc(X:Cx)(f:wg->Sem wg)(r:V->Hp->VK->Prop):Prop :=
 ∀(pins:List (we × Obj))(s:wl)(σ : St)(H:Hp)(x:V)(v:wg)(Q:VK),Inv X pins σ H s->bj x v->r x H Q ->
  wx (model X.prog X.w) X.A (f v) (EP X pins σ Q) X.xe s
def aJ(X:Cx)(f:wg)(r:List V->Hp->VK->Prop):Prop :=
 ∀(pins:List (we × Obj))(s:wl)(σ : St)(H:Hp)(xs:List V)(us:List wg)(Q:VK),Inv X pins σ H s->aT xs us->r xs H Q ->
  wx (model X.prog X.w) X.A (call f us) (EP X pins σ Q) X.xe s
def zEW(X:Cx)(r:V->Hp->(Bool->Hp->Prop)->Prop):Prop :=
 ∀(pins:List (we × Obj))(s:wl)(σ : St)(H:Hp)(x:V)(v:wg)(Q:Bool->Hp->Prop),Inv X pins σ H s->bj x v->r x H Q ->
  wx (model X.prog X.w) X.A (truthy v) (TP X pins σ Q) X.xe s
def lK(r:R2)(ta tb:TE):TE:=λσ H Q=>ta σ H λx H1=>tb σ H1 λy H2=>r x y H2 Q
def Lx(r:V->Hp->VK->Prop)(ta:TE):TE:=λσ H Q=>ta σ H λx H1=>r x H1 Q
def rI(C:Int->Int->Prop)(g:Int->Int->V):R2:=λx y H Q=>∃i j,x=.int i/\y=.int j/\C i j/\Q (g i j) H
def iL(g:Int->Int->V):R2:=λx y H Q=>∃i j,x=.int i/\y=.int j/\Q (g i j) H
def rU(g:Int->V):V->Hp->VK->Prop:=λx H Q=>∃i,x=.int i/\Q (g i) H
section
variable{X:Cx}{a b c:Expr}{ta tb tc:TE}{pos:Pos}
theorem EL(ha:PE X a ta)(hb:PE X b tb){pins:List (we × Obj)}{s:wl}{σ : St}{H:Hp}{R:V->V->Hp->Prop}(I:Inv X pins σ H s)
  (h:ta σ H λx H1=>tb σ H1 λy H2=>R x y H2) {Q:wg->wl->Prop} {f:wg->wg->Sem wg}
  (hf:∀v u s2 x y H2,Inv X pins σ H2 s2->bj x v->bj y u->R x y H2->wx (model X.prog X.w) X.A (f v u) Q X.xe s2) :
  wx (model X.prog X.w) X.A (eval a X.env) (λv s₁=>wx (model X.prog X.w) X.A (eval b X.env) (λu s₂=>wx (model X.prog X.w) X.A (f v u) Q X.xe s₂) X.xe s₁) X.xe s:=by
 refine aK (ha pins s σ H _ I h) λv s1 ⟨x,H1,I1,r1,q1⟩=>?_
 refine aK (hb pins s1 σ H1 _ I1 q1) λu s2 ⟨y,H2,I2,r2,q2⟩=>?_
 exact hf v u s2 x y H2 I2 r1 r2 q2
theorem aC{op:Operator}{r:R2}(ho:aN X (WC op) r)(ha:PE X a ta)(hb:PE X b tb):PE X (.BinOp a op b pos) (lK r ta tb):=by
 intro pins s σ H Q I h;exact wpAny_BinOp (EL ha hb I h λv u s2 x y H2 I2 rx ry q=>ho pins s2 σ H2 x y v u Q I2 rx ry q)
theorem gr{op:UnaryOp}{r:V->Hp->VK->Prop}(ho:Fc X (unaryOp op) r)(ha:PE X a ta):PE X (.UnaryOp op a pos) (Lx r ta):=by
 intro pins s σ H Q I h;exact UnaryOp_ (aK (ha pins s σ H _ I h) λv s1 ⟨x,H1,I1,r1,q1⟩=>ho pins s1 σ H1 x v Q I1 r1 q1)
theorem zt{f:wg->wg->Sem wg}{C:Int->Int->Prop}{g:Int->Int->Int}
  (rule:∀(i j:Int)(t u:Tok)(s:wl)(Q:wg->wl->Prop)(E:wg->wl->Prop),C i j->Q (.int (g i j) s.toks) {s with toks:=s.toks+1}->wx (model X.prog X.w) X.A (f (.int i t) (.int j u)) Q E s) :
  aN X f (rI C λi j=>.int (g i j)):=by
 intro pins s σ H x y v u Q I rx ry h;obtain⟨i,j,rfl,rfl,hc,q⟩:=h;obtain⟨t,rfl⟩:=rx;obtain⟨t',rfl⟩:=ry;exact rule i j t t' s _ _ hc ⟨.int (g i j),H,I.tok _,⟨_,rfl⟩,q⟩
theorem Nj{f:wg->wg->Sem wg}{g:Int->Int->Int}
  (rule:∀(i j:Int)(t u:Tok)(s:wl)(Q:wg->wl->Prop)(E:wg->wl->Prop),Q (.int (g i j) s.toks) {s with toks:=s.toks+1}->wx (model X.prog X.w) X.A (f (.int i t) (.int j u)) Q E s) :
  aN X f (iL λi j=>.int (g i j)):=by
 intro pins s σ H x y v u Q I rx ry h;obtain⟨i,j,rfl,rfl,q⟩:=h;obtain⟨t,rfl⟩:=rx;obtain⟨t',rfl⟩:=ry;exact rule i j t t' s _ _ ⟨.int (g i j),H,I.tok _,⟨_,rfl⟩,q⟩
theorem zH{f:wg->wg->Sem wg}{g:Int->Int->Bool}
  (rule:∀(i j:Int)(t u:Tok)(s:wl)(Q:wg->wl->Prop)(E:wg->wl->Prop),Q (.bool (g i j)) s->wx (model X.prog X.w) X.A (f (.int i t) (.int j u)) Q E s) :
  aN X f (iL λi j=>.bl (g i j)):=by
 intro pins s σ H x y v u Q I rx ry h;obtain⟨i,j,rfl,rfl,q⟩:=h;obtain⟨t,rfl⟩:=rx;obtain⟨t',rfl⟩:=ry;exact rule i j t t' s _ _ ⟨.bl (g i j),H,I,rfl,q⟩
def PR(i j:Int):Prop:=0<=j/\j<=1000000/\i.natAbs<2^64
theorem zDd:aN X (WC .Add) (iL λi j=>.int (i+j)):=Nj λ_ _ _ _ _ _ _ q=>add_int q
theorem jD:aN X (WC .Sub) (iL λi j=>.int (i-j)):=Nj λ_ _ _ _ _ _ _ q=>sub_int q
theorem gW:aN X (WC .Mod) (rI (λ_ j=>0<j) λi j=>.int (i % j)):=zt λi j _ _ _ _ _ hc q=>by
 have h1:(0:Int)<j:=hc;exact mod_int' (by lia) (by rw[Int.fmod_eq_emod_of_nonneg i (by lia)];exact q)
theorem zDC:aN X (WC .Pow) (rI PR λi j=>.int (i^j.toNat)):=zt λ_ _ _ _ _ _ _ hc q=>pow_int_small hc.1 hc.2.1 hc.2.2 q
theorem unI{f:wg->Sem wg}{g:Int->Int}
  (rule:∀(i:Int)(t:Tok)(s:wl)(Q:wg->wl->Prop)(E:wg->wl->Prop),Q (.int (g i) s.toks) {s with toks:=s.toks+1}->wx (model X.prog X.w) X.A (f (.int i t)) Q E s) :
  Fc X f (rU λi=>.int (g i)):=by
 intro pins s σ H x v Q I rx h;obtain⟨i,rfl,q⟩:=h;obtain⟨t,rfl⟩:=rx;exact rule i t s _ _ ⟨.int (g i),H,I.tok _,⟨_,rfl⟩,q⟩
theorem gH:Fc X (unaryOp .USub) (rU λi=>.int (-i)):=unI λ_ _ _ _ _ q=>neg_int q
end
section
variable{X:Cx}{a b c:Expr}{ta tb tc:TE}{pos:Pos}
variable{r r':R2}{op:CmpOp}
theorem zT{pins:List (we × Obj)}{σ : St}{H:Hp}{s:wl}{Q:VK}{k k':Bool}(I:Inv X pins σ H s)(q:Q (.bl k) H)(e:k=k'):EP X pins σ Q (.bool k') s:=by
 subst e;exact⟨.bl k,H,I,rfl,q⟩
theorem mW :aN X (wT .Lt) (iL λi j=>.bl (decide (i<j))):=zH λ_ _ _ _ _ _ _ q=>lt_int q
theorem j5 :aN X (wT .LtE) (iL λi j=>.bl (decide (i<=j))):=zH λ_ _ _ _ _ _ _ q=>le_int q
theorem oy :aN X (wT .Gt) (iL λi j=>.bl (decide (j<i))):=zH λ_ _ _ _ _ _ _ q=>gt_int q
theorem C1 :aN X (wT .GtE) (iL λi j=>.bl (decide (j<=i))):=zH λ_ _ _ _ _ _ _ q=>ge_int q
theorem zC2 :aN X (wT .Is) (λx y H Q=>y=.a_/\Q (.bl (decide (x=.a_))) H):=by
 intro pins s σ H x y v u Q I rx ry h;obtain⟨rfl,q⟩:=h;cases ry;refine is_none_gen (zT I q ?_)
 cases x<;>first
  | (cases rx;rfl)
  | (obtain⟨t,rfl⟩:=rx;rfl)
theorem zAv :aN X (wT .IsNot) (λx y H Q=>y=.a_/\Q (.bl (!decide (x=.a_))) H):=by
 intro pins s σ H x y v u Q I rx ry h;obtain⟨rfl,q⟩:=h;cases ry;refine isnot_none_gen (zT I q ?_)
 cases x<;>first
  | (cases rx;rfl)
  | (obtain⟨t,rfl⟩:=rx;rfl)
theorem aN.or{f:wg->wg->Sem wg}(h:aN X f r)(h':aN X f r'):aN X f (λx y H Q=>r x y H Q\/r' x y H Q):=by
 intro pins s σ H x y v u Q I rx ry q;rcases q with q | q
 ·exact h pins s σ H x y v u Q I rx ry q
 ·exact h' pins s σ H x y v u Q I rx ry q
theorem bC(b:Expr)(h:op≠.In:=by decide)(h2:op≠.NotIn:=by decide):behindInMarks op b=false:=by
 have e1:(op == CmpOp.In)=false:=by cases op<;>first | rfl | exact absurd rfl h
 have e2:(op == CmpOp.NotIn)=false:=by cases op<;>first | rfl | exact absurd rfl h2
 cases b<;>simp[behindInMarks,e1,e2]
theorem e_(ho:aN X (wT op) r)(ha:PE X a ta)(hb:PE X b tb)(hm:behindInMarks op b=false):PE X (.Compare a [op] [b] pos) (lK r ta tb):=by
 intro pins s σ H Q I h;exact wpAny_Compare1 (EL ha hb I h λv u s2 x y H2 I2 rx ry q=>ho pins s2 σ H2 x y v u Q I2 rx ry q) hm
def BB(t:TE):TT:=λσ H Q=>t σ H λx H'=>∃k,x=.bl k/\Q k H'
theorem bZ(ho:aN X (wT op) r)(ha:PE X a ta)(hb:PE X b tb)(hm:behindInMarks op b=false):PT X (.Compare a [op] [b] pos) (BB (lK r ta tb)):=by
 intro pins s σ H Q I h
 refine wpAny_isTrue_Compare1 (aK (ha pins s σ H _ I h) λv s1 ⟨x,H1,I1,r1,q1⟩=>aK (hb pins s1 σ H1 _ I1 q1) λu s2 ⟨y,H2,I2,r2,q2⟩ =>
  aK (ho pins s2 σ H2 x y v u _ I2 r1 r2 q2) λc s3 ⟨z,H3,I3,r3,k,e,q3⟩=>?_) hm
 subst e;cases r3;exact Wo ⟨H3,I3,q3⟩
def Bg(r r':R2)(ta tb tc:TE):TE:=λσ H Q=>ta σ H λx H1=>tb σ H1 λy H2=>r x y H2 λz H3=>∃k,z=.bl k /\
 (if k=true then tc σ H3 λw' H4=>r' y w' H4 Q else Q (.bl false) H3)
theorem Sf{op':CmpOp}(ho:aN X (wT op) r)(ho':aN X (wT op') r')(ha:PE X a ta)(hb:PE X b tb)(hc:PE X c tc)
  (hm:lastMarks [op,op'] [b,c]=false:=by with_unfolding_all rfl):PE X (.Compare a [op,op'] [b,c] pos) (Bg r r' ta tb tc):=by
 intro pins s σ H Q I h
 refine Compare_chain (aK (ha pins s σ H _ I h) λv s1 ⟨x,H1,I1,r1,q1⟩=>chain_link (aK (hb pins s1 σ H1 _ I1 q1) λu s2 ⟨y,H2,I2,r2,q2⟩ =>
  aK (ho pins s2 σ H2 x y v u _ I2 r1 r2 q2) λd s3 ⟨z,H3,I3,r3,k,e,q3⟩=>?_)) hm
 subst e;cases r3;refine Wo ?_;cases k with
 | false=>exact ite_ff ⟨.bl false,H3,I3,rfl,q3⟩
 | true=>exact ite_tt (chain_last (aK (hc pins s3 σ H3 _ I3 q3) λw' s4 ⟨z',H4,I4,r4,q4⟩=>ho' pins s4 σ H4 y z' u w' Q I4 r2 r4 q4))
theorem zya{op':CmpOp}(ho:aN X (wT op) r)(ho':aN X (wT op') r')(ha:PE X a ta)(hb:PE X b tb)(hc:PE X c tc)
  (hm:lastMarks [op,op'] [b,c]=false:=by with_unfolding_all rfl):PT X (.Compare a [op,op'] [b,c] pos) (BB (Bg r r' ta tb tc)):=by
 intro pins s σ H Q I h
 refine isTrue_chain (aK (ha pins s σ H _ I h) λv s1 ⟨x,H1,I1,r1,q1⟩=>test_link (aK (hb pins s1 σ H1 _ I1 q1) λu s2 ⟨y,H2,I2,r2,q2⟩ =>
  aK (ho pins s2 σ H2 x y v u _ I2 r1 r2 q2) λd s3 ⟨z,H3,I3,r3,k,e,q3⟩=>?_)) hm
 subst e;cases r3;refine Wo ?_;cases k with
 | false =>
  obtain⟨k',e',q'⟩:=q3;cases e';exact ite_ff ⟨H3,I3,q'⟩
 | true =>
  refine ite_tt (test_last (aK (hc pins s3 σ H3 _ I3 q3) λw' s4 ⟨z',H4,I4,r4,q4⟩=>aK (ho' pins s4 σ H4 y z' u w' _ I4 r2 r4 q4) λd' s5 ⟨z2,H5,I5,r5,k2,e2,q5⟩=>?_));subst e2;cases r5;exact Wo ⟨H5,I5,q5⟩
def Be(K:wb)(x:V)(H:Hp)(k:Bool):Prop :=
 match x with
 | .a_=>k=false
 | .bl b=>k=b
 | .int i=>k=(i != 0)
 | .str y=>y.length<=w8/\k=((y.length:Int) != 0)
 | .byt y=>y.size<=w8/\k=((y.size:Int) != 0)
 | .ref p=>(∃xs,aO K H p xs/\k = !xs.isEmpty)\/(∃xs,aU K H p xs/\k = !xs.isEmpty) \/ ∃kvs,H p=some (.dK kvs)/\k = !kvs.isEmpty
 | _=>False
theorem ztQ{κ : Type}{kvs:List (κ × V)}{vs:List (κ × wg)}(r:KV kvs vs):(!vs.isEmpty) = !kvs.isEmpty:=by
 cases r<;>rfl
theorem LZ{xs:List V}{its:List wg}(r:aT xs its):(!its.toArray.isEmpty) = !xs.isEmpty:=by
 cases r<;>simp
theorem nj :(w8:Nat)<2^63:=by rw[Vw];decide
theorem zCI :zEW X (λx H Q=>∃k,Be X.K x H k/\Q k H):=by
 intro pins s σ H x v Q I rx h;obtain⟨k,e,q⟩:=h;have hl:=nj;have hs:w8=16777216:=Vw;cases x with
 | a_ =>
  cases rx;have e':k=false:=e;subst e';exact truthy_none ⟨H,I,q⟩
 | bl b =>
  cases rx;have e':k=b:=e;subst e';exact Wo ⟨H,I,q⟩
 | int i =>
  obtain⟨t,rfl⟩:=rx;have e':k=(i != 0):=e;subst e';exact PySem.P.truthy_int ⟨H,I,q⟩
 | str y =>
  obtain⟨t,rfl⟩:=rx;obtain⟨hy,e'⟩:y.length<=w8/\k=((y.length:Int) != 0):=e;subst e';exact PySem.P.truthy_str (by lia) ⟨H,I.tok _,q⟩
 | byt y =>
  obtain⟨t,rfl⟩:=rx;obtain⟨hy,e'⟩:y.size<=w8/\k=((y.size:Int) != 0):=e;subst e';exact PySem.W.truthy_bytes (by lia) ⟨H,I.tok _,q⟩
 | ref p =>
  cases rx;have e':(∃xs,aO X.K H p xs/\k = !xs.isEmpty)\/(∃xs,aU X.K H p xs/\k = !xs.isEmpty) \/ ∃kvs,H p=some (.dK kvs)/\k = !kvs.isEmpty:=e;rcases e' with⟨xs,hx,e'⟩ | ⟨xs,hx,e'⟩ | ⟨kvs,hx,e'⟩
  ·subst e'
   obtain⟨its,r,pl,hz⟩:=I.list hx;have hlen:=r.length;exact wpAny_truthy_list pl.isList (by simp only[wO];lia) ⟨H,I.tok _,by rw[LZ r];exact q⟩
  ·subst e'
   obtain⟨its,r,pl,hz⟩:=I.tuple hx;have hlen:=r.length;exact truthy_tuple pl (by simp only[wO];lia) ⟨H,I.tok _,by rw[LZ r];exact q⟩
  ·subst e'
   obtain⟨hz,hS,vs,r,m⟩:kvs.length<=w8/\(p == sysModules)=false /\ ∃vs,KV kvs vs/\s.heap.DictOf (Eo X.prog X.w) p vs:=I.aI p _ hx;have hlen:kvs.length=vs.length:=Uc r;exact wpAny_truthy_dict hS m (by lia) ⟨H,I.tok _,by rw[ztQ r];exact q⟩
 | _=>exact(show False from e).elim
theorem zyN(ha:PE X a ta)(he:∀whole,isTrue a X.env whole=(do let v <- whole;standAt a.pos;holding [v] (truthy v))) :
  PT X a (λσ H Q=>ta σ H λx H'=>∃k,Be X.K x H' k/\Q k H'):=by
 intro pins s σ H Q I h;exact isTrue_plain (aK (ha pins s σ H _ I h) λv s1 ⟨x,H1,I1,r1,q1⟩=>zCI pins s1 σ H1 x v Q I1 r1 q1) (he _)
theorem ztz :aN X (WC .Add) (λx y H Q=>∃i j,x=.str i/\y=.str j/\i.length+j.length<=w8/\Q (.str (i++j)) H):=by
 intro pins s σ H x y v u Q I rx ry h;obtain⟨i,j,rfl,rfl,hz,q⟩:=h;obtain⟨t,rfl⟩:=rx;obtain⟨t',rfl⟩:=ry;exact add_str (λt' tk=>⟨.str (i++j),H,I.tok _,⟨_,rfl⟩,q⟩) hz
theorem gK{x:V}{us:List wg}(r:aT [x] us):∃u,us=[u]/\bj x u:=by
 cases r with
 | cons r1 r2=>cases r2;exact⟨_,rfl,r1⟩
theorem lF{x y:V}{us:List wg}(r:aT [x,y] us):∃u w',us=[u,w']/\bj x u/\bj y w':=by
 cases r with
 | cons r1 r2 =>
  cases r2 with
  | cons r3 r4=>cases r4;exact⟨_,_,rfl,r1,r3⟩
theorem zxU :aJ X (.builtin "abs") (λxs H Q=>∃i,xs=[.int i]/\Q (.int (if i<0 then -i else i)) H):=by
 intro pins s σ H xs us Q I r h;obtain⟨i,rfl,q⟩:=h;obtain⟨u,rfl,t,rfl⟩:=gK r;exact call_abs_int λu tk=>⟨.int (if i<0 then -i else i),H,I.tok _,⟨_,rfl⟩,q⟩
theorem ZD(hc:X.calm=true):aJ X (.builtin "min") (λxs H Q=>∃i j,xs=[.int i,.int j]/\Q (.int (if j<i then j else i)) H):=by
 intro pins s σ H xs us Q I r h;obtain⟨i,j,rfl,q⟩:=h;obtain⟨u,w',rfl,⟨t,rfl⟩,⟨t',rfl⟩⟩:=lF r;refine min_two_ints (I.ok.hd hc) λh' tk k=>⟨_,H,I.kept k,?_,q⟩
 by_cases hj:j<i
 ·rw[if_pos hj,if_pos hj];exact⟨_,rfl⟩
 ·rw[if_neg hj,if_neg hj];exact⟨_,rfl⟩
end
section
variable{prog:wI}{w:wJ}{A:vb}{E:wg->wl->Prop}{s:wl}{K:wb}{x dx C f:we}{mA:Str->Option wg}{name:Str}{v:wg}
end
section
variable{P:wI}{w:wJ}{H H':Hp}{h h':wG}{a C dx:we}{fs fs':List (Str × V)}
end
section
variable{X:Cx}{pins:List (we × Obj)}{σ : St}{H:Hp}{s:wl}{a C dx:we}{fs:List (Str × V)}{f:Str}{v:V}{A:vb}{E:wg->wl->Prop}
end
section
variable{X:Cx}{o e value:Expr}{f:Str}{pos pos' tpos:Pos}{ta tv:TE}
end
section
variable{X:Cx}{pins:List (we × Obj)}{σ : St}{H:Hp}{s:wl}{A:vb}{E:wg->wl->Prop}{Q:wg->wl->Prop}{c:wg}{b:Bool}
end
variable{k:Nat}{A:vb}
structure eA(k:Nat)(A:vb):Prop where
 hd:A.handled=none
 dp:A.depth+3*k+5<recursionLimit
 un:A.units+16*k+200<WD
 gd:A.guards=some []
theorem eA.mono{j:Nat}(r:eA k A)(h:j<=k):eA j A:=⟨r.hd,by have:=r.dp;lia,by have:=r.un;lia,by first | exact r.gd | (simp[Uq,Code.guards,Ur,guardIds];exact r.gd)⟩
theorem eA.deeper(r:eA (k+1) A)(env:Env):eA k (A.deeper env) :=
 ⟨r.hd,by have:=r.dp;show A.depth+1+3*k+5<_;lia,by have:=r.un;show A.units+3+16*k+200<_;lia,by first | exact r.gd | (simp[Uq,Code.guards,Ur,guardIds];exact r.gd)⟩
theorem eA.depth(r:eA k A):A.depth<recursionLimit:=by have:=r.dp;lia
theorem eA.units(r:eA k A):A.units+64<WD:=by have:=r.un;lia
def y_:TA:=λ_ H Q=>Q [] H
def yU(ta:TE)(tr:TA):TA:=λσ H Q=>ta σ H λx H1=>tr σ H1 λxs H2=>Q (x::xs) H2
section
variable{X:Cx}{e:Expr}{es:List Expr}{te:TE}{t:TA}{pos:Pos}
theorem af:PA X [] y_:=λ_ _ _ _ H Q I h=>Q8 ⟨[],H,I,.nil,h⟩
theorem ae(ha:PE X e te)(hr:PA X es t)(hs:w5 (e::es) X.env=(false,eval e X.env)::w5 es X.env:=by rfl):PA X (e::es) (yU te t):=by
 intro pos pins s σ H Q I h;rw[hs]
 show wx _ _ (spliced ((false,eval e X.env)::backTo pos (w5 es X.env))) _ _ s
 refine QY (aK (ha pins s σ H _ I h) λu s1 ⟨x,H1,I1,r1,q1⟩=>?_);exact aK (hr pos pins s1 σ H1 _ I1 q1) λus s2 ⟨xs,H2,I2,r2,q2⟩=>⟨x::xs,H2,I2,.cons r1 r2,q2⟩
def zEY(t:TA):TE:=λσ H Q=>t σ H λxs H1=>xs.length<=w8 /\ ∀p,H1 p=none->Q (.ref p) (upd H1 p (.tup xs))
def zEZ(t:TA):TE:=λσ H Q=>t σ H λxs H1=>xs.length<=w8 /\ ∀p,H1 p=none->Q (.ref p) (upd H1 p (.lst xs))
theorem zDO{x1}(h:PA X es t):PE X (.Tuple es x1 pos) (zEY t):=by
 intro pins s σ H Q I hq;refine wpAny_Tuple_spliced (aK (h pos pins s σ H _ I hq) λus s1 ⟨xs,H1,I1,r,z,q⟩=>⟨by rw[<- r.length];exact z,?_⟩);have hf:H1 s1.heap.objs.size=none:=I1.aI.fresh (wo _);refine⟨.ref s1.heap.objs.size,upd H1 s1.heap.objs.size (.tup xs),I1.laid (t':=s1.toks) (λb u e=>wn _ e) (wo _) ?_,rfl,q _ hf⟩;exact⟨z,us,r,⟨_,wN _ rfl,rfl,_,rfl⟩⟩
theorem zDe(h:PA X es t):PE X (.List es pos) (zEZ t):=by
 intro pins s σ H Q I hq;refine wpAny_List_spliced (aK (h pos pins s σ H _ I hq) λus s1 ⟨xs,H1,I1,r,z,q⟩=>⟨by rw[<- r.length];exact z,?_⟩);have hf:H1 s1.heap.objs.size=none:=I1.aI.fresh (wo _);refine⟨.ref s1.heap.objs.size,upd H1 s1.heap.objs.size (.lst xs),I1.laid (t':=s1.toks) (λb u e=>wn _ e) (wo _) ?_,rfl,q _ hf⟩;exact⟨z,us,0,r,wN _ rfl⟩
end
abbrev Sp:=List V->Hp->VK->XK->Prop
abbrev gf:=List Env->Hp->wl->XK->wg->wl->Prop
structure Ax(P:wI)(w:wJ)(K:wb)(mg:Str->Option wg)(base:wG)(A:vb)(outer:List Env)(s:wl)(H:Hp):Prop where
 frames:A.frames=some outer
 mod:Mod K mg base
 bs:∀b o,base.get? b=some o->s.heap.get? b=some o/\H b=none
 iX:base.objs.size<=s.heap.objs.size
 fh:s.heap.FunFrames base outer
 jr:∀b∈dX outer,H b=none
 aI:dB P w H s.heap
 bare:AllBare s.gens
def CE(outer:List Env)(P:wI)(w:wJ)(H:Hp)(s:wl)(Q:VK)(u:wg)(s':wl):Prop :=
 ∃v H',s'.os=s.os/\AllBare s'.gens/\Un (dX outer) [] H H' s.heap s'.heap/\dB P w H' s'.heap/\bj v u/\Q v H'
def CR(CX:gf)(outer:List Env)(P:wI)(w:wJ)(H:Hp)(s:wl)(Q:VK)(E:XK)(r:Result)(s':wl):Prop :=
 match r with
 | .ok (.ret u)=>CE outer P w H s Q u s'
 | .ok _=>False
 | .error e=>CX outer H s E e s'
structure aG(P:wI)(w:wJ)(K:wb)(mg:Str->Option wg)(base:wG)(CX:gf)(k:Nat)(f:we)(fd:wE)(ps:List Str)(sp:Sp):Prop where
 len:∀vs H Q E,sp vs H Q E->vs.length=ps.length
 run:∀(A:vb)(outer:List Env)(s:wl)(H:Hp)(args:Args)(us:List wg)(vs:List V)(Q:VK)(E:XK),eA k A->Ax P w K mg base A outer s H->BindsTo s fd args (ps.zip us)->aT vs us->sp vs H Q E ->
   codeAny (model P w) A (.call (.ref f) args) (CR CX outer P w H s Q E) s
section
variable{X:Cx}{pins:List (we × Obj)}{σ : St}{H:Hp}{s s':wl}
theorem Inv.Kk(I:Inv X pins σ H s):Ax X.prog X.w X.K X.mg X.base X.A X.stack s H :=
 ⟨I.ok.frames,I.ok.mod,I.bs,Wa I.ok.iX I.sz,I.stack,I.sr,I.aI,I.bare⟩
theorem Inv.after{Q:VK}{u:wg}(I:Inv X pins σ H s)(h:CE X.stack X.prog X.w H s Q u s'):EP X pins σ Q u s':=by
 obtain⟨v,H',os,bare,un,aI,r,q⟩:=h;obtain⟨hh,g,d,t,os'⟩:=s';obtain rfl:os'=s.os:=os;exact⟨v,H',I.call (h':=hh) (g':=g) (d':=d) (t':=t) (ch:=[]) un aI bare (λb z=>absurd z (by simp)),r,q⟩
end
def pX(sp:Sp)(dvs:List V)(E:XK)(t:TA):TE:=λσ H Q=>t σ H λvs H1=>sp (vs++dvs) H1 Q E
def lT(K:wb)(fd:wE)(ps:List Str)(ds:List wg):Prop :=
 ∀(s:wl)(us:List wg),K.In s.heap->(us++ds).length=ps.length->BindsTo s fd ⟨us,[]⟩ (ps.zip (us++ds))
theorem lT.all{K:wb}{fd:wE}{ps:List Str}(h:∀us:List wg,us.length=ps.length->bindArgs fd ⟨us,[]⟩=pure (ps.zip us)):lT K fd ps []:=λs us _ hl=>by
 rw[Wh]at hl ⊢;exact .of_eq (h us hl)
def ng(CX:gf)(X:Cx)(E:XK):Prop:=∀(pins:List (we × Obj))(σ : St)(H:Hp)(s:wl)(e:wg)(s':wl),Inv X pins σ H s->CX X.stack H s E e s'->X.xe e s'
section
variable{X:Cx}{CX:gf}{k:Nat}{f C:we}{fd:wE}{ps:List Str}{sp:Sp}{dvs:List V}{ds:List wg}{E:XK}{x m:Str}{p pos apos:Pos}{e o:Expr}{es:List Expr}{ta:TE}{t:TA}
theorem zCF{pins:List (we × Obj)}{σ : St}{H:Hp}{s:wl}{Q:VK}{us:List wg}{vs:List V}(F:aG X.prog X.w X.K X.mg X.base CX k f fd ps sp)(hr:eA k X.A)(hb:lT X.K fd ps ds)(hd:aT dvs ds)(hx:ng CX X E)
  (I:Inv X pins σ H s) (r:aT vs us) (h:sp (vs++dvs) H Q E):wx (model X.prog X.w) X.A (call (.ref f) us) (EP X pins σ Q) X.xe s:=by
 have r2:aT (vs++dvs) (us++ds):=r.append hd;have hl:(us++ds).length=ps.length:=by rw[<- r2.length];exact F.len _ _ _ _ h
 refine wpAny_call (codeAny_mono (F.run X.A X.stack s H ⟨us,[]⟩ (us++ds) (vs++dvs) Q E hr I.Kk (hb s us I.dS hl) r2 h) λr s' hq=>?_);cases r with
 | error e=>exact hx pins σ H s e s' I hq
 | ok fl =>
  cases fl with
  | ret u=>exact I.after hq
  | next=>exact W1 hq
  | brk=>exact W1 hq
  | cont=>exact W1 hq
theorem Tz(F:aG X.prog X.w X.K X.mg X.base CX k f fd ps sp)(hr:eA k X.A)(hg:Gl X x)(hm:X.mg x=some (.ref f))(hk:Qh X.K (.ref f)=true)(hb:lT X.K fd ps ds)(hd:aT dvs ds)(hx:ng CX X E)
  (ha:PA X (e::es) t) (hdb:(x == ("__debug__" : Str))=false:=by decide) (he:w5 (e::es) X.env=(false,eval e X.env)::w5 es X.env:=by rfl) (hpl:(backTo pos (w5 es X.env)).any (·.1)=false:=by rfl) :
  PE X (.Call (.Name x p) (e::es) [] pos) (pX sp dvs E t):=by
 intro pins s σ H Q I h;refine Qg (rP I hg hm ?_ hdb);refine XD (h₀:=X.base) I.ok.mod.pL hk (aK (ha pos pins s σ H _ I h) λus s1 ⟨vs,H1,I1,r,q⟩=>⟨I1.dS,?_⟩) he hpl;exact zCF F hr hb hd hx I1 r q
end
section
variable{X:Cx}{CX:gf}{k:Nat}{f C:we}{fd:wE}{ps ks:List Str}{sp:Sp}{E:XK}{x m:Str}{p pos apos kpos:Pos}{e o:Expr}{es:List Expr}{kws:List Keyword}{te ta:TE}{t tk:TA}{nm:Option Str}
variable{g:List wg->List wg->List wg}{gV:List V->List V->List V}
end
variable{base:wG}{qual:Str}
structure aQ(N P:List Str)(sc:Scope):Prop where
 kind:sc.kind=.function
 co:sc.isCoroutine=false
 gen:sc.isGenerator=false
 nd:N.Nodup
 pre:N.take P.length=P
 par:∀x∈P,sc.names.lookup x=some .local\/sc.names.lookup x=some .cell
 Y3:∀y∈sc.names,y.2≠.free
theorem Tp{kindOf:Str->Option W6}{x:Str} : ∀{binds:List (Str × wg)}{m:Str->Option wg},(∀v,(x,v) ∉ binds)->bindL kindOf binds m x=m x
 | [],_,_=>rfl
 | (n,v)::r,m,h=>by
  unfold bindL;rw[Tp λw hw=>h w (wy _ hw)]
  split
  ·have:x≠n:=by rintro rfl;exact h v wz
   simp[this]
  ·rfl
theorem Pt{kindOf:Str->Option W6}{x:Str} : ∀{binds:List (Str × wg)}{m:Str->Option wg},(∀v,(x,v) ∉ binds)->bindC kindOf binds m x=m x
 | [],_,_=>rfl
 | (n,v)::r,m,h=>by
  unfold bindC;rw[Pt λw hw=>h w (wy _ hw)]
  split
  ·rfl
  ·have:x≠n:=by rintro rfl;exact h v wz
   simp[this]
theorem NJ{kindOf:Str->Option W6}{x:Str}{v:wg} : ∀{P:List Str}{vs:List wg}{i:Nat}{m:Str->Option wg},P.Nodup->P[i]? = some x->vs[i]? = some v->kindOf x=some .local ->
  bindL kindOf (P.zip vs) m x=some v
 | [],_,_,_,_,h,_,_=>by simp at h
 | _::_,[],_,_,_,_,h,_=>by simp at h
 | p::P,w::vs,0,m,nd,h1,h2,hk=>by
  simp at h1 h2;subst h1;subst h2
  show bindL kindOf ((p,w)::P.zip vs) m p=_
  unfold bindL;rw[Tp λv hv=>(WW.mp nd).1 (xz hv).1,if_pos hk];simp
 | p::P,w::vs,i+1,m,nd,h1,h2,hk=>by
  show bindL kindOf ((p,w)::P.zip vs) m x=_
  unfold bindL;exact NJ (i:=i) (WW.mp nd).2 (by simpa using h1) (by simpa using h2) hk
theorem U4{kindOf:Str->Option W6}{x:Str}{v:wg} : ∀{P:List Str}{vs:List wg}{i:Nat}{m:Str->Option wg},P.Nodup->P[i]? = some x->vs[i]? = some v->kindOf x≠some .local ->
  bindC kindOf (P.zip vs) m x=some v
 | [],_,_,_,_,h,_,_=>by simp at h
 | _::_,[],_,_,_,_,h,_=>by simp at h
 | p::P,w::vs,0,m,nd,h1,h2,hk=>by
  simp at h1 h2;subst h1;subst h2
  show bindC kindOf ((p,w)::P.zip vs) m p=_
  unfold bindC;rw[Pt λv hv=>(WW.mp nd).1 (xz hv).1,if_neg hk];simp
 | p::P,w::vs,i+1,m,nd,h1,h2,hk=>by
  show bindC kindOf ((p,w)::P.zip vs) m x=_
  unfold bindC;exact U4 (i:=i) (WW.mp nd).2 (by simpa using h1) (by simpa using h2) hk
def start(N:List Str)(vs:List V):St:=vs.map some++vc (N.length-vs.length) none
def iU(CX:gf)(P:wI)(w:wJ)(K:wb)(mg:Str->Option wg)(base:wG)(N:List Str)(qual:Str)(scope:Scope)(f:we)(cd:wg)(A:vb)(outer:List Env)(s:wl)(H:Hp)(E:XK):Cx where
 prog:=P
 w:=w
 K:=K
 mg:=mg
 base:=base
 A:=A.deeper (envOfC qual scope s.heap.objs.size f cd)
 N:=N
 s₀:=s
 H₀:=H
 env:=envOfC qual scope s.heap.objs.size f cd
 outer:=outer
 stack:=envOfC qual scope s.heap.objs.size f cd::outer
 ex:=[]
 calm:=true
 fn:=λ_=>true
 pn:=[]
 xe:=λe s'=>wx (model P w) (A.deeper (envOfC qual scope s.heap.objs.size f cd)) (leaving (envOfC qual scope s.heap.objs.size f cd) e) (λ_ s''=>CX outer H s E e s'') (λe' s''=>CX outer H s E e' s'') s'
theorem BP{sc:Scope}{n:Nat}{x:Str}(h:sc.names.lookup x=some .cell):∃c,(cellsFrom n sc.names []).lookup x=some c:=by
 have q:=xJ sc.names n [] (.inl h);exact Option.isSome_iff_exists.mp q
theorem zwQ{CX:gf}{P:wI}{w:wJ}{K:wb}{mg:Str->Option wg}{N ps:List Str}{scope:Scope}{f:we}{cd:wg}{A:vb}{outer:List Env}{s s1:wl}{H:Hp}{E:XK}{us:List wg}{vs:List V}
  (S:aQ N ps scope) (hd:A.handled=none) (e0:Ax P w K mg base A outer s H) (hl:vs.length=ps.length) (r:aT vs us)
  (x:InCallC s s.heap.objs.size (bindL (envOfC qual scope s.heap.objs.size f cd).kindOf (ps.zip us) λ_=>none) (cellsFrom (s.heap.objs.size+1) scope.names []) (bindC (envOfC qual scope s.heap.objs.size f cd).kindOf (ps.zip us) λ_=>none) s1) :
  Inv (iU CX P w K mg base N qual scope f cd A outer s H E) [] (start N vs) H s1:=by
 have hpl:ps.length<=N.length:=by have:=congrArg xK S.pre;rw[Wq]at this;lia
 obtain⟨h1,tk,rfl,hk⟩:=x.done;have noA:∀b:we,b ∉ (iU CX P w K mg base N qual scope f cd A outer s H E).ex:=λb z=>absurd (show b∈([]:List we)from z) (by simp)
 refine⟨⟨e0.mod,S.kind,rfl,rfl,wo _,λy z c h1 h2=>?_,λy hy=>?_,λy c _ h=>?_,λ_=>hd,Around.frames_deeper e0.frames,.inr ⟨rfl,rfl⟩,λb z=>absurd z (noA b),e0.bs,e0.iX,λb _ _=>noA b,λb z=>absurd z (noA b),e0.fh,e0.jr⟩,
  rfl,e0.bare,Un.kept hk,⟨_,x.toInCall.ns,λi y v h1 h2 h3=>?_⟩,λy c h=>⟨_,x.cell y c h⟩,e0.aI.fresh (wo _),λy c h=>?_,λp hp=>absurd (show p∈([]:List (we × Obj))from hp) (by simp),e0.aI.kept hk,?_⟩
 ·exact name_of_addr x.apart (Vo h1) (Vo h2)
 ·have hy:scope.names.lookup y=some .cell\/scope.names.lookup y=some .free:=hy
  rcases hy with hy | hy
  ·exact BP hy
  ·exact absurd rfl (S.Y3 _ (Vo hy))
 ·exact Ve (x.above y c (Vo h))
 ·have hi:i<vs.length:=by
   unfold start at h2
   by_cases hi:i<vs.length
   ·exact hi
   ·rw[vi (by simpa using hi)]at h2
    rw[xu]at h2
    split at h2<;>cases h2
  have ha:vs[i]? = some v:=by
   unfold start at h2;rw[vI (by simpa using hi),wu]at h2;cases e:vs[i]? with
   | none=>rw[e]at h2;cases h2
   | some a=>rw[e]at h2;cases h2;rfl
  obtain⟨u,hu,rv⟩:=r.get ha
  have hp:ps[i]? = some y:=by
   rw[<- S.pre,xk (by lia)];exact h1
  have ndP:ps.Nodup:=by rw[<- S.pre];exact S.nd.sublist (XW _ _)
  refine⟨u,rv,?_⟩;rcases S.par y (Qz hp)with k | k
  ·exact .inl ⟨k,NJ ndP hp hu k⟩
  ·obtain⟨c,e⟩:=BP (n:=s.heap.objs.size+1) k
   refine .inr ⟨.inl k,c,e,?_⟩;have q:=x.cell y c e;rw[U4 ndP hp hu (by show scope.names.lookup y≠_;rw[k];decide)]at q;exact q
 ·exact e0.aI.fresh (Ve (x.above y c (Vo h)))
 ·unfold start
  show _=N.length
  rw[wR,wm,Wx]
  lia
theorem Lf{CX:gf}{P:wI}{w:wJ}{K:wb}{mg:Str->Option wg}{k:Nat}{f:we}{name:Str}{params:Arguments}{body:List w9}{scope:Scope}{dV kV doc pm cdv ct oc:wg}{an od:Option we}
  {osl:Array (Option wg)} {N ps:List Str} {sp:Sp} (lk:K.lookup f=some ⟨oc,od,.func (V3 name qual params body scope dV kV doc pm an cdv ct),osl⟩) (hcd:QM K cdv qual=true) (S:aQ N ps scope)
  (len:∀vs H Q E,sp vs H Q E->vs.length=ps.length)
  (hbody:∀(A:vb)(outer:List Env)(s:wl)(H:Hp)(vs:List V)(Q:VK)(E:XK),eA k (A.deeper (envOfC qual scope s.heap.objs.size f cdv))->sp vs H Q E ->
   ∃t,fL (iU CX P w K mg base N qual scope f cdv A outer s H E) body t/\t {nx:=λ_ H'=>Q .a_ H',rt:=Q} (start N vs) H) :
  aG P w K mg base CX (k+1) f (V3 name qual params body scope dV kV doc pm an cdv ct) ps sp:=by
 refine⟨len,λA outer s H args us vs Q E hr e0 hb r hsp=>?_⟩;have hl:=len _ _ _ _ hsp;have KX:K.In s.heap:=e0.mod.pL.keeps λb o e=>(e0.bs b o e).1
 have lim:s.heap.NoLimit:=e0.mod.nolimit.keeps λb o e=>(e0.bs b o e).1
 have hkind:∀y∈ps.zip us,scope.names.lookup y.1=some .local\/(scope.names.lookup y.1=some .cell/\((cellsFrom (s.heap.objs.size+1) scope.names []).lookup y.1).isSome=true):=λ⟨n,v⟩ hy=>by
  rcases S.par n (xz hy).1 with q | q
  ·exact .inl q
  ·exact .inr ⟨q,xJ _ _ _ (.inl q)⟩
 refine codeAny_call_function hr.depth (KX _ _ lk) rfl S.co S.gen rfl (PySem.W.codeRec_of KX hcd) (hb _ _ _ _ ?_);refine wpAny_newFunctionEnv_cells S.kind hkind λenv he s1 x=>?_
 subst he;refine⟨lim.keeps x.toInCall.keep,codeAny_func ?_⟩;obtain⟨t,ht,hq⟩:=hbody A outer s H vs Q E (hr.deeper _) hsp;have I:Inv (iU CX P w K mg base N qual scope f cdv A outer s H E) [] (start N vs) H s1:=zwQ S hr.hd e0 hl r x;refine WB (ht [] s1 (start N vs) H _ I hq) (λfl s' hs=>?_) λe s' hs=>hs
 have fin:∀{σ':St}{H':Hp}{v:V}{u:wg},Inv (iU CX P w K mg base N qual scope f cdv A outer s H E) [] σ' H' s'->bj v u->Q v H'->CE outer P w H s Q u s' :=
  λ{σ' H' v u} J rv q=>⟨v,H',J.os,J.bare,J.base,J.aI,rv,q⟩
 cases fl with
 | ret u =>
  obtain⟨v,σ',H',J,rv,q⟩:=hs;exact fin J rv q
 | next =>
  obtain⟨σ',H',J,q⟩:=hs;exact fin (v:=V.a_) (u:=Value.none) J rfl q
 | brk =>
  obtain⟨_,_,_,q⟩:=hs;exact W1 q
 | cont =>
  obtain⟨_,_,_,q⟩:=hs;exact W1 q
section
variable{X:Cx}{x:Str}{p pos:Pos}{e:Expr}{es:List Expr}{t:TA}{id T:String}{r:List V->Hp->VK->Prop}
def Gs(r:List V->Hp->VK->Prop)(t:TA):TE:=λσ H Q=>t σ H λvs H1=>r vs H1 Q
theorem bE(hc:aJ X (.builtin id) r)(hg:Gl X x)(hm:X.mg x=none)(hv:vN x=some (.builtin id))(ha:PA X (e::es) t)(hn:x≠"__name__":=by decide)(hdb:(x == ("__debug__" : Str))=false:=by decide)
  (he:w5 (e::es) X.env=(false,eval e X.env)::w5 es X.env:=by rfl) (hpl:(backTo pos (w5 es X.env)).any (·.1)=false:=by rfl):PE X (.Call (.Name x p) (e::es) [] pos) (Gs r t):=by
 intro pins s σ H Q I h;refine Qg (gP I hg hm hv ?_ hn hdb);exact PyProof.Rows.callWith_builtin1 (aK (ha pos pins s σ H _ I h) λus s1 ⟨vs,H1,I1,r1,q1⟩=>hc pins s1 σ H1 vs us Q I1 r1 q1) he hpl
theorem dY(hc:aJ X (.type T) r)(hg:Gl X x)(hm:X.mg x=none)(hv:vN x=some (.type T))(ha:PA X (e::es) t)(hn:x≠"__name__":=by decide)(hdb:(x == ("__debug__" : Str))=false:=by decide)
  (he:w5 (e::es) X.env=(false,eval e X.env)::w5 es X.env:=by rfl) (hpl:(backTo pos (w5 es X.env)).any (·.1)=false:=by rfl):PE X (.Call (.Name x p) (e::es) [] pos) (Gs r t):=by
 intro pins s σ H Q I h;refine Qg (gP I hg hm hv ?_ hn hdb);exact vB (aK (ha pos pins s σ H _ I h) λus s1 ⟨vs,H1,I1,r1,q1⟩=>hc pins s1 σ H1 vs us Q I1 r1 q1) he hpl
end
section
variable{κ : Type}[DecidableEq κ]
end
abbrev KT(H:Hp):List (List Key × V)->List (List Key × we × wg)->Prop:=Paired λp q=>p.1=q.1/\H q.2.1=some (.tup (p.1.map kV))/\bj p.2 q.2.2
section
variable{P:wI}{w:wJ}{H:Hp}{h:wG}{a:we}
end
section
variable{X:Cx}{pins:List (we × Obj)}{σ : St}{H:Hp}{s:wl}{a:we}{y v:V}{u r:wg}{o:Option V}{A:vb}{E:wg->wl->Prop}
theorem Inv.big(I:Inv X pins σ H s):sysModules<s.heap.objs.size:=by
 have h:wS<s.heap.objs.size:=(I.mod.glob.keeps I.bk).lt;exact XE (by decide) h
end
section
variable{X:Cx}{pins:List (we × Obj)}{σ : St}{H:Hp}{s:wl}{a:we}{kvs:List (Key × V)}{k:Key}{u:wg}{A:vb}{E:wg->wl->Prop}
end
def RY(i:Expr):Prop:=∀ov iv,subscripted i false ov iv=operate [ov,iv] (getItem ov iv)
theorem zAZ{prog:wI}{w:wJ}{A:vb}{E:wg->wl->Prop}{s:wl}{env:Env}{value slice:Expr}{pos:Pos}{T id:String}{Q:wg->wl->Prop}
  (hl:typeLookup (.type T) "__getitem__"=pure (some (.builtin id))) (hs:RY slice)
  (h:wx (model prog w) A (eval value env) (λo s₁=>wx (model prog w) A (eval slice env) (λi s₂=>s₂.TypeIs o T/\wx (model prog w) A (getItem o i) Q E s₂) E s₁) E s) :
  wx (model prog w) A (eval (.Subscript value slice pos) env) Q E s:=by
 refine Subscript_ (WB h (λo s₁ h₁=>WB h₁ (λi s₂ h₂=>?_) λ_ _ x=>x) λ_ _ x=>x);obtain⟨hT,h₂⟩:=h₂;unfold subscriptTail;refine wf ?_;rw[getitemInPython_of_ne hT.not_modules];refine wf (qU hT hl ?_)
 have fin:wx (model prog w) A (subscripted slice false o i) (λr s₃=>wx (model prog w) A (letTemporaryGo value o r >>= λ_=>pure r) Q E s₃) E s₂:=by
  rw[hs o i];exact wpAny_operating (WB h₂ (λr s₃ h₃=>wf (wpAny_letTemporaryGo (wp h₃))) λ_ _ x=>x)
 first
  | exact wp (wf fin)
  | exact wf (wp (wf fin))
  | exact wf fin
section
variable{X:Cx}{o i e value:Expr}{pos pos' tpos:Pos}{td ty tv:TE}
end
section
variable{X:Cx}{pos:Pos}
end
abbrev VV:List (V × V)->List (wg × wg)->Prop:=Paired λp q=>bj p.1 q.1/\bj p.2 q.2
section
variable{X:Cx}{pins:List (we × Obj)}{σ : St}{H:Hp}{s:wl}{a:we}{y d:V}{u r:wg}{o:Option V}{A:vb}{E:wg->wl->Prop}
end
section
variable{X:Cx}{o e f:Expr}{apos cpos:Pos}{td ty tx:TE}
end
section
variable{X:Cx}{pins:List (we × Obj)}{σ : St}{H:Hp}{s:wl}{a:we}{kvs:List (Key × V)}{A:vb}{E:wg->wl->Prop}
end
section
variable{X:Cx}{pins:List (we × Obj)}{σ : St}{H:Hp}{s:wl}{a:we}{y:V}{u:wg}{A:vb}{E:wg->wl->Prop}
end
end L2
namespace HT
open PySem PyProof.Rows
section
open PySem.SeqAt
open PySem.AutoSeq1 (wpAny_loadPart')
open PySem.MeetsSeq PySem.MeetsSeq2 PySem.MeetsSeq3
end
section
variable{prog:wI}{w:wJ}{A:vb}{E:wg->wl->Prop}{s:wl}
theorem YX{t b:we}{vs ws:List wg}{Q:wg->wl->Prop}(ht:IsTup s.heap t vs.toArray)(hb:IsTup s.heap b ws.toArray)(hv:vs≠[])
  (h1:ws=[]->Q (.ref t) s) (h2:ws≠[]->Q (.ref s.heap.objs.size) {s with heap:=s.heap.push {cls:=.type "tuple",data:=.seq (vs++ws).toArray}})
  (hsz:vs.length+ws.length<=w8):wx (model prog w) A (WC .Add (.ref t) (.ref b)) Q E s:=by
 obtain⟨⟨cls,dd,data,sl⟩,ho,hc,n,hd⟩:=id ht;obtain⟨⟨cls2,dd2,data2,sl2⟩,ho2,hc2,n2,hd2⟩:=id hb;simp only at hc hd hc2 hd2;subst hc hd hc2 hd2;have e:vs.toArray++ws.toArray=(vs++ws).toArray:=by simp
 by_cases hw:ws=[]
 ·exact concat_meets ⟨_,ho,rfl⟩ ⟨_,ho2,rfl⟩ noFill_tuple_add seq_tuple_add Qr Qk (qW _ _)
   (tuple_addW1 t b vs.toArray ws.toArray n n2 dd dd2 sl sl2 (by simpa using hv) (by simp[hw])) ⟨ho,ho2,h1 hw⟩
 ·refine concat_meets ⟨_,ho,rfl⟩ ⟨_,ho2,rfl⟩ noFill_tuple_add seq_tuple_add Qr Qk (qW _ _)
   (tuple_addW2 t b vs.toArray ws.toArray n n2 dd dd2 sl sl2 (by simpa using hv) (by simpa using hw) (by rw[wO,wO];exact hsz)) ⟨ho,ho2,?_⟩
  rw[e];exact h2 hw
def aX(n d:Nat):Option Int->Nat
 | none=>d
 | some v=>if v<0 then(v+(n:Int)).toNat else min v.toNat n
theorem Jt(n d:Nat):aX n d none=d:=rfl
theorem JX(n d k:Nat):aX n d (some (k:Int))=min k n:=by
 show(if(k:Int)<0 then((k:Int)+(n:Int)).toNat else min (k:Int).toNat n)=min k n
 rw[if_neg (by lia),wP]
theorem zDy(n d:Nat)(hd:d<=n)(o:Option Int):aX n d o<=n:=by
 cases o with
 | none=>exact hd
 | some v =>
  show(if v<0 then(v+(n:Int)).toNat else min v.toNat n)<=n
  by_cases hv:v<0
  ·rw[if_pos hv];lia
  ·rw[if_neg hv];exact uk _ _
theorem Sa(v:Int)(n d:Nat):(if v<0 then max (v+(n:Int)) 0 else min v (n:Int))=((aX n d (some v):Nat):Int):=by
 show(if v<0 then max (v+(n:Int)) 0 else min v (n:Int))=(((if v<0 then(v+(n:Int)).toNat else min v.toNat n):Nat):Int)
 by_cases hv:v<0
 ·simp only[if_pos hv];lia
 ·simp only[if_neg hv];lia
theorem zt5(lo hi:Option Int)(n:Nat):qO lo hi 1 (n:Int)=(((aX n 0 lo:Nat):Int),((aX n n hi:Nat):Int)):=by
 have h1:¬ ((1:Int)<0):=by lia
 unfold qO;simp only[h1,if_false];refine VH ?_ ?_
 ·cases lo with
  | none=>rfl
  | some v=>exact Sa v n 0
 ·cases hi with
  | none=>rfl
  | some v=>exact Sa v n n
theorem ztX(i j:Nat):VW (i:Int) (j:Int) 1=j-i:=by
 unfold VW;have h1:(1:Int) > 0:=by lia
 simp only[h1,if_true,Int.ediv_one]
 split<;>lia
theorem KU{v:wg}{o:Option Int}{Q:Option Int->wl->Prop}(p:IsPart v o)(h:Q o s):wx (model prog w) A (u0 v) Q E s:=by
 cases p with
 | none=>exact slicePart_none h
 | int i t=>exact slicePart_int h
theorem zlr{sl:we}{vl vu:wg}{lo hi:Option Int}{n:Nat}{Q:Int × Int × Nat->wl->Prop}(hs:s.heap.IsSliceOf sl vl vu .none)(pl:IsPart vl lo)(pu:IsPart vu hi)
  (h:Q (((aX n 0 lo:Nat):Int),1,aX n n hi-aX n 0 lo) s):wx (model prog w) A (Q3 (.ref sl) (pure (n:Int))) Q E s:=by
 obtain⟨os,hos,hcs,hds⟩:=id hs;unfold Q3 Ul;refine wf (wf (vD hos hds (x:=vl) rfl (wf (vD hos hds (x:=vu) rfl (wf (vD hos hds (x:=.none) rfl (wp ?_)))))));refine wf (slicePart_none ?_)
 show wx _ _ (if((1:Int) == 0)=true then _ else _) _ _ s
 rw[if_neg (by decide)];refine wf (KU pl (wf (KU pu (wf (wp ?_)))))
 show wx _ _ (match qO lo hi 1 (n:Int)with | (lo,hi)=>pure (lo,(1:Int),VW lo hi 1)) _ _ s
 rw[zt5 lo hi n]
 show wx _ _ (pure (((aX n 0 lo:Nat):Int),(1:Int),VW ((aX n 0 lo:Nat):Int) ((aX n n hi:Nat):Int) 1)) _ _ s
 rw[ztX];exact wp h
theorem ZY(xs:Array wg)(i k:Nat):((wt k).filterMap λ(m:Nat)=>xs[((i:Int)+(m:Int)*1).toNat]?).toArray=((xs.toList.drop i).take k).toArray:=by
 have e:(λ(m:Nat)=>xs[((i:Int)+(m:Int)*1).toNat]?)=λm=>xs[i+m]?:=by
  funext m
  have:((i:Int)+(m:Int)*1).toNat=i+m:=by lia
  rw[this]
 rw[e];have:=pick_run xs i k;rw[List.filterMap_map]at this;have e2:((λx=>xs[x]?) ∘ λx=>i+x)=λm=>xs[i+m]?:=rfl
 rw[e2]at this;rw[this]
theorem YG{t sl:we}{items:Array wg}{vl vu:wg}{lo hi:Option Int}{Q:wg->wl->Prop}(ht:IsTup s.heap t items)(hs:s.heap.IsSliceOf sl vl vu .none)(pl:IsPart vl lo)(pu:IsPart vu hi)
  (hw:¬ (aX items.size 0 lo=0/\aX items.size items.size hi=items.size))
  (h:Q (.ref s.heap.objs.size) {s with heap:=s.heap.push {cls:=.type "tuple",data:=.seq ((items.toList.drop (aX items.size 0 lo)).take (aX items.size items.size hi-aX items.size 0 lo)).toArray}})
  (hsz:items.size<=w8):wx (model prog w) A (getItem (.ref t) (.ref sl)) Q E s:=by
 have htake:sizeOk (.seq ((items.toList.drop (aX items.size 0 lo)).take (aX items.size items.size hi-aX items.size 0 lo)).toArray):=by
  show((items.toList.drop (aX items.size 0 lo)).take (aX items.size items.size hi-aX items.size 0 lo)).toArray.size<=w8
  rw[wO,Wq,vR,wK]
  lia
 have hj:aX items.size items.size hi<=items.size:=zDy _ _ (wo _) hi;obtain⟨os,hos,hcs,hds⟩:=id hs;have hTs:s.TypeIs (.ref sl) "slice":=⟨os,hos,hcs⟩;unfold getItem
 try with_reducible refine Wk ?_
 first | refine wf (wp ?_) | skip
 refine wf (wpAny_sequenceKey ht.typeIs (by decide) ?_)
 refine wf (wpAny_callSpecial?_slot (name:=vW "__getitem__") ht.typeIs qh
  (Wd qh ht.typeIs entry_tuple_getitem ?_ (args_tuple_getitem _ _)))
 show wx _ _ (Q4 (.ref t) >>= _) _ _ s
 refine wf (tupleItemsOf_ ht ?_);refine wf (wpAny_typeOf hTs ?_);rw[if_pos (by decide)];refine wf (zlr hs pl pu ?_)
 have hno:¬ ((((aX items.size 0 lo:Nat):Int) == 0&&(1:Int) == 1&&(aX items.size items.size hi-aX items.size 0 lo) == items.size)=true):=by
  intro q;rw[wZ,wZ]at q;have q1:((aX items.size 0 lo:Nat):Int)=0:=eq_of_beq q.1.1;have q2:aX items.size items.size hi-aX items.size 0 lo=items.size:=eq_of_beq q.2;exact hw ⟨by lia,by lia⟩
 show wx _ _ (if(((aX items.size 0 lo:Nat):Int) == 0&&(1:Int) == 1&&(aX items.size items.size hi-aX items.size 0 lo) == items.size)=true then _ else _) _ _ s
 rw[if_neg hno,ZY]
 first
  | exact wf (m:=V4 _) (WH (wp ⟨_,rfl,wp h⟩) htake)
  | exact wf (m:=V4 _) (WH (wf (wp (wp ⟨_,rfl,wp h⟩))) htake)
  | exact wf (wf (m:=V4 _) (WH (wp (wp ⟨_,rfl,wp h⟩)) htake))
  | exact wf (wf (m:=V4 _) (WH (wp ⟨_,rfl,wp h⟩) htake))
end
end HT
namespace L2
open PySem PySem.Spec PyProof.Rows
abbrev TO:=St->Hp->(Option Int->Hp->Prop)->Prop
def PO(X:Cx)(e:Option Expr)(t:TO):Prop :=
 ∀(pins:List (we × Obj))(s:wl)(σ : St)(H:Hp)(Q:Option Int->Hp->Prop),Inv X pins σ H s->t σ H Q ->
  wx (model X.prog X.w) X.A (evalPart e X.env) (λu s'=>∃o H',Inv X pins σ H' s'/\IsPart u o/\Q o H') X.xe s
def U7:TO:=λ_ H Q=>Q none H
def L8(t:TE):TO:=λσ H Q=>t σ H λx H1=>∃i,x=.int i/\Q (some i) H1
theorem AF{ns:List Int} : ∀{us:List wg},aT (ns.map V.int) us->IntsAre us ns:=by
 induction ns with
 | nil=>intro us r;rw[xl]at r;cases r;exact .nil
 | cons n ns ih =>
  intro us r;rw[vd]at r;cases r with
  | cons r1 r2 =>
   obtain⟨t,e⟩:=r1;subst e;exact .cons n t (ih r2)
section
variable{X:Cx}{e:Expr}{te:TE}{lo hi:Option Expr}{tl th:TO}{pos p2:Pos}
theorem kj:PO X none U7:=by
 intro pins s σ H Q I h;rw[evalPart_none];exact wp ⟨none,H,I,.none,h⟩
theorem j6(h:PE X e te):PO X (some e) (L8 te):=by
 intro pins s σ H Q I hw;rw[evalPart_some];refine aK (h pins s σ H _ I hw) λu s1 ⟨x,H1,I1,r1,q1⟩=>?_
 obtain⟨i,rfl,q⟩:=q1;obtain⟨t,rfl⟩:=r1;exact⟨some i,H1,I1,.int i t,q⟩
def kf(X:Cx)(r:V->Option Int->Option Int->Hp->VK->Prop):Prop :=
 ∀(pins:List (we × Obj))(s:wl)(σ : St)(H:Hp)(x:V)(v vl vu:wg)(lo hi:Option Int)(sl:we)(Q:VK),Inv X pins σ H s->bj x v->s.heap.IsSliceOf sl vl vu .none->IsPart vl lo->IsPart vu hi->r x lo hi H Q ->
  ∃T id,typeLookup (.type T) "__getitem__"=pure (some (.builtin id))/\s.TypeIs v T/\wx (model X.prog X.w) X.A (getItem v (.ref sl)) (EP X pins σ Q) X.xe s
theorem kf.or{r r':V->Option Int->Option Int->Hp->VK->Prop}(h:kf X r)(h':kf X r'):kf X (λx lo hi H Q=>r x lo hi H Q\/r' x lo hi H Q):=by
 intro pins s σ H x v vl vu lo hi sl Q I rx hs pl pu q;rcases q with q | q
 ·exact h pins s σ H x v vl vu lo hi sl Q I rx hs pl pu q
 ·exact h' pins s σ H x v vl vu lo hi sl Q I rx hs pl pu q
def OV(r:V->Option Int->Option Int->Hp->VK->Prop)(te:TE)(tl th:TO):TE:=λσ H Q=>te σ H λx H1=>tl σ H1 λl H2=>th σ H2 λu H3=>r x l u H3 Q
theorem jZ{r:V->Option Int->Option Int->Hp->VK->Prop}(hr:kf X r)(he:PE X e te)(hl:PO X lo tl)(hu:PO X hi th):PE X (.Subscript e (.Slice lo hi none p2) pos) (OV r te tl th):=by
 intro pins s σ H Q I h;refine Subscript_ (aK (he pins s σ H _ I h) λv s1 ⟨x,H1,I1,r1,q1⟩=>?_);refine wpAny_Slice (aK (hl pins s1 σ H1 _ I1 q1) λvl s2 ⟨l,H2,I2,pl,q2⟩=>aK (hu pins s2 σ H2 _ I2 q2) λvu s3 ⟨u,H3,I3,pu,q3⟩=>?_);rw[evalPart_none];refine wp ?_;have I4:Inv X pins σ H3 {s3 with heap:=s3.heap.push {cls:=.type "slice",data:=.fields #[vl,vu,.none]}}:=I3.kept (t':=s3.toks) λb ob q=>wn _ q
 obtain⟨T,id,hT,ht,hg⟩:=hr pins {s3 with heap:=s3.heap.push {cls:=.type "slice",data:=.fields #[vl,vu,.none]}} σ H3 x v vl vu l u s3.heap.objs.size Q I4 r1 (Uw ..) pl pu q3
 show wx (model X.prog X.w) X.A (subscriptTail e (.Slice lo hi none p2) v (.ref s3.heap.objs.size)) (EP X pins σ Q) X.xe {s3 with heap:=s3.heap.push {cls:=.type "slice",data:=.fields #[vl,vu,.none]}}
 exact tail_any (ops:=[.ref s3.heap.objs.size,v]) ht hT hg (by with_unfolding_all rfl)
def kg(xs:List V)(lo hi:Option Int):List V:=(xs.drop (HT.aX xs.length 0 lo)).take (HT.aX xs.length xs.length hi-HT.aX xs.length 0 lo)
theorem Kz(xs:List V)(lo hi:Option Int):(kg xs lo hi).length<=xs.length:=by
 unfold kg;rw[Wq,vR]
 lia
def Ti(K:wb):V->Option Int->Option Int->Hp->VK->Prop:=λx lo hi H Q=>∃a xs,x=.ref a/\aU K H a xs /\
 ¬ (HT.aX xs.length 0 lo=0/\HT.aX xs.length xs.length hi=xs.length) /\ ∀p,H p=none->Q (.ref p) (upd H p (.tup (kg xs lo hi)))
theorem Zl:kf X (Ti X.K):=by
 intro pins s σ H x v vl vu lo hi sl Q I rx hs pl pu h;obtain⟨a,xs,rfl,hx,hw,q⟩:=h;cases rx;obtain⟨its,r,ht,hz⟩:=I.tuple hx;have hlen:its.toArray.size=xs.length:=by rw[wO];exact r.length.symm
 refine⟨"tuple",_,qh.lookup,ht.typeIs,?_⟩;refine HT.YG ht hs pl pu (by rw[hlen];exact hw) ?_ (by rw[hlen];exact hz);rw[hlen];refine⟨.ref s.heap.objs.size,_,I.laid (t':=s.toks) (o:=.tup (kg xs lo hi)) (λb ob q=>wn _ q) (wo _) ?_,rfl,q _ (I.aI.fresh (wo _))⟩;exact⟨Wa (Kz xs lo hi) hz,_,(r.drop (HT.aX xs.length 0 lo)).take (HT.aX xs.length xs.length hi-HT.aX xs.length 0 lo),Qx _ _⟩
def Rl(K:wb):R2:=λx y H Q=>∃a b xs ys,x=.ref a/\y=.ref b/\aU K H a xs/\aU K H b ys/\xs≠[]/\xs.length+ys.length<=w8 /\
 (ys=[]->Q (.ref a) H)/\(ys≠[]->∀p,H p=none->Q (.ref p) (upd H p (.tup (xs++ys))))
theorem aT.A6{xs:List V}{us:List wg}(r:aT xs us):us=[] ↔ xs=[]:=by
 cases r with
 | nil=>simp
 | cons _ _=>simp
theorem zBt:aN X (WC .Add) (Rl X.K):=by
 intro pins s σ H x y v u Q I rx ry h;obtain⟨a,b,xs,ys,rfl,rfl,ha,hb,hx,hz,q1,q2⟩:=h;cases rx;cases ry;obtain⟨its,r1,p1,_⟩:=I.tuple ha;obtain⟨its2,r2,p2,_⟩:=I.tuple hb;refine HT.YX p1 p2 (λz=>hx (r1.A6.mp z)) (λz=>⟨.ref a,H,I,rfl,q1 (r2.A6.mp z)⟩) (λz=>?_) (by rw[<- r1.length,<- r2.length];exact hz);refine⟨.ref s.heap.objs.size,_,I.laid (t':=s.toks) (o:=.tup (xs++ys)) (λb ob q=>wn _ q) (wo _) ?_,rfl,q2 (λw=>z (r2.A6.mpr w)) _ (I.aI.fresh (wo _))⟩;exact⟨by rw[wR];exact hz,_,r1.append r2,Qx _ _⟩
end
def h_(n:Nat)(i:Int):Option Nat:=if 0<=i then(if i<n then some i.toNat else none)else if -(n:Int)<=i then some (i+n).toNat else none
def iE{α : Type}(xs:List α)(i:Int):Option α:=(h_ xs.length i).bind λj=>xs[j]?
theorem Oc{n:Nat}{i:Int}{j:Nat}(h:h_ n i=some j):seqIndex? i n=some j/\j<n /\ -(n:Int)<=i/\i<n:=by
 unfold h_ at h
 by_cases h0:0<=i
 ·rw[if_pos h0]at h
  by_cases h1:i<n
  ·rw[if_pos h1]at h
   have e:i.toNat=j:=wM h;exact⟨by rw[seqIndex_of h0 h1,e],by lia,by lia,h1⟩
  ·rw[if_neg h1]at h;cases h
 ·rw[if_neg h0]at h
  by_cases h1 : -(n:Int)<=i
  ·rw[if_pos h1]at h
   have e:(i+n).toNat=j:=wM h;exact⟨by rw[seqIndex_neg (by lia) h1,e],by lia,h1,by lia⟩
  ·rw[if_neg h1]at h;cases h
theorem DJ{α : Type}{xs:List α}{i:Int}{v : α}(h:iE xs i=some v):∃j,seqIndex? i xs.length=some j/\xs[j]? = some v/\j<xs.length /\ -(xs.length:Int)<=i/\i<xs.length:=by
 unfold iE at h;cases e:h_ xs.length i with
 | none=>rw[e]at h;cases h
 | some j =>
  rw[e]at h;obtain⟨h1,h2,h3,h4⟩:=Oc e;exact⟨j,h1,h,h2,h3,h4⟩
theorem kO{α : Type}{xs:List α}{j:Nat}{v : α}(h:xs[j]? = some v):iE xs (j:Int)=some v:=by
 have hj:j<xs.length:=(Wt.mp h).1
 have e:h_ xs.length (j:Int)=some j:=by
  unfold h_;rw[if_pos (by lia),if_pos (by lia)];simp
 unfold iE;rw[e];exact h
def zBB(b:Expr):Prop:=∀o i,subscripted b false o i=operate [o,i] (getItem o i)
def gM(X:Cx)(r:R2):Prop :=
 ∀(value slice:Expr)(pins:List (we × Obj))(s:wl)(σ : St)(H:Hp)(x y:V)(v u:wg)(Q:VK),Inv X pins σ H s->bj x v->bj y u->r x y H Q ->
  subscripted slice false v u=operate [v,u] (getItem v u)->wx (model X.prog X.w) X.A (subscriptTail value slice v u) (EP X pins σ Q) X.xe s
def Rp(X:Cx)(id:String)(r:V->List V->Hp->VK->Prop):Prop :=
 ∀(pins:List (we × Obj))(s:wl)(σ : St)(H:Hp)(x:V)(xs:List V)(v:wg)(us:List wg)(Q:VK),Inv X pins σ H s->bj x v->aT xs us->r x xs H Q ->
  wx (model X.prog X.w) X.A (call (.builtin id) (v::us)) (EP X pins σ Q) X.xe s
section
variable{X:Cx}{a b:Expr}{ta tb:TE}{pos:Pos}
variable{σ:St}{H:Hp}{x:V}
theorem gM.or{r r':R2}(h:gM X r)(h':gM X r'):gM X (λx y H Q=>r x y H Q\/r' x y H Q):=by
 intro value slice pins s σ H x y v u Q I rx ry q hs;rcases q with q | q
 ·exact h value slice pins s σ H x y v u Q I rx ry q hs
 ·exact h' value slice pins s σ H x y v u Q I rx ry q hs
theorem dH{r:R2}(hr:gM X r)(ha:PE X a ta)(hb:PE X b tb)(hs:zBB b):PE X (.Subscript a b pos) (lK r ta tb):=by
 intro pins s σ H Q I h;exact Subscript_ (EL ha hb I h λv u s2 x y H2 I2 rx ry q=>hr a b pins s2 σ H2 x y v u Q I2 rx ry q (hs _ _))
def NG(K:wb):R2:=λx y H Q=>∃p xs i v,x=.ref p/\y=.int i/\aO K H p xs/\iE xs i=some v/\Q v H
def RS(K:wb):R2:=λx y H Q=>∃p xs i v,x=.ref p/\y=.int i/\aU K H p xs/\iE xs i=some v/\Q v H
def Oz:R2:=λx y H Q=>∃z i c,x=.str z/\y=.int i/\z.length<=w8/\iE z.cps.toList i=some c/\Q (.str ⟨#[c]⟩) H
theorem zBo :gM X (NG X.K):=by
 intro value slice pins s σ H x y v u Q I rx ry h hs;obtain⟨p,xs,i,z,rfl,rfl,hq,he,q⟩:=h;cases rx;obtain⟨t,rfl⟩:=ry;obtain⟨its,r,pl,hz⟩:=I.list hq;obtain⟨j,h1,h2,h3,h4,h5⟩:=DJ he;obtain⟨w,ew,rw'⟩:=r.get h2;have hl:=r.length;have hn:=nj;have fin:EP X pins σ Q w s:=⟨z,H,I,rw',q⟩
 by_cases h0:0<=i
 ·have hj:i.toNat=j:=by
   rw[seqIndex_of h0 h5]at h1;exact wM h1
  exact item_listR pl.isList h0 (by lia) (by rw[hj];simpa using ew) fin hs
 ·have hj:(i+(its.toArray.size:Int)).toNat=j:=by
   rw[seqIndex_neg (by lia) h4]at h1;rw[wO,<- hl];exact wM h1
  exact subscriptTail_builtinR (x:=w) pl.isList.typeIs slot_list_getitem.lookup
   (wpAny_getItem_list_neg (Q:=λr s'=>r=w/\EP X pins σ Q r s') pl.isList (by lia) (by rw[wO]<;>lia) (by lia) (by rw[hj];simpa using ew) ⟨rfl,fin⟩) hs
theorem zDh :gM X (RS X.K):=by
 intro value slice pins s σ H x y v u Q I rx ry h hs;obtain⟨p,xs,i,z,rfl,rfl,hq,he,q⟩:=h;cases rx;obtain⟨t,rfl⟩:=ry;obtain⟨its,r,pl,hz⟩:=I.tuple hq;obtain⟨j,h1,h2,h3,h4,h5⟩:=DJ he;obtain⟨w,ew,rw'⟩:=r.get h2;have hl:=r.length;have hn:=nj;have fin:EP X pins σ Q w s:=⟨z,H,I,rw',q⟩
 exact subscriptTail_builtinR (x:=w) pl.typeIs slot_tuple_getitem.lookup
  (getItem_tuple (j:=j) (Q:=λr s'=>r=w/\EP X pins σ Q r s') pl (by lia) (by lia) (by rw[wO,<- hl];exact h1) (by simpa using ew) ⟨rfl,fin⟩) hs
theorem Zu :gM X Oz:=by
 intro value slice pins s σ H x y v u Q I rx ry h hs;obtain⟨z,i,c,rfl,rfl,hz,he,q⟩:=h;obtain⟨t,rfl⟩:=rx;obtain⟨t',rfl⟩:=ry;obtain⟨j,h1,h2,h3,h4,h5⟩:=DJ he;have hl:z.cps.toList.length=z.length:=by simp[Str.length]
 rw[hl]at h1 h4 h5;have hn:=nj
 exact tail_any (typeIs_str s z t) slot_str_getitem.lookup (getItem_str (c:=c) (by
  have e1:decide (i < -(2^63:Int))=false:=decide_eq_false (by lia);have e2:decide (i ≥ 2^63)=false:=decide_eq_false (by lia);rw[e1,e2,Ud]) (by rw[h1];simpa using h2) ⟨.str ⟨#[c]⟩,H,I.tok _,⟨_,rfl⟩,q⟩) hs
def dw(K:wb):R2:=λx y H Q=>NG K x y H Q\/RS K x y H Q\/Oz x y H Q
theorem dh :gM X (dw X.K):=zBo.or (zDh.or Zu)
theorem zt1(its:List wg)(n j:Nat)(u:wg):xf (·.setIfInBounds j u) {cls:=.type "list",data:=.seq its.toArray n} = {cls:=.type "list",data:=.seq (its.set j u).toArray n}:=by
 simp[xf]
theorem Inv.lst{pins:List (we × Obj)}{s:wl}{p:we}{xs:List V}(I:Inv X pins σ H s)(h:H p=some (.lst xs)) :
  ∃(its:List wg)(n:Nat),aT xs its/\s.heap.get? p=some {cls:=.type "list",data:=.seq its.toArray n}/\xs.length<=w8:=by
 obtain⟨z,its,n,r,e⟩:=I.aI p _ h;exact⟨its,n,r,e,z⟩
theorem Inv.Y2{pins:List (we × Obj)}{s:wl}{p:we}{xs ys:List V}{its its':List wg}{n n':Nat}{f:Obj->Obj}(I:Inv X pins σ H s)(h:H p=some (.lst xs))
  (ho:s.heap.get? p=some {cls:=.type "list",data:=.seq its.toArray n}) (hf:f {cls:=.type "list",data:=.seq its.toArray n} = {cls:=.type "list",data:=.seq its'.toArray n'}) (r:aT ys its') (hz:ys.length<=w8) (t:Nat) :
  Inv X pins σ (upd H p (.lst ys)) {s with heap:=s.heap.update p f,toks:=t}:=by
 have e:(s.heap.update p f).get? p=some {cls:=.type "list",data:=.seq its'.toArray n'}:=by
  rw[VB f ho (by rw[hf]<;>rfl),hf]
 refine I.write (x:=p) (e:=p) (by rw[h];trivial) (.inl rfl) (λb u hb q=>(Qs _ _ (WE hb)).trans q) ⟨_,e⟩ ?_;exact⟨hz,its',n',r,e⟩
def Lm:V->V->V->Hp->(Hp->Prop)->Prop:=λo i v H Q=>∃p xs k j,o=.ref p/\i=.int k/\H p=some (.lst xs)/\h_ xs.length k=some j/\Q (upd H p (.lst (xs.set j v)))
theorem pb :Py X Lm:=by
 intro pins s σ H o i v ov iv u Q I ro ri rv h;obtain⟨p,xs,k,j,rfl,rfl,hp,hj,q⟩:=h;cases ro;obtain⟨t,rfl⟩:=ri;obtain⟨its,n,r,ho,hz⟩:=I.lst hp;obtain⟨h1,h2,h3,h4⟩:=Oc hj;have hl:=r.length;have hn:=nj
 have I':Inv X pins σ (upd H p (.lst (xs.set j v))) {s with heap:=s.heap.update p (xf (·.setIfInBounds j u))} :=
  I.Y2 hp ho (zt1 its n j u) (r.set rv j) (by rw[VC];exact hz) s.toks
 by_cases h0:0<=k
 ·have hk:k.toNat=j:=by
   rw[seqIndex_of h0 h4]at h1;exact wM h1
  exact PySem.W.ki_setAt ho h0 (by lia) (by rw[wO,<- hl];exact h4) (by rw[hk];exact⟨_,I',q⟩)
 ·have hk:(k+(its.toArray.size:Int)).toNat=j:=by
   rw[seqIndex_neg (by lia) h3]at h1;rw[wO,<- hl];exact wM h1
  exact PySem.W.ki_setBack ho (by lia) (by rw[wO,<- hl];exact h3) (by lia) (by rw[hk];exact⟨_,I',q⟩)
theorem zqu(lo hi:Option Int)(n:Nat):(qJ lo hi none n).1=((HT.aX n 0 lo:Nat):Int)/\(qJ lo hi none n).2.1=((HT.aX n n hi:Nat):Int)/\(qJ lo hi none n).2.2=1:=by
 refine⟨?_,?_,rfl⟩
 ·cases lo with
  | none=>simp[qJ,HT.aX]
  | some i =>
   simp only[qJ,HT.aX,ul,show(1:Int) > 0 by decide,if_true]
   by_cases h:i<0
   ·simp only[h,if_true]<;>lia
   ·simp only[h,if_false]<;>lia
 ·cases hi with
  | none=>simp[qJ,HT.aX]
  | some i =>
   simp only[qJ,HT.aX,ul,show(1:Int) > 0 by decide,if_true]
   by_cases h:i<0
   ·simp only[h,if_true]<;>lia
   ·simp only[h,if_false]<;>lia
theorem zos(its:List wg)(lo hi:Option Int):slicePick its.toArray lo hi none=((its.drop (HT.aX its.length 0 lo)).take (HT.aX its.length its.length hi-HT.aX its.length 0 lo)).toArray:=by
 obtain⟨h1,h2,h3⟩:=zqu lo hi its.toArray.size;unfold slicePick;rw[h1,h2,h3];simp only[sliceRange_one,pick_run,wO]<;>rfl
def Kx(K:wb):V->Option Int->Option Int->Hp->VK->Prop:=λx lo hi H Q=>∃a xs,x=.ref a/\aO K H a xs /\ ∀p,H p=none->Q (.ref p) (upd H p (.lst (kg xs lo hi)))
theorem Z5 :kf X (Kx X.K):=by
 intro pins s σ H x v vl vu lo hi sl Q I rx hs pl pu h;obtain⟨a,xs,rfl,hx,q⟩:=h;cases rx;obtain⟨its,r,ht,hz⟩:=I.list hx;have hlen:=r.length;refine⟨"list",_,slot_list_getitem.lookup,ht.isList.typeIs,?_⟩;refine wpAny_getItem_list_slice ht.isList hs pl pu .none (by simp) ?_ (by rw[wO]<;>lia);rw[zos,<- hlen];refine⟨.ref s.heap.objs.size,_,I.laid (t':=s.toks) (o:=.lst (kg xs lo hi)) (λb ob q=>wn _ q) (wo _) ?_,rfl,q _ (I.aI.fresh (wo _))⟩;exact⟨Wa (Kz xs lo hi) hz,_,0,(r.drop (HT.aX xs.length 0 lo)).take (HT.aX xs.length xs.length hi-HT.aX xs.length 0 lo),wN _ rfl⟩
def jV:V->Bool
 | .a_=>true
 | .bl _=>true
 | .int _=>true
 | .str _=>true
 | _=>false
def kX:V->V->Bool
 | .a_,.a_=>true
 | .bl a,.bl b=>a == b
 | .bl a,.int b=>(if a then 1 else 0) == b
 | .int a,.bl b=>a == (if b then 1 else 0)
 | .int a,.int b=>a == b
 | .str a,.str b=>a == b
 | _,_=>false
theorem zDz{A:vb}{s:wl}{y:V}{u v:wg}(ry:bj y u)(rx:bj x v)(fy:jV y=true)(fx:jV x=true):SeqAt.EqAt A s u v (kX y x):=by
 cases y with
 | a_ =>
  cases ry;cases x with
  | a_=>cases rx;exact SeqAt.EqAt.same _
  | bl b=>cases rx;exact SeqAt.EqAt.none_bool b
  | int b=>obtain⟨t,rfl⟩:=rx;exact SeqAt.EqAt.none_int b t
  | str b=>obtain⟨t,rfl⟩:=rx;exact SeqAt.EqAt.none_str b t
  | _=>exact absurd (show false=true from fx) vF
 | bl a =>
  cases ry;cases x with
  | a_=>cases rx;exact SeqAt.EqAt.bool_none a
  | bl b=>cases rx;exact SeqAt.EqAt.bool_bool a b
  | int b=>obtain⟨t,rfl⟩:=rx;exact SeqAt.EqAt.bool_int a b t
  | str b=>obtain⟨t,rfl⟩:=rx;exact SeqAt.EqAt.bool_str a b t
  | _=>exact absurd (show false=true from fx) vF
 | int a =>
  obtain⟨t',rfl⟩:=ry;cases x with
  | a_=>cases rx;exact SeqAt.EqAt.int_none a t'
  | bl b=>cases rx;exact SeqAt.EqAt.int_bool a t' b
  | int b=>obtain⟨t,rfl⟩:=rx;exact SeqAt.EqAt.int_int a t' b t
  | str b=>obtain⟨t,rfl⟩:=rx;exact Xz a t' b t
  | _=>exact absurd (show false=true from fx) vF
 | str a =>
  obtain⟨t',rfl⟩:=ry;cases x with
  | a_=>cases rx;exact SeqAt.EqAt.str_none a t'
  | bl b=>cases rx;exact SeqAt.EqAt.str_bool a t' b
  | int b=>obtain⟨t,rfl⟩:=rx;exact XA a t' b t
  | str b=>obtain⟨t,rfl⟩:=rx;exact SeqAt.EqAt.str_str a t' b t
  | _=>exact absurd (show false=true from fx) vF
 | _=>exact absurd (show false=true from fy) vF
def fU(x:V)(u:wg):Bool:=match u with
 | .none=>kX .a_ x
 | .bool b=>kX (.bl b) x
 | .int i _=>kX (.int i) x
 | .str z _=>kX (.str z) x
 | _=>false
theorem UX{y:V}{u:wg}(r:bj y u)(f:jV y=true):fU x u=kX y x:=by
 cases y with
 | a_=>cases r;rfl
 | bl b=>cases r;rfl
 | int i=>obtain⟨t,rfl⟩:=r;rfl
 | str z=>obtain⟨t,rfl⟩:=r;rfl
 | _=>exact absurd (show false=true from f) vF
theorem pZ{x:V} : ∀{xs:List V}{us:List wg},aT xs us->xs.all jV=true->us.any (fU x)=xs.any λy=>kX y x
 | _,_,.nil,_=>rfl
 | y::xs,u::us,.cons r t,f=>by
  rw[Xn,wZ]at f;rw[Qt,Qt,UX r f.1,pZ t f.2]
theorem pW{A:vb}{s:wl}{x:V}{v:wg}(rx:bj x v)(fx:jV x=true):∀{xs:List V}{us:List wg},aT xs us->xs.all jV=true->∀u∈us,SeqAt.EqAt A s u v (fU x u)
 | _,_,.nil,_=>λu hu=>by cases hu
 | y::xs,u::us,.cons r t,f=>λu' hu=>by
  rw[Xn,wZ]at f;rcases wF.mp hu with rfl | hu
  ·rw[UX r f.1];exact zDz r rx f.1 fx
  ·exact pW rx fx t f.2 u' hu
def tV(x:V)(xs:List V):Bool:=xs.any λy=>kX y x
def kJ(K:wb)(neg:Bool):R2:=λx y H Q=>∃p xs,y=.ref p/\(aO K H p xs\/aU K H p xs)/\jV x=true/\xs.all jV=true/\Q (.bl (if neg then !tV x xs else tV x xs)) H
theorem zxs :aN X (wT .In) (kJ X.K false):=by
 intro pins s σ H x y v u Q I rx ry h;obtain⟨p,xs,rfl,hq,fx,fs,q⟩:=h;cases ry;rcases hq with hq | hq
 ·obtain⟨its,r,pl,hz⟩:=I.list hq
  refine SeqAt.in_listAt (fU x) pl.isList (λw hw=>pW rx fx r fs w (by simpa using hw)) ⟨.bl _,H,I,rfl,?_⟩;rw[show its.toArray.any (fU x)=its.any (fU x) by simp,pZ r fs];exact q
 ·obtain⟨its,r,pl,hz⟩:=I.tuple hq
  refine SeqAt.in_tupleAt (fU x) pl (λw hw=>pW rx fx r fs w (by simpa using hw)) ⟨.bl _,H,I,rfl,?_⟩;rw[show its.toArray.any (fU x)=its.any (fU x) by simp,pZ r fs];exact q
theorem zqj :aN X (wT .NotIn) (kJ X.K true):=by
 intro pins s σ H x y v u Q I rx ry h;obtain⟨p,xs,rfl,hq,fx,fs,q⟩:=h;cases ry;rcases hq with hq | hq
 ·obtain⟨its,r,pl,hz⟩:=I.list hq
  refine SeqAt.notIn_listAt (fU x) pl.isList (λw hw=>pW rx fx r fs w (by simpa using hw)) ⟨.bl _,H,I,rfl,?_⟩;rw[show its.toArray.any (fU x)=its.any (fU x) by simp,pZ r fs];exact q
 ·obtain⟨its,r,pl,hz⟩:=I.tuple hq
  refine SeqAt.notIn_tupleAt (fU x) pl (λw hw=>pW rx fx r fs w (by simpa using hw)) ⟨.bl _,H,I,rfl,?_⟩;rw[show its.toArray.any (fU x)=its.any (fU x) by simp,pZ r fs];exact q
theorem zrn :aJ X (.builtin "len") (λxs H Q=>∃p ys,xs=[.ref p]/\(aO X.K H p ys\/aU X.K H p ys)/\Q (.int ys.length) H):=by
 intro pins s σ H xs us Q I r h;obtain⟨p,ys,rfl,hq,q⟩:=h;obtain⟨u,rfl,rx⟩:=gK r;cases rx;have hn:=nj;rcases hq with hq | hq
 ·obtain⟨its,r',pl,hz⟩:=I.list hq
  have hlen:=r'.length;exact Calls.call_len_list pl.isList (by simp only[wO]<;>lia) ⟨.int ys.length,H,I.tok _,⟨s.toks+1,by rw[wO,hlen]⟩,q⟩
 ·obtain⟨its,r',pl,hz⟩:=I.tuple hq
  have hlen:=r'.length;exact len_tuple pl (by simp only[wO]<;>lia) ⟨.int ys.length,H,I.tok _,⟨s.toks+1,by rw[wO,hlen]⟩,q⟩
theorem zp6 :aJ X (.type "list") (λxs H Q=>∃p ys,xs=[.ref p]/\(aO X.K H p ys\/aU X.K H p ys) /\ ∀l,H l=none->Q (.ref l) (upd H l (.lst ys))):=by
 intro pins s σ H xs us Q I r h;obtain⟨p,ys,rfl,hq,q⟩:=h;obtain⟨u,rfl,rx⟩:=gK r;cases rx
 have fin:∀(its:List wg),aT ys its->ys.length<=w8->∀(h':wG)(c':Nat),(∀b o',s.heap.get? b=some o'->h'.get? b=some o') ->
     h'.get? s.heap.objs.size=some {cls:=.type "list",dict:=none,data:=.seq its.toArray c',slots:=#[]}->EP X pins σ Q (.ref s.heap.objs.size) {s with heap:=h'}:=λits r' hz h' c' kp e =>
   ⟨.ref s.heap.objs.size,_,I.laid (t':=s.toks) kp (wo _) (show dN X.prog X.w _ h' _ (.lst ys)from⟨hz,its,c',r',e⟩),rfl,q _ (I.aI.fresh (wo _))⟩
 rcases hq with hq | hq
 . obtain⟨its,r',pl,hz⟩:=I.list hq
   have hlen:=r'.length;obtain⟨o,ho,hc,n,hd⟩:=pl.isList;exact call_list_seq p (.inl rfl) ho hc hd (λh' c' kp e=>fin its r' hz h' c' kp e) (by simp only[wO]<;>lia)
 . obtain⟨its,r',pl,hz⟩:=I.tuple hq
   have hlen:=r'.length;obtain⟨o,ho,hc,n,hd⟩:=pl;exact call_list_seq p (.inr rfl) ho hc hd (λh' c' kp e=>fin its r' hz h' c' kp e) (by simp only[wO]<;>lia)
theorem zox :aJ X (.type "tuple") (λxs H Q=>∃p ys,xs=[.ref p]/\((aO X.K H p ys /\ ∀l,H l=none->Q (.ref l) (upd H l (.tup ys)))\/(aU X.K H p ys/\Q (.ref p) H))):=by
 intro pins s σ H xs us Q I r h;obtain⟨p,ys,rfl,h⟩:=h;obtain⟨u,rfl,rx⟩:=gK r;cases rx;rcases h with⟨hq,q⟩ | ⟨hq,q⟩
 ·obtain⟨its,r',pl,hz⟩:=I.list hq
  have hlen:=r'.length;refine call_tuple_list pl.isList (λh' kp=>?_) (by simp only[wO]<;>lia);have I1:Inv X pins σ H {s with heap:=h'}:=I.kept (t':=s.toks) kp
  have I2:Inv X pins σ (upd H h'.objs.size (.tup ys)) {s with heap:=h'.push {cls:=.type "tuple",data:=.seq its.toArray}} :=
   I1.laid (t':=s.toks) (λb o e=>wn _ e) (wo _) (show dN X.prog X.w _ _ _ (.tup ys)from⟨hz,its,r',Qx _ _⟩)
  exact⟨.ref h'.objs.size,_,I2,rfl,q _ (I1.aI.fresh (wo _))⟩
 ·obtain⟨its,r',pl,hz⟩:=I.tuple hq
  exact call_tuple_same pl ⟨.ref p,H,I,rfl,q⟩
def Al(K:wb)(T:String)(x:V)(H:Hp):Prop:=match x with
 | .str _=>T="str"
 | .int _=>T="int"
 | .ref p=>(T="list" /\ ∃xs,aO K H p xs)\/(T="tuple" /\ ∃o,K.lookup p=some o/\o.cls=.type "tuple"/\o.dict=none) \/
     (T="dict"/\((∃kvs,H p=some (.dK kvs)) \/ ∃kvs,H p=some (.dT kvs)))\/(T="set" /\ ∃S n,H p=some (.set S n))
 | _=>False
theorem zDx{pins:List (we × Obj)}{s:wl}{T:String}{v:wg}(I:Inv X pins σ H s)(r:bj x v)(ty:Al X.K T x H) :
  s.TypeIs v T /\ ∀a,v=.ref a->∃ob,s.heap.get? a=some ob/\ob.dict=none:=by
 cases x with
 | str z =>
  obtain⟨t,rfl⟩:=r;cases (show T="str" from ty);exact⟨typeIs_str s z t,λ_ e=>nomatch e⟩
 | int i =>
  obtain⟨t,rfl⟩:=r;cases (show T="int" from ty);exact⟨typeIs_int s i t,λ_ e=>nomatch e⟩
 | ref p =>
  cases r;rcases ty with⟨rfl,xs,hq⟩ | ⟨rfl,o,hk,hc,hd⟩ | ⟨rfl,hk⟩ | ⟨rfl,S,n,hk⟩
  ·obtain⟨its,_,pl,_⟩:=I.list hq
   refine⟨pl.isList.typeIs,λa e=>?_⟩;cases e;obtain⟨o,n,e,c,hd,_⟩:=pl;exact⟨o,e,hd⟩
  ·refine⟨⟨o,I.dS p o hk,hc⟩,λa e=>?_⟩
   cases e;exact⟨o,I.dS _ o hk,hd⟩
  ·have z:∃o,s.heap.get? p=some o/\o.ExactDict:=by
    rcases hk with⟨kvs,hk⟩ | ⟨kvs,hk⟩
    ·obtain⟨_,_,_,_,o,_,_,e,ex,_⟩:=I.aI p _ hk
     exact⟨o,e,ex⟩
    ·obtain⟨_,_,_,_,o,_,_,e,ex,_⟩:=I.aI p _ hk
     exact⟨o,e,ex⟩
   obtain⟨o,e,ex⟩:=z;refine⟨⟨o,e,ex.1⟩,λa e2=>?_⟩;cases e2;exact⟨o,e,ex.2.1⟩
  ·obtain⟨o,_,_,_,e,ex,_⟩:=I.aI p _ hk
   refine⟨⟨o,e,ex.1⟩,λa e2=>?_⟩;cases e2;exact⟨o,e,ex.2.1⟩
 | _=>exact W1 ty
def Ru(K:wb)(T:String)(r:V->List V->Hp->VK->Prop)(to:TE)(t:TA):TE:=λσ H Q=>to σ H λx H1=>Al K T x H1/\t σ H1 λxs H2=>r x xs H2 Q
variable{o e:Expr}{es:List Expr}{to:TE}{t:TA}{name:Str}{apos cpos:Pos}{T id:String}{r:V->List V->Hp->VK->Prop}
theorem nX(pa:PlainAttrs T)(slot:Slot T name id)(hty:typeOf (.builtin id)=pure (.type "method_descriptor"))(hm:Rp X id r)(ho:PE X o to)(ha:PA X (e::es) t)
  (hbase:attributeBase o name X.env (eval o X.env)=eval o X.env:=by rfl)
  (hfew:((backTo cpos (w5 (e::es) X.env)).all (λx=>!x.1)&&(backToKw cpos (keywordEach [] X.env)).all (λx=>x.1.isSome)
   && decide ((e::es).length+([]:List Keyword).length+(if([]:List Keyword).isEmpty then 0 else 1)<30))=true:=by rfl)
  (hline:(apos.endLine == cpos.line)=true:=by rfl) (hs:w5 (e::es) X.env=(false,eval e X.env)::w5 es X.env:=by rfl) (hplain:(backTo cpos (w5 es X.env)).any (·.1)=false:=by rfl) :
  PE X (.Call (.Attribute o name apos) (e::es) [] cpos) (Ru X.K T r to t):=by
 intro pins s σ H Q I h;refine wpAny_Call_method_late hbase hfew hline rfl (aK (ho pins s σ H _ I h) λv s1 ⟨x,H1,I1,r1,ty,q1⟩=>?_);obtain⟨h1,h2⟩:=zDx I1 r1 ty;refine⟨T,id,pa,slot,hty,h1,h2,?_⟩;have hA:=ha cpos pins s1 σ H1 _ I1 q1;rw[hs]at hA ⊢;refine Calls.callWith_builtin (by show(false || (backTo cpos (w5 es X.env)).any (·.1))=false;rw[hplain]<;>rfl) (Xf ?_);exact aK hA λus s2 ⟨vs,H2,I2,r2,q2⟩=>hm pins s2 σ H2 x vs v us Q I2 r1 r2 q2
end
def MtM(X:Cx)(id:String)(r:V->List V->Hp->VK->Prop):Prop :=
 ∀(pins:List (we × Obj))(s:wl)(σ : St)(H:Hp)(x:V)(xs:List V)(v:wg)(us:List wg)(Q:VK),Inv X pins σ H s->bj x v->aT xs us->r x xs H Q ->
  wx (model X.prog X.w) X.A (call (.builtin id) (v::us)) (EP X pins σ Q) X.xe s
theorem aT.one:∀{x:V}{us:List wg},aT [x] us->∃u,us=[u]/\bj x u
 | _,_,.cons r .nil=>⟨_,rfl,r⟩
theorem aT.rep{xs:List V}{us:List wg}(h:aT xs us):∀k:Nat,aT (vc k xs).flatten (vc k us).flatten
 | 0=>.nil
 | k+1=>by
  rw[qd,qd,VM,VM];exact aT.append h (aT.rep h k)
theorem RJ(its:List wg):∀(k:Nat)(acc:List wg),
  uE (λx1 x2=>x1++x2) acc.toArray (vc k its.toArray)=(acc++(vc k its).flatten).toArray
 | 0,acc=>by simp
 | k+1,acc=>by
  have e:acc.toArray++its.toArray=(acc++its).toArray:=by simp
  have e2:(acc++its)++(vc k its).flatten=acc++(vc (k+1) its).flatten:=by
   rw[qd,VM,Vh]
  rw[<- e2,<- RJ its k (acc++its),<- e,qd,uF]
section
variable{X:Cx}{pins:List (we × Obj)}{σ : St}{H:Hp}{s:wl}{l b:we}{xs ys zs:List V}
theorem Inv.Zd{its its':List wg}{n:Nat}{f:Array wg->Array wg}{t':Nat}(I:Inv X pins σ H s)(hH:H l=some (.lst xs))
  (e:s.heap.get? l=some {cls:=.type "list",data:=.seq its.toArray n}) (hf:f its.toArray=its'.toArray) (hv:aT ys its') (hz:ys.length<=w8) :
  Inv X pins σ (upd H l (.lst ys)) {s with heap:=s.heap.update l (xf f),toks:=t'}:=by
 have q:=PySem.IsL.update e f;rw[hf]at q;refine I.write (x:=l) (e:=l) (by rw[hH];exact trivial) (.inl rfl) (λb' u hb hu=>(Qs s.heap (xf f) (WE hb)).trans hu) ⟨_,q⟩ ?_;exact⟨hz,its',_,hv,q⟩
theorem Inv.Bc{its:List wg}{t':Nat}(I:Inv X pins σ H s)(hv:aT ys its)(hz:ys.length<=w8) :
  Inv X pins σ (upd H s.heap.objs.size (.lst ys)) {s with heap:=s.heap.push {cls:=.type "list",data:=.seq its.toArray},toks:=t'} :=
 I.laid (λ_ _ q=>wn _ q) (wo _) ⟨hz,its,0,hv,wN _ rfl⟩
theorem Inv.fresh(I:Inv X pins σ H s):H s.heap.objs.size=none:=I.aI.fresh (wo _)
theorem Inv.sG(I:Inv X pins σ H s)(hH:H l=some (.lst xs)):xs.length<=w8 /\ ∃(its:List wg)(n:Nat),aT xs its/\xs.length=its.length/\s.heap.get? l=some {cls:=.type "list",data:=.seq its.toArray n}:=by
 obtain⟨z,its,n,r,e⟩:=I.aI l _ hH;exact⟨z,its,n,r,r.length,e⟩
theorem zyX{n:Nat}(h:n<=w8):qX n=false:=by
 unfold qX;exact decide_eq_false (by lia)
end
section
variable{X:Cx}
def P0:V->List V->Hp->VK->Prop:=λx vs H Q=>∃l xs y,x=.ref l/\vs=[y]/\H l=some (.lst xs)/\xs.length<w8/\Q .a_ (upd H l (.lst (xs++[y])))
theorem lH:MtM X "list.append" P0:=by
 intro pins s σ H x vs v us Q I rx rv h;obtain⟨l,xs,y,rfl,rfl,hH,hz,q⟩:=h;cases rx;obtain⟨u,rfl,ru⟩:=rv.one;obtain⟨z,its,n,r,hl,e⟩:=I.sG hH;refine call_meets F.slot_list_append ⟨_,e,rfl⟩ F.entry_list_append (F.args_list_append_2 _ _) (PySem.list_append l its.toArray n u (by rw[wO];lia)) ⟨e,?_⟩;refine⟨.a_,_,I.Zd (its':=its++[u]) hH e (by simp) (r.append (.cons ru .nil)) ?_,rfl,q⟩;rw[wR,vV]
 lia
def F5:R2:=λx y H Q=>∃l b xs zs,x=.ref l/\y=.ref b/\H l=some (.lst xs)/\H b=some (.lst zs)/\xs.length+zs.length<=w8 /\ ∀p,H p=none->Q (.ref p) (upd H p (.lst (xs++zs)))
theorem Z1:aN X (WC .Add) F5:=by
 intro pins s σ H x y v u Q I rx ry h;obtain⟨l,b,xs,zs,rfl,rfl,hH,hB,hz,q⟩:=h;cases rx;cases ry;obtain⟨z,its,n,r,hl,e⟩:=I.sG hH;obtain⟨z2,its2,n2,r2,hl2,e2⟩:=I.sG hB;refine PySem.P.add_list e e2 ?_ (by rw[wO,wO];lia);have ea:its.toArray++its2.toArray=(its++its2).toArray:=by simp
 rw[ea];exact⟨.ref _,_,I.Bc (t':=s.toks) (r.append r2) (by rw[wR];lia),rfl,q _ I.fresh⟩
def rq:R2:=λx y H Q=>∃l k xs,x=.ref l/\y=.int k/\H l=some (.lst xs) /\ -(2^63)<=k/\k<2^63/\xs.length*k.toNat<=w8 /\
 ∀p,H p=none->Q (.ref p) (upd H p (.lst (vc k.toNat xs).flatten))
theorem zAJ{α : Type}(xs:List α)(k:Nat):(vc k xs).flatten.length=k*xs.length:=by
 induction k with
 | zero=>simp
 | succ k ih=>rw[qd,VM,wR,ih,qB,QC]
theorem OW:aN X (WC .Mult) rq:=by
 intro pins s σ H x y v u Q I rx ry h;obtain⟨l,k,xs,rfl,rfl,hH,h1,h2,hz,q⟩:=h;cases rx;obtain⟨t,rfl⟩:=ry;obtain⟨z,its,n,r,hl,e⟩:=I.sG hH;have hlen:its.toArray.size*k.toNat<=w8:=by rw[wO,<- hl];exact hz
 have hcap:¬ its.toArray.size*k.toNat > (2^63-1) / 8:=by
  have:(w8:Nat)<=(2^63-1) / 8:=by decide
  lia
 have hfit:¬ (!Builtin.List.listFitsIndex k)=true:=by
  rw[fitsIndex_both h1 h2];exact vF
 have hlong:¬ qX (its.toArray.size*k.toNat)=true:=by
  rw[zyX hlen];exact vF
 have hnew:uE (λx1 x2=>x1++x2) #[] (vc (if its.toArray.isEmpty=true then 0 else k.toNat) its.toArray)=(vc k.toNat its).flatten.toArray:=by
  have f0:∀m:Nat,uE (λx1 x2=>x1++x2) #[] (vc m its.toArray)=(vc m its).flatten.toArray:=λm=>by
   have:=RJ its m [];rw[QD]at this;exact this
  rw[f0];cases its with
  | nil=>simp
  | cons a r'=>rw[if_neg (by simp)]
 refine wpAny_binaryOp_repeat_ref (T:="list") (U:="int") (by decide) ⟨_,e,rfl⟩ (λs'=>typeIs_int s' k t) noFill_list_mul F.fills_int_mul uG repeat_list F.slot_int_index.lookup
  (call_meets uG (typeIs_int s k t) F.entry_int_rmul (F.args_int_rmul_2 _ _) (int___rmul___int_list k t l its.toArray n)
   ⟨e,rfl,⟨_,e,rfl⟩,call_meets F.slot_list_mul ⟨_,e,rfl⟩ F.entry_list_mul (F.args_list_mul_2 _ _) (AutoListH.list___mul___list_int_3 l its.toArray n k t hfit hcap hlong) ⟨e,?_⟩⟩)
 rw[hnew];exact⟨.ref _,_,I.Bc (t':=s.toks) (r.rep k.toNat) (by rw[zAJ,V5];exact hz),rfl,q _ I.fresh⟩
end
section
variable{prog:wI}{w:wJ}{A:vb}{E:wg->wl->Prop}{s:wl}
end
section
variable{X:Cx}
end
end L2
namespace Att
open PySem PySem.W PySem.Calls PyProof.Rows
theorem zmt{P:Params}{h:wG} : ∀(ns:List Int)(vs:List wg),WellAll P h vs (ns.map WData.int)->IntsAre vs ns:=by
 intro ns
 induction ns with
 | nil =>
  intro vs w;rw[xl]at w;cases w;exact .nil
 | cons n ns ih =>
  intro vs w;rw[vd]at w;cases w with
  | cons a b =>
   cases a;exact .cons _ _ (ih _ b)
theorem zwS{l:OpenLaw}{n:Nat}(hn:l.most=some n){P:Params}{h:wG}{args:List WData}{vals:List wg}
  (hpre:l.row.toRowW.claim.pre args=true) (hwl:WellAll P h vals args) :
  ∃a vs ns,vals=[Value.ref a]/\args=[WData.list (ns.map WData.int)]/\h.get? a=some {cls:=.type "list",data:=.seq vs.toArray}/\IntsAre vs ns/\ns.length<=n:=by
 have hsh:WShape.hasAll [] args [.list .int]=true:=(pre_splitW hpre).1;have hc:l.pre.holds [] {args:=args}=true:=(pre_splitW hpre).2;obtain⟨d,r,rfl,h1,h2⟩:=hasAllW_cons hsh;obtain rfl:=hasAllW_nil h2;obtain⟨xs,rfl,h3⟩:=hasW_list h1;obtain⟨ns,rfl⟩:=items_int h3
 have hlen:ns.length<=n:=by
  unfold OpenLaw.pre at hc
  have h4:(WTm.not (.lt (.lit (.int (n:Int))) (.len (.arg 0)))).holds [] {args:=[.list (ns.map .int)]}=true:=by
   have h4:=(holds_andW hc).1;rw[hn]at h4;exact h4
  have h5:=condW_of h4 (w_not (w_lt w_lit (w_len_list (w_arg rfl))));rw[wm]at h5;refine Nat.le_of_not_lt λq=>?_
  have q':(n:Int)<((ns.length:Nat):Int):=by lia
  first
   | (rw[decide_eq_true q']at h5;exact absurd h5 (by decide))
   | (simp at h5;lia)
 cases hwl with
 | cons w1 w2 =>
  cases w2;cases w1 with
  | list ho hall=>exact⟨_,_,ns,rfl,rfl,ho,zmt ns _ hall,hlen⟩
theorem zwU(l:OpenLaw)(args:List WData):l.row.toRowW.claim.post args (.bool true) args=true :=
 postW_of (r:=l.row.toRowW) (X:=(true == true))
  (show WShape.has [] (.bool true) .bool=true by first | rfl | decide | simp[WShape.has,WShape.arms,WShape.armsAll])
  (show(WTm.eq .res (.lit (.bool true))).value [] {args:=args,res:=some (.bool true),after:=args}=some (.bool (true == true))from w_eq_bool (w_res rfl) w_lit) rfl
theorem YO{l:OpenLaw}{n:Nat}{q:wI}{loose:List Str}{XP:(Str->Option wg)->wG->Prop}{YP:wJ->wG->Prop}{d:DefRec}
  (hn:l.most=some n) (hdf:d.params.defaults=[])
  (call:∀(w:wJ)(s₀ s₁ : wl)(mg mb:Str->Option wg)(fa:we)(o:Obj)(pm cd doc:wg)(a:we)(vs:List wg)(ns:List Int),
   Ground q loose [] XP w s₀ mg mb s₁.heap->YP w s₁.heap ->
   s₁.heap.get? fa=some o->o.data=.func (docDef d.name d.params d.body d.scope pm cd doc)->s₁.heap.CodeRec cd d.name->mg d.name=some (.ref fa) ->
   s₁.heap.get? a=some {cls:=.type "list",data:=.seq vs.toArray}->IntsAre vs ns->ns.length<=n->s₁.gens = #[] ->
   codeAny (model l.prog w) callerA (.call (.ref fa) ⟨[.ref a],[]⟩) (λr s'=>r=.ok (.ret (.bool true))/\OldK s₁.heap s'.heap/\s'.os=s₁.os/\AllBare s'.gens) s₁) :
  WalkO q loose XP YP l.row.toRowW d [] (λf vs=>uH f vs):=by
 intro w s₀ s₁ mg mb G Y fa o pm cd doc dV kV ho hd hcd hD hmg hg args vals as hpre hlay hrd hwl hlo;obtain rfl:dV=.none:=Dflts.none hD hdf;obtain rfl:kV=.none:=Dflts.noKw hD;obtain⟨a,vs,ns,rfl,rfl,hobj,hints,hlen⟩:=zwS hn hpre hwl;refine enter_call (codeAny_mono (call w s₀ s₁ mg mb fa o pm cd doc a vs ns G Y ho (fd_plain hd) hcd hmg hobj hints hlen hg) λr s' hq=>?_);obtain⟨rfl,h2,h3,h4⟩:=hq;exact⟨.inl ⟨.bool true,.bool true,[],rfl,λ_=>rfl,.bool true,zwU l _,λ_=>⟨Q5.nil,λ_ hm=>(nomatch hm)⟩⟩,h2,h3,h4⟩
section
variable{prog:wI}{w:wJ}{A:vb}{E:wg->wl->Prop}{s:wl}{K:Frag}
def zE0(h:wG)(L d:we):List (we × Obj):=(wt h.objs.size).filterMap λa=>if a=L\/a=d then none else(h.get? a).map λo=>(a,o)
end
end Att
namespace L2
open PySem PySem.Spec PyProof.Rows
theorem MQ:∀{vs:List wg}{ns:List Int},IntsAre vs ns->aT (ns.map V.int) vs
 | _,_,.nil=>.nil
 | _,_,.cons n t h=>.cons ⟨t,rfl⟩ (MQ h)
def Az(H:Hp):Prop:=∀b,H b=none \/ ∃o xs,H b=some (.gF o (.lst xs))
theorem Zw{P:wI}{w:wJ}{K:wb}{mg mb:Str->Option wg}{CX:gf}{k:Nat}{fa a:we}{fd:wE}{x:Str}{sp:Sp}{s₁ : wl}{vs:List wg}{ns:List Int}
   (KX:K.In s₁.heap) (hns:s₁.heap.Ns wS mg) (hb:s₁.heap.Ns builtinsNs mb) (hbb:∀x:Str,x≠"__name__" -> mb x=vN x) (hlim:s₁.heap.NoLimit) (hg:s₁.gens = #[])
   (ha:s₁.heap.get? a=some {cls:=.type "list",data:=.seq vs.toArray}) (hi:IntsAre vs ns) (hl:ns.length<=w8) (hr:eA k callerA)
   (F:∀base:wG,K.In base->base.Ns wS mg->aG P w K mg base CX k fa fd [x] sp) (hbind:∀(s:wl)(u:wg),BindsTo s fd ⟨[u],[]⟩ [(x,u)])
   (hsp:∀H:Hp,Az H->aO K H a (ns.map V.int)->sp [.ref a] H (λv _=>v=.bl true) λ_ _ _=>False)
   (hCX:∀H e s',CX [] H s₁ (λ_ _ _=>False) e s'->False) :
   codeAny (model P w) callerA (.call (.ref fa) ⟨[.ref a],[]⟩) (λr s'=>r=.ok (.ret (.bool true))/\OldK s₁.heap s'.heap/\s'.os=s₁.os/\AllBare s'.gens) s₁:=by
 have rv:=MQ hi;have lenV:=hi.length
 have core:∀H:Hp,Az H->aO K H a (ns.map V.int)->dB P w H s₁.heap->(∀b,H b≠none->b=a)->(H a≠none->K.lookup a=none) ->
     codeAny (model P w) callerA (.call (.ref fa) ⟨[.ref a],[]⟩) (λr s'=>r=.ok (.ret (.bool true))/\OldK s₁.heap s'.heap/\s'.os=s₁.os/\AllBare s'.gens) s₁:=by
   intro H hO hS aI hA hK;have base_of:∀{b:we}{o:Obj},s₁.heap.get? b=some o->H b=none->(kq s₁.heap H).get? b=some o:=λe n=>zzJ e n
   have noA:∀{b:we}{o:Obj}{es:Array DictEntry}{ep:Nat},s₁.heap.get? b=some o->o.data=.dict es ep->H b=none:=λ{b o es ep} e d=>by
     cases q:H b with
     | none=>rfl
     | some u =>
       have e':b=a:=hA b (by rw[q];simp);subst e';rw[ha]at e;cases e;have d':Data.seq vs.toArray _=Data.dict es ep:=d;cases d'
   have nsK:∀{b:we}{m:Str->Option wg},s₁.heap.Ns b m->(kq s₁.heap H).Ns b m:=λ{b m} ⟨o,es,ep,e,d,r⟩=>⟨o,es,ep,base_of e (noA e d),d,r⟩
   have hKb:K.In (kq s₁.heap H):=λb o e=>base_of (KX b o e) (by
     cases q:H b with
     | none=>rfl
     | some u =>
       have e':b=a:=hA b (by rw[q];simp);subst e';rw[hK (by rw[q];simp)]at e;cases e)
   have hM:Mod K mg (kq s₁.heap H):=⟨hKb,nsK hns,⟨mb,nsK hb,hbb⟩,let ⟨mc,h1,h2⟩:=hlim;⟨mc,nsK h1,h2⟩⟩;have e0:Ax P w K mg (kq s₁.heap H) callerA [] s₁ H:=⟨rfl,hM,λb o e=>zBx e,Nat.le_of_eq (zxt _ _),trivial,λb hb=>absurd (show b∈([]:List we)from hb) (by simp),aI,.of_eq hg⟩;refine codeAny_mono ((F _ hKb (nsK hns)).run callerA [] s₁ H ⟨[.ref a],[]⟩ [.ref a] [.ref a] _ _ hr e0 (hbind s₁ (.ref a)) (.cons rfl .nil) (hsp H hO hS)) λr s' h=>?_
   cases r with
   | error e=>exact(hCX H e s' h).elim
   | ok fl =>
     cases fl with
     | next=>exact W1 h
     | brk=>exact W1 h
     | cont=>exact W1 h
     | ret u =>
       obtain⟨v,H',os,bare,un,hok',r',q⟩:=h;have q':v=.bl true:=q;subst q';obtain rfl:u=Value.bool true:=r';refine⟨rfl,OldK.of_keep λb o e=>?_,os,bare⟩;cases q:H b with
       | none=>exact un.keep b o e q (by intro z;exact absurd (show b∈([]:List we)from z) (by simp)) (by simp)
       | some u =>
         rcases hO b with z | ⟨ob,xs,z⟩
         . rw[q]at z;cases z
         . have z2:=un.g_ b ob _ z
           obtain⟨e1,_⟩:=aI b _ z;obtain⟨e2,_⟩:=hok' b _ z2;rw[e]at e1;cases e1;exact e2
 cases hk:K.lookup a with
 | some o =>
   have e:=KX a o hk;rw[ha]at e;cases e;refine core (λ_=>none) (λ_=>.inl rfl) (.inr ⟨_,vs.toArray,_,hk,rfl,rfl,rfl,by rw[wO,lenV];exact hl,by simpa using rv⟩) (λb u z=>by have z':(none:Option HO)=some u:=z;cases z') (λb z=>absurd rfl z) λz=>absurd rfl z
 | none =>
   refine core (λb=>if b=a then some (.gF {cls:=.type "list",data:=.seq vs.toArray} (.lst (ns.map V.int)))else none) (λb=>?_) (.inl (.inr ⟨{cls:=.type "list",data:=.seq vs.toArray},if_pos rfl⟩)) (λb u z=>?_) (λb z=>?_) λ_=>hk
   . by_cases hb:b=a
     . exact .inr ⟨_,_,if_pos hb⟩
     . exact .inl (if_neg hb)
   . by_cases hb:b=a
     . have z':=(if_pos hb).symm.trans z
       cases z';subst hb;exact⟨ha,by rw[wm];exact hl,vs,_,rv,ha⟩
     . have z':=(if_neg hb).symm.trans z
       cases z'
   . by_cases hb:b=a
     . exact hb
     . exact absurd (if_neg hb) z
abbrev KOf{K:wb}{h:wG}(_:K.In h):wb:=K
theorem YZ{l:xA}{n k:Nat}{q:wI}{loose:List Str}{XP:(Str->Option wg)->wG->Prop}{YP:wJ->wG->Prop}{d:DefRec}{K:Params->wb}{CX:wJ->gf}{sp:wJ->Sp}{x:Str}
  (hn:l.most=some n) (hn2:n<=w8) (hdf:d.params.defaults=[]) (hr:eA k callerA)
  (hY:∀(w:wJ)(h:wG),YP w h->(K w.params).In h)
  (F:∀(w:wJ)(mg:Str->Option wg)(fa:we)(h:wG),(K w.params).In h->h.Ns wS mg->mg d.name=some (.ref fa) ->
   ∃fd:wE,(∀(s:wl)(u:wg),BindsTo s fd ⟨[u],[]⟩ [(x,u)]) /\
    ∀base:wG,(K w.params).In base->base.Ns wS mg->aG l.prog w (K w.params) mg base (CX w) k fa fd [x] (sp w))
  (hsp:∀(w:wJ)(H:Hp)(a:we)(ns:List Int),ns.length<=n->Az H->aO (K w.params) H a (ns.map V.int)->sp w [.ref a] H (λv _=>v=.bl true) λ_ _ _=>False)
  (hCX:∀(w:wJ)(H:Hp)(s:wl)(e:wg)(s':wl),CX w [] H s (λ_ _ _=>False) e s'->False) :
  Ue q loose XP YP l.row.toRowW d [] (λf vs=>uH f vs):=by
 refine Att.YO hn hdf λw s₀ s₁ mg mb fa o pm cd doc a vs ns G Y ho hd hcd hmg hobj hints hlen hg=>?_
 have KX:=hY w _ Y;obtain⟨fd,hb,hF⟩:=F w mg fa _ KX G.T.g hmg;exact Zw KX G.T.g G.T.b G.T.builtins G.T.nolimit hg hobj hints (Wa hlen hn2) hr hF hb (λH hO hS=>hsp w H a ns hlen hO hS) λH e s'=>hCX w H s₁ e s'
def m_(s:w9):Arguments:=match s with
 | .FunctionDef _ a _ _ _ _ _ _ _ _=>a
 | _=>{posonlyargs:=[],args:=[],vararg:=none,kwonlyargs:=[],kw_defaults:=[],kwarg:=none,defaults:=[]}
def lu(s:w9):List w9:=match s with
 | .FunctionDef _ _ b _ _ _ _ _ _ _=>b
 | _=>[]
def aH(s:w9):Scope:=match s with
 | .FunctionDef _ _ _ _ _ _ sc _ _ _=>sc
 | _=>{kind:=.function,names:=[],isGenerator:=false,isCoroutine:=false}
abbrev aS:gf:=λ_ _ _ _ _ _=>False
abbrev E0:XK:=λ_ _ _=>False
theorem zEl{X:Cx} : ng aS X E0:=λ_ _ _ _ _ _ _ h=>h.elim
structure lz(K:wb)(x qual:Str)(st:w9)(f:we)(fd:wE):Prop where
 ex:∃(oc:wg)(od:Option we)(kV doc pm:wg)(an:Option we)(cdv ct:wg)(osl:Array (Option wg)),
   fd=V3 x qual (m_ st) (lu st) (aH st) .none kV doc pm an cdv ct/\K.lookup f=some ⟨oc,od,.func fd,osl⟩/\QM K cdv qual=true
 kp:Qh K (.ref f)=true
section
variable{P:wI}{w:wJ}{K:wb}{mg:Str->Option wg}{base:wG}
variable{qual x:Str}{st:w9}{f:we}
theorem lz.ok{fd:wE}{N ps:List Str}{k:Nat}{sp:Sp}(F:lz K x qual st f fd)(S:aQ N ps (aH st))(len:∀vs H Q E,sp vs H Q E->vs.length=ps.length)
  (hbody:∀(cdv:wg)(A:vb)(outer:List Env)(s:wl)(H:Hp)(vs:List V)(Q:VK)(E:XK),eA k (A.deeper (envOfC qual (aH st) s.heap.objs.size f cdv))->sp vs H Q E ->
   ∃t,fL (iU aS P w K mg base N qual (aH st) f cdv A outer s H E).Af (lu st) t/\t {nx:=λ_ H'=>Q .a_ H',rt:=Q} (start N vs) H):aG P w K mg base aS (k+1) f fd ps sp:=by
 obtain⟨oc,od,kV,doc,pm,an,cdv,ct,osl,rfl,lk,hcd⟩:=F.ex;refine Lf lk hcd S len λA outer s H vs Q E hr hsp=>?_
 obtain⟨t,h,q⟩:=hbody cdv A outer s H vs Q E hr hsp;exact⟨t,h.Af,q⟩
theorem lz.binds{fd:wE}{ps:List Str}(F:lz K x qual st f fd)
  (h:∀(kV doc pm:wg)(an:Option we)(cdv ct:wg)(us:List wg),us.length=ps.length->bindArgs (V3 x qual (m_ st) (lu st) (aH st) .none kV doc pm an cdv ct) ⟨us,[]⟩=pure (ps.zip us)):lT K fd ps []:=by
 obtain⟨oc,od,kV,doc,pm,an,cdv,ct,osl,rfl,lk,hcd⟩:=F.ex;exact .all (h kV doc pm an cdv ct)
theorem OI{oc:wg}{od an:Option we}{osl:Array (Option wg)}{kV doc pm cdv ct:wg}(l:K.lookup f=some ⟨oc,od,.func (V3 x qual (m_ st) (lu st) (aH st) .none kV doc pm an cdv ct),osl⟩)
  (c:QM K cdv qual=true) (k:Qh K (.ref f)=true):lz K x qual st f (V3 x qual (m_ st) (lu st) (aH st) .none kV doc pm an cdv ct):=⟨⟨oc,od,kV,doc,pm,an,cdv,ct,osl,rfl,l,c⟩,k⟩
end
theorem jI{n:Nat}(h:n<=1000):n<w8:=W7 h (by decide)
section
variable{X:Cx}
theorem pv(i:Nat){x:Str}{pos:Pos}(hN:X.N[i]? = some x:=by rfl)(hv:Ab X.env.scope x:=by first | exact Or.inl rfl | exact Or.inr (Or.inl rfl) | exact Or.inr (Or.inr rfl))(hd:(x == ("__debug__" : Str))=false:=by decide)
  (hcd:(x == ("__classdict__" : Str))=false:=by decide):PE X (.Name x pos) (rM i):=zDJ hN hv hd hcd
end
theorem nR{A B:Prop}(h:B):if false=true then A else B:=by
 rw[if_neg vF];exact h
theorem nv{A B:Prop}(h:A):if true=true then A else B:=by
 rw[if_pos rfl];exact h
def ah(H H':Hp):Prop:=∀b o,H b=some o->H' b=some o
theorem ah.refl(H:Hp):ah H H:=λ_ _ h=>h
theorem ah.trans{H H1 H2:Hp}(a:ah H H1)(b:ah H1 H2):ah H H2:=λc o h=>b c o (a c o h)
theorem ah.seq{K:wb}{H H':Hp}{a:we}{xs:List V}(e:ah H H')(h:aO K H a xs):aO K H' a xs:=by
 rcases h with(h | ⟨o,h⟩) | h
 ·exact .inl (.inl (e _ _ h))
 ·exact .inl (.inr ⟨o,e _ _ h⟩)
 ·exact .inr h
end L2
namespace GM
variable{B t u:Int}{a b h x y:Rat}{c i j k m n v w:Nat}{l ps xs ys:List Rat}{ns:List Int}{left:List Nat}{fl:Nat->Nat}
def dv(t b:Int):Int:=if b<0 then -((vE t b:Nat):Int)else((vE t b:Nat):Int)
theorem Fi{b:Int}(hb:b≠0):0<vE t b:=qC t hb
theorem La{b:Int}(hb:b≠0):dv t b≠0:=by
 have:=Fi (t:=t) hb;unfold dv
 split<;>lia
theorem fI{a d:Int}(h:d ∣ a)(hd:d≠0):a.fdiv d=a / d:=by
 obtain⟨k,rfl⟩:=h;rw[Int.mul_fdiv_cancel_left _ hd,V6 _ hd]
theorem TJ{b:Int}(hb:b≠0):t.fdiv (dv t b)=(wB t b).num:=by
 have hg:=Fi (t:=t) hb;have h1:((vE t b:Nat):Int) ∣ t:=qG ..;rw[Rat.num_divInt,XF b t];unfold dv
 by_cases h:b<0
 ·rw[if_pos h,Q6 h,fI (uc.mpr h1) (by lia),Int.ediv_neg]
  obtain⟨k,hk⟩:=h1;have:(-1:Int)*t=((vE t b:Nat):Int)*(-k):=by rw[uI,ud,<- hk]
  rw[this,V6 _ (by lia)];have e:t / ((vE t b:Nat):Int)=k:=QZ (by lia) hk;rw[e]
 ·rw[if_neg h,xL (by lia),xM,fI h1 (by lia)]
theorem Zk{b:Int}(hb:b≠0):b.fdiv (dv t b)=((wB t b).den:Int):=by
 have hg:=Fi (t:=t) hb;have h1:((vE t b:Nat):Int) ∣ b:=Qn ..;rw[u3,if_neg hb,XF b t];unfold dv
 by_cases h:b<0
 ·rw[if_pos h,fI (uc.mpr h1) (by lia),Int.ediv_neg,V7]
  obtain⟨k,hk⟩:=h1;have:(b.natAbs:Int)=((vE t b:Nat):Int)*(-k):=by rw[ud,<- hk];lia
  rw[this,V6 _ (by lia)];have e:b / ((vE t b:Nat):Int)=k:=QZ (by lia) hk;rw[e]
 ·rw[if_neg h,fI h1 (by lia),V7]
  have:(b.natAbs:Int)=b:=by lia
  rw[this]
def gO(p q:Int):Bool:=decide (1<=q)&&decide (vE p q=1)
theorem NO(r:Rat):gO r.num r.den=true:=by
 have h:=r.reduced;have hd:=r.den_pos;simp only[gO,wZ,decide_eq_true_eq];refine⟨by lia,?_⟩;have:Nat.gcd r.num.natAbs r.den=1:=h
 simpa [vE] using this
theorem zqU{p q:Int}(h:gO p q=true):∃r:Rat,p=r.num/\q=(r.den:Int):=by
 simp only[gO,wZ,decide_eq_true_eq]at h;obtain⟨h1,h2⟩:=h;refine⟨⟨p,q.toNat,by lia,?_⟩,rfl,by show q=((q.toNat:Nat):Int);lia⟩;have e:q.toNat=q.natAbs:=by lia
 rw[e];exact h2
theorem MI{a b:Int}(hb:0<b)(ha:0<=a):vE b (a % b)=vE a b:=by
 rw[XF a b];have e:a=a % b+b*(a / b):=(Int.emod_add_mul_ediv a b).symm
 conv=>rhs;rw[e]
 rw[Int.gcd_add_mul_left_right]
structure Bd(n:Nat)(x:Int):Prop where
 lt:x.natAbs<2^n
theorem Bd.mono{x:Int}(h:Bd m x)(e:m<=n):Bd n x:=⟨wV h.lt (Xg (by decide) e)⟩
theorem Bd.mul{x y:Int}(h:Bd m x)(k:Bd n y):Bd (m+n) (x*y):=by
 refine⟨?_⟩;rw[xW,QV];exact Nat.mul_lt_mul'' h.lt k.lt
theorem Bd.add{x y:Int}(h:Bd m x)(k:Bd n y):Bd (max m n+1) (x+y):=by
 have h1:=(h.mono (uJ m n)).lt;have h2:=(k.mono (um m n)).lt;refine⟨?_⟩;rw[WY]
 lia
theorem Bd.sub{x y:Int}(h:Bd m x)(k:Bd n y):Bd (max m n+1) (x-y):=by
 have h1:=(h.mono (uJ m n)).lt;have h2:=(k.mono (um m n)).lt;refine⟨?_⟩;rw[WY]
 lia
theorem Bd.neg{x:Int}(h:Bd n x):Bd n (-x):=⟨by rw[Int.natAbs_neg];exact h.lt⟩
theorem Bd.le{x y:Int}(h:Bd n x)(e:y.natAbs<=x.natAbs):Bd n y:=⟨W7 e h.lt⟩
theorem Bd.log{x:Int}(h:Bd n x)(hn:0<n):x.natAbs.log2<n:=by
 by_cases e:x.natAbs=0
 ·rw[e];exact hn
 ·exact(Nat.log2_lt e).mpr h.lt
theorem zCN(t b:Int)(hb:b≠0):(wB t b).num.natAbs<=t.natAbs:=by
 rw[<- TJ hb]
 have h1:dv t b ∣ t:=by
  have:((vE t b:Nat):Int) ∣ t:=qG ..;unfold dv;split
  ·exact uc.mpr this
  ·exact this
 rw[fI h1 (La hb)];exact xg t _
theorem BC(t b:Int)(hb:b≠0):(wB t b).den<=b.natAbs:=by
 rw[u3,if_neg hb];exact Nat.div_le_self _ _
structure ag(n:Nat)(x:Rat):Prop where
 t:Bd n x.num
 b:Bd n (x.den:Int)
theorem ag.mono(h:ag m x)(e:m<=n):ag n x:=⟨h.t.mono e,h.b.mono e⟩
theorem ag.divInt{b:Int}(hb:b≠0)(h1:Bd n t)(h2:Bd n b):ag n (wB t b) :=
 ⟨h1.le (zCN t b hb),h2.le (by have:=BC t b hb;simpa using this)⟩
theorem Bd.kC{m:Int}(h1 : -100000000000000000000000000000000000000<=m)(h2:m<=100000000000000000000000000000000000000):Bd 128 m:=⟨by
 have e:(2:Nat)^128=340282366920938463463374607431768211456:=by decide
 rw[e]
 lia⟩
theorem gT(x:Rat):(x.den:Int)≠0:=by have:=x.den_pos;lia
theorem den_pos(x:Rat):(0:Int)<(x.den:Int):=by have:=x.den_pos;lia
theorem B3(x y:Rat):(x.den:Int)*(y.den:Int)≠0:=xB (gT x) (gT y)
theorem zCD(x y:Rat):wB (x.num*(y.den:Int)+y.num*(x.den:Int)) ((x.den:Int)*(y.den:Int))=x+y:=by
 rw[<- VD,xm,Rat.add_def']
theorem Rf(x y:Rat):wB (x.num*(y.den:Int)-y.num*(x.den:Int)) ((x.den:Int)*(y.den:Int))=x-y:=by
 rw[<- VD,xm,Rat.sub_def']
theorem LD(x y:Rat):wB (x.num*y.num) ((x.den:Int)*(y.den:Int))=x*y:=by
 rw[<- VD,xm,Rat.mul_def']
theorem Mf(x y:Rat):wB (x.num*(y.den:Int)) ((x.den:Int)*y.num)=x / y:=by
 rw[xN,Rat.inv_def,<- xX,Vy]
theorem zEA(x y:Rat):decide (x.num*(y.den:Int)<y.num*(x.den:Int))=decide (x<y):=by
 rw[vL,decide_eq_true_eq,decide_eq_true_eq,Rat.lt_iff]
theorem yf(h:y≠0):y.num≠0:=λe=>h (Rat.num_eq_zero.mp e)
theorem ag.add(h:ag m x)(k:ag n y):ag (m+n+1) (x+y):=by
 rw[<- zCD];refine ag.divInt (B3 x y) ?_ ((h.b.mul k.b).mono (by lia));exact((h.t.mul k.b).add (k.t.mul h.b)).mono (by lia)
theorem ag.sub(h:ag m x)(k:ag n y):ag (m+n+1) (x-y):=by
 rw[<- Rf];refine ag.divInt (B3 x y) ?_ ((h.b.mul k.b).mono (by lia));exact((h.t.mul k.b).sub (k.t.mul h.b)).mono (by lia)
theorem ag.mul(h:ag m x)(k:ag n y):ag (m+n) (x*y):=by
 rw[<- LD];exact ag.divInt (B3 x y) (h.t.mul k.t) (h.b.mul k.b)
theorem ag.zero :ag 1 0:=⟨⟨by decide⟩,⟨by decide⟩⟩
theorem ag.one :ag 1 1:=⟨⟨by decide⟩,⟨by decide⟩⟩
def aD(a b:Rat):Nat->Rat
 | 0=>0
 | n+1=>a*aD a b n+b
def push(a b:Rat):Nat->Rat->Rat
 | 0,x=>x
 | n+1,x=>a*push a b n x+b
theorem hW(a b:Rat)(n:Nat)(x:Rat):push a b n x=a^n*x+aD a b n:=by
 induction n with
 | zero=>simp[push,aD,Rat.add_zero,V8]
 | succ n ih=>rw[push,ih,aD,WL];grind
theorem zzM(a b:Rat)(m n:Nat)(x:Rat):push a b (m+n) x=push a b n (push a b m x):=by
 induction n with
 | zero=>rfl
 | succ n ih=>rw[<- WS,push,push,ih]
theorem ag.pow(h:ag k a)(n:Nat):ag (k*n+1) (a^n):=by
 induction n with
 | zero=>rw[V8];exact ag.one.mono (by lia)
 | succ n ih=>rw[WL];exact(ih.mul h).mono (by rw[qY];lia)
theorem ag.aD(h:ag k a)(hb:ag k b)(n:Nat):ag ((2*k+1)*n+1) (aD a b n):=by
 induction n with
 | zero=>exact ag.zero.mono (by lia)
 | succ n ih=>exact((h.mul ih).add hb).mono (by rw[qY];lia)
theorem cY(t:Int)(hu:u≠0):(wB t u)*(u:Rat)=(t:Rat):=by
 rw[Rat.divInt_eq_div];exact W8 λz=>hu (Vn.mp z)
theorem j8(x:Rat):x*((x.den:Int):Rat)=(x.num:Rat):=by
 have:=cY x.num (gT x)
 rwa[Vy]at this
theorem fY(hu:u≠0)(h:x*(u:Rat)=(t:Rat)):wB t u=x:=by
 have h1:=cY t hu;have h2:(wB t u-x)*(u:Rat)=0:=by grind
 have h3:(u:Rat)≠0:=by
  intro z;exact hu (Vn.mp z)
 have:=xC.mp h2
 grind
theorem zxf(a b:Rat)(t u:Int)(hu:u≠0):wB (a.num*b.den*t+b.num*a.den*u) (u*a.den*b.den)=a*wB t u+b:=by
 refine fY (xB (xB hu (gT a)) (gT b)) ?_;have h1:=cY t hu;have h2:=j8 a;have h3:=j8 b;simp only[vS,qP]
 grind
theorem LK(a b:Rat)(n:Nat)(x y:Rat):push a b n y-push a b n x=a^n*(y-x):=by
 rw[hW,hW];grind
theorem mh(h:0<a)(n:Nat):0<a^n:=Rat.pow_pos h
theorem zua(h:1<a)(n:Nat):1<a^(n+1):=by
 induction n with
 | zero=>simpa using h
 | succ n ih =>
  rw[WL];have:=VZ (show 0<a^(n+1)-1 by grind) (show 0<a-1 by grind)
  grind
theorem LV(h0:0<a)(h:a<1)(n:Nat):a^(n+1)<1:=by
 induction n with
 | zero=>simpa using h
 | succ n ih =>
  rw[WL];have:=VZ (show 0<1-a^(n+1) by grind) h0
  grind
theorem one_pow'(n:Nat):(1:Rat)^n=1:=by
 induction n with
 | zero=>rfl
 | succ n ih=>rw[WL,ih,QW]
theorem lY(h:0<u):(0:Rat)<(u:Rat):=uK.mpr h
theorem zrR(hu:0<u)(ht:0<t):0<wB t u:=by
 have e:=cY t (show u≠0 by lia);have:=lY ht;rw[<- e]at this;exact(Rat.mul_pos_iff_of_pos_right (lY hu)).mp this
theorem Su{c:Int}(hu:0<u)(h:t<=c*u):wB t u<=(c:Rat):=by
 have e:=cY t (show u≠0 by lia);refine Rat.le_of_mul_le_mul_right (c:=(u:Rat)) ?_ (lY hu);rw[e,<- vS];exact Vt.mpr h
theorem ztW{c:Int}(hu:0<u)(h:t<c*u):wB t u<(c:Rat):=by
 have e:=cY t (show u≠0 by lia);refine Rat.lt_of_mul_lt_mul_right (c:=(u:Rat)) ?_ (vT (lY hu));rw[e,<- vS];exact xO.mpr h
theorem Nv(hu:0<u):((wB t u).den:Int)<=u:=by
 have:=BC t u (by lia)
 lia
theorem zwV{c:Int}(h:x<=(c:Rat)):x.num<=c*x.den:=by
 have:=(Xh x c).mp h
 simpa using this
theorem ZN(h:0<=x):0<=x.num:=Qi.mpr h
theorem ag.small{d:Nat}(h0:0<=x)(hc:x<=((c:Int):Rat))(hd:x.den<=d)(z:c*d<1024)(hd2:d<1024):ag 10 x:=by
 have h1:=zwV hc;have h2:=ZN h0;have h3:(c:Int)*(x.den:Int)<=(c:Int)*(d:Int):=Int.mul_le_mul_of_nonneg_left (by lia) (by lia);have h4:(c:Int)*(d:Int)<1024:=by rw[<- VD];lia
 refine⟨⟨?_⟩,⟨?_⟩⟩
 ·show _<1024
  lia
 ·show _<1024
  lia
theorem Tf{z:Int}(e:x=wB z u)(h1:1<=u)(h2:u<=8)(h3:1<=z)(h4:z<=4*u):0<x/\x<=4/\x.den<=8:=by
 subst e;refine⟨zrR (by lia) (by lia),Su (c:=4) (by lia) h4,?_⟩;have:=Nv (t:=z) (show 0<u by lia)
 lia
theorem C7{r:Int}(e:y=wB r u)(h1:1<=u)(h2:u<=12)(h3:0<=r)(h4:r<=u):0<=y/\y<=1/\y.den<=12:=by
 subst e;refine⟨XX h3 (by lia),Su (c:=1) (by lia) (by lia),?_⟩;have:=Nv (t:=r) (show 0<u by lia)
 lia
theorem ag.four :ag 3 4:=⟨⟨by decide +kernel⟩,⟨by decide +kernel⟩⟩
theorem m8{f:Rat->Rat}(h:i<xs.length):(xs.map f).getD i 0=f (xs.getD i 0):=by
 rw[wa,wa,wu,wc h]
 rfl
theorem zAn(ha:0<a)(n:Nat)(x y:Rat):push a b n x<push a b n y ↔ x<y:=by
 have e:=LK a b n x y;have p:=mh ha n
 constructor
 ·intro h
  have:0<a^n*(y-x):=by rw[<- e];grind
  have h2:=(Rat.mul_pos_iff_of_pos_left p).mp this
  grind
 ·intro h
  have:0<a^n*(y-x):=VZ p (by grind)
  grind
def dF(a b:Rat)(n:Nat)(xs:List Rat)(i:Nat):List Rat:=(xs.map λx=>push a b n (x+(1-xs.getD i 0))).set i 0
def aM(a b:Rat)(ns:List Int)(xs:List Rat):Nat->List Rat
 | 0=>xs
 | k+1=>dF a b (ns.getD k 0).toNat (aM a b ns xs k) k
theorem hV(a b:Rat)(n:Nat)(xs:List Rat)(i:Nat):(dF a b n xs i).length=xs.length:=by simp[dF]
theorem de(a b:Rat)(ns:List Int)(xs:List Rat):∀k,(aM a b ns xs k).length=xs.length
 | 0=>rfl
 | k+1=>by rw[aM,hV,de a b ns xs k]
theorem gJ(a b:Rat)(n:Nat)(xs:List Rat)(i j:Nat)(hj:j<xs.length):(dF a b n xs i).getD j 0=if j=i then 0 else push a b n (xs.getD j 0+(1-xs.getD i 0)):=by
 unfold dF;rw[wa,VN]
 by_cases h:i=j
 ·subst h
  simp[hj]
 ·rw[if_neg h,if_neg (WE h),wu,wc hj]
  simp[wa,hj]
def Cm(m:Nat)(xs:List Rat):Prop:=∃B:Int,0<B/\Bd m B /\ ∀x∈xs,∃t:Int,x=wB t B/\Bd m t
theorem Cm.mono(h:Cm m xs)(e:m<=n):Cm n xs:=by
 obtain⟨B,h0,h1,h2⟩:=h;exact⟨B,h0,h1.mono e,λx hx=>let ⟨t,e1,e2⟩:=h2 x hx;⟨t,e1,e2.mono e⟩⟩
theorem Cm.d4(h:Cm m xs)(hx:x∈xs):ag m x:=by
 obtain⟨B,h0,h1,h2⟩:=h;obtain⟨t,rfl,ht⟩:=h2 x hx;exact ag.divInt (by lia) ht h1
theorem Cm.pos(h:Cm m xs):1<=m:=by
 obtain⟨B,h0,h1,_⟩:=h;cases m with
 | zero=>have:=h1.lt;simp at this;lia
 | succ m=>lia
theorem Cm.get(h:Cm m xs)(i:Nat):ag m (xs.getD i 0):=by
 rcases wA i xs.length with z | z
 ·rw[wa,wc z]
  exact h.d4 (vK z)
 ·rw[wa,wL z]
  exact ag.zero.mono h.pos
theorem pE{a b:Rat}(ba:ag 10 a)(bb:ag 10 b){m:Nat}{t u:Int}(hu:0<u)(bt:Bd m t)(bu:Bd m u):∀n:Nat,0<u*((a.den:Int)*(b.den:Int))^n/\Bd (m+21*n) (u*((a.den:Int)*(b.den:Int))^n) /\
  ∃T:Int,push a b n (wB t u)=wB T (u*((a.den:Int)*(b.den:Int))^n)/\Bd (m+21*n) T
 | 0=>⟨by simpa using hu,by simpa using bu,t,by simp[push],by simpa using bt⟩
 | n+1=>by
  obtain⟨h1,h2,T,e,hT⟩:=pE ba bb hu bt bu n;have eb:u*((a.den:Int)*(b.den:Int))^(n+1)=u*((a.den:Int)*(b.den:Int))^n*(a.den:Int)*(b.den:Int):=by rw[V9,<- qi,qi (u*_)]
  rw[eb];refine⟨vQ (vQ h1 (den_pos a)) (den_pos b),((h2.mul ba.b).mul bb.b).mono (by lia),a.num*(b.den:Int)*T+b.num*(a.den:Int)*(u*((a.den:Int)*(b.den:Int))^n),?_,(((ba.t.mul bb.b).mul hT).add ((bb.t.mul ba.b).mul h2)).mono (by lia)⟩;rw[push,e];exact(zxf a b T _ (by lia)).symm
theorem Cm.mR(h:Cm m xs)(ba:ag 10 a)(bb:ag 10 b)(n i:Nat):Cm (m+2+21*n) (dF a b n xs i):=by
 obtain⟨B,h0,h1,h2⟩:=h
 have hz:∃z:Int,xs.getD i 0=wB z B/\Bd m z:=by
  rcases wA i xs.length with q | q
  ·rw[wa,wc q]
   exact h2 _ (vK q)
  ·rw[wa,wL q]
   exact⟨0,by simp,⟨by simp;exact Wi m⟩⟩
 obtain⟨z,ez,hz⟩:=hz;have key:=λ(t:Int)(ht:Bd m t)=>pE ba bb h0 (show Bd (m+2) (t+B-z)from((ht.add h1).sub hz).mono (by lia)) (h1.mono (by lia)) n
 obtain⟨p1,p2,_⟩:=key 0 ⟨by simp;exact Wi m⟩;refine⟨_,p1,p2,λx hx=>?_⟩
 have hx':x=0 \/ ∃y∈xs,x=push a b n (y+(1-xs.getD i 0)):=by
  unfold dF at hx;rcases xh hx with q | q
  ·obtain⟨y,hy,rfl⟩:=wU.mp q
   exact .inr ⟨y,hy,rfl⟩
  ·exact .inl q
 rcases hx' with rfl | ⟨y,hy,rfl⟩
 ·exact⟨0,by simp,⟨by simp;exact Wi _⟩⟩
 ·obtain⟨t,rfl,ht⟩:=h2 y hy
  obtain⟨_,_,T,e,hT⟩:=key t ht
  have e2:wB t B+(1-xs.getD i 0)=wB (t+B-z) B:=by
   rw[ez]
   symm
   refine fY (by lia) ?_;have q1:=cY t (show B≠0 by lia);have q2:=cY z (show B≠0 by lia);have q3:((t+B-z:Int):Rat)=(t:Rat)+(B:Rat)-(z:Rat):=by push_cast;rfl
   rw[q3,<- q1,<- q2]
   grind
  rw[e2];exact⟨T,e,hT⟩
theorem Cm.snoc(h:Cm m xs):Cm m (xs++[0]):=by
 obtain⟨B,h0,h1,h2⟩:=h;refine⟨B,h0,h1,λx hx=>?_⟩;rcases vX.mp hx with q | q
 ·exact h2 x q
 ·rw[w6.mp q]
  exact⟨0,by simp,⟨by simp;exact Wi m⟩⟩
def upTo(ns:List Int)(k:Nat):Nat:=((ns.take k).map xD).sum
theorem rE(h:k<ns.length):upTo ns (k+1)=upTo ns k+(ns.getD k 0).toNat:=by
 unfold upTo;rw[Qo,wc h,wa,wc h,vA,List.sum_append]
 show _+([ns[k].toNat]:List Nat).sum=_
 rw[List.sum_singleton]
 rfl
theorem Cm.rows{m:Nat}{xs:List Rat}{a b:Rat}{ns:List Int}(h:Cm m xs)(ba:ag 10 a)(bb:ag 10 b):∀k,k<=ns.length->Cm (m+2*k+21*upTo ns k) (aM a b ns xs k)
 | 0,_=>h.mono (by lia)
 | k+1,hk=>by
  have:=(Cm.rows h ba bb (ns:=ns) k (by lia)).mR ba bb (ns.getD k 0).toNat k;rw[aM];refine this.mono ?_;rw[rE (by lia)]
  lia
theorem NC(a:Rat)(m:Nat):∀n:Nat,a^(m+n)=a^m*a^n
 | 0=>by rw[XG,V8,Rat.mul_one]
 | n+1=>by rw[<- WS,WL,NC a m n,WL,Uf]
theorem Z6(a b:Rat)(n:Nat)(xs ys:List Rat)(i j:Nat)(hx:xs.length=ys.length)(hj:j<xs.length) :
  (dF a b n xs i).getD j 0-(dF a b n ys i).getD j 0=a^n*((xs.getD j 0-ys.getD j 0)-(xs.getD i 0-ys.getD i 0)):=by
 rw[gJ a b n xs i j hj,gJ a b n ys i j (by lia)]
 by_cases h:j=i
 ·subst h
  rw[if_pos rfl,if_pos rfl]
  grind
 ·rw[if_neg h,if_neg h,LK]
  grind
theorem Dd(a b:Rat)(ns:List Int)(xs ys:List Rat)(hx:xs.length=ys.length)(hn:ns.length=xs.length)(l:Nat)(hl:l+1=xs.length)(h0:xs.getD l 0=ys.getD l 0) :
  ∀k,k<=ns.length->∀j,j<xs.length->(aM a b ns xs k).getD j 0-(aM a b ns ys k).getD j 0=a^upTo ns k*((xs.getD j 0-ys.getD j 0)-(if k=0 then 0 else xs.getD (k-1) 0-ys.getD (k-1) 0))
 | 0,_,j,hj=>by simp[aM,upTo];grind
 | k+1,hk,j,hj=>by
  rw[aM,aM,Z6 _ _ _ _ _ _ _ (by rw[de,de,hx]) (by rw[de];exact hj),Dd a b ns xs ys hx hn l hl h0 k (by lia) j hj,Dd a b ns xs ys hx hn l hl h0 k (by lia) k (by lia),rE (by lia),NC];simp only[qZ];rw[if_neg (show ¬ k+1=0 by lia)]
  grind
def mw(a b:Rat)(n:Nat)(xs:List Rat):List Rat:=(xs.tail.map λy=>push a b n (y+(1-xs.headD 0)))++[0]
def turned(a b:Rat)(ns:List Int)(xs:List Rat):Nat->List Rat
 | 0=>xs
 | k+1=>mw a b (ns.getD k 0).toNat (turned a b ns xs k)
theorem oz(a b:Rat)(ns:List Int)(xs:List Rat):∀k,k<=xs.length->turned a b ns xs k=(aM a b ns xs k).drop k++(aM a b ns xs k).take k
 | 0,_=>by simp[turned,aM]
 | k+1,hk=>by
  have hl:(aM a b ns xs k).length=xs.length:=de a b ns xs k;have hk':k<(aM a b ns xs k).length:=by lia
  rw[turned,oz a b ns xs k (by lia),aM];generalize aM a b ns xs k=r at *;generalize (ns.getD k 0).toNat=n;have e1:r.drop k=r[k]::r.drop (k+1):=qQ hk';have e2:r.getD k 0=r[k]:=by rw[wa,wc hk'];rfl
  unfold mw dF;rw[e1,e2,xn,u4,List.headD_cons,List.drop_set_of_lt (by lia),vA,Xo,Vh]
  congr 1
  have hm:k<(r.map λx=>push a b n (x+(1-r[k]))).length:=by rw[wm];exact hk'
  rw[Xp];generalize (r.map λx=>push a b n (x+(1-r[k])))=s at hm ⊢;rw[List.take_set,Qo,wc hm]
  show _=(s.take k++[s[k]]).set k 0
  have hlk:(s.take k).length=k:=by rw[Wq];lia
  rw[List.set_append_right _ _ (by lia),hlk,Vf]
  rfl
theorem zuN(a b:Rat)(ns:List Int)(xs:List Rat)(h:ns.length=xs.length):turned a b ns xs ns.length=aM a b ns xs ns.length:=by
 rw[oz a b ns xs _ (by lia)];have hl:(aM a b ns xs ns.length).length=xs.length:=de a b ns xs _;rw[xP (by lia),WF (by lia),QD]
def nI(xs:List Rat):Nat->Int
 | 0=>1
 | k+1=>nI xs k*((xs.getD k 0).den:Int)
theorem OF(xs:List Rat):∀k,0<nI xs k
 | 0=>by show(0:Int)<1;decide
 | k+1=>vQ (OF xs k) (den_pos _)
theorem Np(xs:List Rat):∀k j,j<k->((xs.getD j 0).den:Int) ∣ nI xs k
 | 0,j,h=>by lia
 | k+1,j,h=>by
  rcases wA j k with z | z
  ·exact qj (Np xs k j z) (Vi ..)
  ·have:j=k:=by lia
   subst this;exact uo ..
theorem Mv{xs:List Rat}{m:Nat}(h:∀i,ag m (xs.getD i 0)):∀k,Bd (m*k+1) (nI xs k)
 | 0=>⟨by show(1:Int).natAbs<_;simp⟩
 | k+1=>by
  rw[nI];refine((Mv h k).mul (h k).b).mono ?_;rw[QX];lia
theorem ztS(hB:0<B)(h:(x.den:Int) ∣ B):wB (x.num*B.fdiv x.den) B=x:=by
 obtain⟨c,rfl⟩:=h;rw[fI (Vi ..) (gT x),V6 _ (gT x)];refine fY (by lia) ?_;have:=j8 x;rw[vS,vS,<- this]
 grind
theorem zAL{d:Int}(hd:0<d)(hB:0<B)(h:Bd m B):Bd m (B.fdiv d):=by
 refine h.le ?_;rw[VI _ (by lia)];have h1:0<=B / d:=Int.ediv_nonneg (by lia) (by lia);have h2:B / d<=B:=ur _ (by lia)
 lia
theorem Bx(a b:Rat)(ns:List Int)(xs:List Rat)(hk:k<xs.length):(turned a b ns xs k).headD 0=(aM a b ns xs k).getD k 0:=by
 have hl:=de a b ns xs k;rw[oz a b ns xs k (by lia),qQ (by lia),wa,wc (by lia)]
 rfl
theorem B7(a b:Rat)(ns:List Int)(xs:List Rat)(hx:0<xs.length):∀k,(turned a b ns xs k).length=xs.length
 | 0=>rfl
 | k+1=>by
  have:=B7 a b ns xs hx k;rw[turned,mw,wR,wm,Qv,this];simp;lia
theorem Si(x y:Rat):((x*y).num=x.num / (x.num.natAbs.gcd y.den:Nat)*(y.num / (y.num.natAbs.gcd x.den:Nat)))/\((x*y).den=x.den / (y.num.natAbs.gcd x.den)*(y.den / (x.num.natAbs.gcd y.den))):=by
 show(Rat.mul x y).num=_/\(Rat.mul x y).den=_
 unfold Rat.mul;simp only[Int.divExact_eq_ediv,Nat.divExact_eq_div]
 constructor<;>trivial
theorem RM(x y:Rat):((x+y).num=(x.num*((y.den / x.den.gcd y.den:Nat):Int)+y.num*((x.den / x.den.gcd y.den:Nat):Int)) / (((x.num*((y.den / x.den.gcd y.den:Nat):Int)+y.num*((x.den / x.den.gcd y.den:Nat):Int)).natAbs.gcd (x.den.gcd y.den):Nat):Int))/\((x+y).den=x.den / (x.den.gcd y.den)*(y.den / ((x.num*((y.den / x.den.gcd y.den:Nat):Int)+y.num*((x.den / x.den.gcd y.den:Nat):Int)).natAbs.gcd (x.den.gcd y.den)))):=by
 show(Rat.add x y).num=_/\(Rat.add x y).den=_
 unfold Rat.add
 by_cases hg:x.den.gcd y.den=1
 ·simp[hg]
 ·simp only[hg,dite_false,Rat.maybeNormalize_eq]
  refine⟨by simp,?_⟩;simp;have:(x.num*((y.den / x.den.gcd y.den:Nat):Int)+y.num*((x.den / x.den.gcd y.den:Nat):Int)).natAbs.gcd (x.den.gcd y.den) ∣ y.den:=Nat.dvd_trans (XY _ _) (XY _ _);simp at this;rw[Nat.mul_div_assoc _ this]
def fq(x y:Rat):Int:=((vE (x.den:Int) (y.den:Int):Nat):Int)
def kM(x y:Rat):Int:=x.num*(y.den:Int).fdiv (fq x y)+y.num*(x.den:Int).fdiv (fq x y)
def jy(x y:Rat):Int:=((vE (kM x y) (fq x y):Nat):Int)
theorem yr(x y:Rat):0<fq x y:=by
 have:0<vE (x.den:Int) (y.den:Int):=Int.gcd_pos_of_ne_zero_left _ (by have:=x.den_pos;lia);unfold fq;lia
theorem EK(x y:Rat):0<jy x y:=by
 have:0<vE (kM x y) (fq x y):=qC _ (by have:=yr x y;lia);unfold jy;lia
theorem F9(x y:Rat):fq x y=((x.den.gcd y.den:Nat):Int):=by simp[fq,vE]
theorem rX(x y:Rat):fq x y ∣ (x.den:Int):=qG ..
theorem Ae(x y:Rat):fq x y ∣ (y.den:Int):=Qn ..
theorem zC9(x y:Rat):jy x y ∣ kM x y:=qG ..
theorem De(x y:Rat):jy x y ∣ fq x y:=Qn ..
theorem Pr(x y:Rat):kM x y=x.num*((y.den / x.den.gcd y.den:Nat):Int)+y.num*((x.den / x.den.gcd y.den:Nat):Int):=by
 have h:=yr x y;rw[kM,fI (Ae x y) (by lia),fI (rX x y) (by lia),F9,V7,V7]
theorem KG(x y:Rat):jy x y=(((x.num*((y.den / x.den.gcd y.den:Nat):Int)+y.num*((x.den / x.den.gcd y.den:Nat):Int)).natAbs.gcd (x.den.gcd y.den):Nat):Int):=by
 rw[jy,Pr,F9];simp[vE]
theorem zBq(x y:Rat):(kM x y).fdiv (jy x y)=(x+y).num:=by
 have h:=EK x y;rw[fI (zC9 x y) (by lia),(RM x y).1,KG,Pr]
theorem zzZ(x y:Rat):(x.den:Int).fdiv (fq x y)*(y.den:Int).fdiv (jy x y)=((x+y).den:Int):=by
 have h:=EK x y;have h2:=yr x y;rw[fI (qj (De x y) (Ae x y)) (by lia),fI (rX x y) (by lia),(RM x y).2,KG,F9];simp only[VD,V7]
def gv(x y:Rat):Int:=((vE x.num (y.den:Int):Nat):Int)
theorem mS(x y:Rat):0<gv x y:=by
 have:0<vE x.num (y.den:Int):=qC _ (by have:=y.den_pos;lia);unfold gv;lia
theorem yE(x y:Rat):gv x y ∣ x.num:=qG ..
theorem nk(x y:Rat):gv x y ∣ (y.den:Int):=Qn ..
theorem zu(x y:Rat):gv x y=((x.num.natAbs.gcd y.den:Nat):Int):=by simp[gv,vE]
theorem ZF(x y:Rat):x.num.fdiv (gv x y)*y.num.fdiv (gv y x)=(x*y).num:=by
 have h:=mS x y;have h2:=mS y x;rw[fI (yE x y) (by lia),fI (yE y x) (by lia),(Si x y).1,zu,zu]
theorem zAj(x y:Rat):(x.den:Int).fdiv (gv y x)*(y.den:Int).fdiv (gv x y)=((x*y).den:Int):=by
 have h:=mS x y;have h2:=mS y x;rw[fI (nk x y) (by lia),fI (nk y x) (by lia),(Si x y).2,zu,zu];simp only[VD,V7]
theorem l_{a d:Int}(h:Bd n a)(hd:d ∣ a)(hp:0<d):Bd n (a.fdiv d):=by
 rw[fI hd (by lia)];exact h.le (xg a d)
theorem pP{a d:Int}(h:Bd n a)(hd:d ∣ a)(ha:0<a):Bd n d :=
 h.le (Ug (by lia) (Int.natAbs_dvd_natAbs.mpr hd))
theorem tm(t b:Int):vE (if t<0 then -t else t) b=vE t b:=by split<;>simp
theorem ZJ(h:ag n y):ag n (-y):=⟨by simpa using h.t.neg,by simpa using h.b⟩
theorem ztB(x y:Rat):x + -y=x-y:=(Rat.sub_eq_add_neg x y).symm
theorem zO(h:0<y.num):(y⁻¹).num=(y.den:Int)/\((y⁻¹).den:Int)=y.num:=by
 have:¬ y.num<0:=by lia
 constructor
 ·rw[Rat.num_inv,xL h,xM]
 ·rw[Rat.den_inv];split<;>lia
theorem yS(h:y.num<0):(y⁻¹).num = -(y.den:Int)/\((y⁻¹).den:Int) = -y.num:=by
 constructor
 ·rw[Rat.num_inv,Q6 h,uI]
 ·rw[Rat.den_inv];split<;>lia
theorem Se(h:ag n y)(hy:y≠0):ag n y⁻¹:=by
 have:=yf hy
 by_cases p:0<y.num
 ·exact⟨by rw[(zO p).1];exact h.b,by rw[(zO p).2];exact h.t⟩
 ·have p:y.num<0:=by lia
  exact⟨by rw[(yS p).1];exact h.b.neg,by rw[(yS p).2];exact h.t.neg⟩
theorem TR(x y:Rat):0<(x.den:Int)*(y.den:Int):=vQ (den_pos x) (den_pos y)
theorem getD_mem{α : Type}{xs:List α}{d : α}(h:i<xs.length):xs.getD i d∈xs:=by
 rw[wa,wc h];exact vK h
def jN(x:Rat):Bool:=(!decide (x<0))&&(decide (x<1)&&decide ((x.den:Int)<=60))
structure fc(x:Rat):Prop where
 nn:0<=x
 lt:x<1
 den:x.den<=60
theorem fc.is(h:fc x):jN x=true:=by
 have h1:=h.nn;have h2:=h.lt;have h3:=h.den;have h4:¬ x<0:=Vu.mpr h1;have h5:(x.den:Int)<=60:=by lia
 simp[jN,h4,h2,h5]
theorem fc.d4(h:fc x):ag 6 x:=by
 have h1:=h.nn;have h2:=h.lt;have h3:=h.den;have n0:0<=x.num:=Qi.mpr h1
 have n1:x.num<x.den:=by
   have:=Rat.lt_iff x 1 |>.mp h2
   simpa using this
 exact ⟨⟨by have : (2 : Nat) ^ 6 = 64 := by decide
            omega⟩, ⟨by have : (2 : Nat) ^ 6 = 64 := by decide
                        omega⟩⟩
def mx(m:Rat)(l:List Rat):Rat:=l.foldl (λm x=>if m<x then x else m) m
theorem RK:∀(l:List Rat)(m:Rat),m<=mx m l /\ ∀y∈l,y<=mx m l
 | [],m=>⟨WZ,λy h=>by cases h⟩
 | x::l,m=>by
  have h:=RK l (if m<x then x else m);have e:mx m (x::l)=mx (if m<x then x else m) l:=rfl;rw[e]
  have h1:m<=(if m<x then x else m)/\x<=(if m<x then x else m):=by
   split
   ·rename_i z;exact⟨vT z,WZ⟩
   ·rename_i z;exact⟨WZ,Vu.mp z⟩
  refine⟨xo h1.1 h.1,λy hy=>?_⟩;rcases wF.mp hy with rfl | hy
  ·exact xo h1.2 h.1
  ·exact h.2 y hy
theorem BM:∀(l:List Rat)(m:Rat),mx m l=m\/mx m l∈l
 | [],m=>.inl rfl
 | x::l,m=>by
  have e:mx m (x::l)=mx (if m<x then x else m) l:=rfl;rw[e];rcases BM l (if m<x then x else m)with h | h
  ·rw[h]
   split
   ·exact .inr (wz ..)
   ·exact .inl rfl
  ·exact .inr (wy _ h)
theorem yz(m x:Rat)(l:List Rat):mx m (l++[x])=if mx m l<x then x else mx m l:=by
 unfold mx;rw[XZ];rfl
def cb(xs:List Rat):Rat:=mx (xs.getD 0 0) xs
theorem Yw : ∀y∈xs,y<=cb xs:=(RK xs _).2
theorem ic(h:1<=xs.length):cb xs∈xs:=by
 rcases BM xs (xs.getD 0 0)with e | e
 ·unfold cb
  rw[e,wa,wc (by lia)];exact vK _
 ·exact e
theorem nN(h:i<xs.length):xs.take (i+1)=xs.take i++[xs.getD i 0]:=by
 rw[Qo,wa,wc h];rfl
theorem MX(b:∀i,ag n (xs.getD i 0))(h1:1<=xs.length)(i:Nat):ag n (mx (xs.getD 0 0) (xs.take i)):=by
 rcases BM (xs.take i) (xs.getD 0 0)with e | e
 ·rw[e];exact b 0
 ·have e:=ut _ _ e
  obtain⟨j,hj,ej⟩:=wX e;rw[<- ej];have:=b j;rw[wa,wc hj]at this;exact this
theorem Sj{r:Int}(h0:0<=r)(h1:r<u)(h2:u<=60):fc (wB r u):=by
 refine⟨XX h0 (by lia),ztW (c:=1) (by lia) (by lia),?_⟩;have:=BC r u (by lia)
 lia
def aF(ps:List Rat)(left:List Nat):List Nat:=left.filter λw=>!decide (ps.getD w 0<1)
def bV(left wave:List Nat):List Nat:=left.filter λw=>!decide (w∈wave)
def cX(f g:Rat)(ps:List Rat)(l:List Nat):List Rat:=l.foldl (λps w=>ps.set w (f*ps.getD w 0+g)) ps
def cS(a b:Rat):Nat->List Rat->List Nat->List (List Nat) × (List Nat × List Rat)
 | 0,ps,left=>([],left,ps)
 | n+1,ps,left=>match aF ps left with
  | []=>([],left,ps)
  | w::ws=>((w::ws)::(cS a b n (cX (a^(w::ws).length) (aD a b (w::ws).length) ps (bV left (w::ws))) (bV left (w::ws))).1,(cS a b n (cX (a^(w::ws).length) (aD a b (w::ws).length) ps (bV left (w::ws))) (bV left (w::ws))).2)
def jq(left:List Nat)(ps:List Rat):List Rat:=(wt ps.length).map λi=>if i∈left then ps.getD i 0 else 0
def bN(xs:List Rat):List Rat:=xs.map (· + (1-cb xs))
def eC(a b:Rat)(xs:List Rat):List (List Nat) × (List Nat × List Rat):=cS a b xs.length (bN xs) (wt xs.length)
def cE(a b:Rat)(xs:List Rat):List (List Nat):=(eC a b xs).1
def dA(a b:Rat)(xs:List Rat):List Rat:=jq (eC a b xs).2.1 (eC a b xs).2.2
theorem ny(h:aF ps left=[]):cS a b n ps left=([],left,ps):=by
 cases n with
 | zero=>rfl
 | succ n=>rw[cS,h]
theorem jz(h:aF ps left≠[]):cS a b (n+1) ps left=(aF ps left::(cS a b n (cX (a^(aF ps left).length) (aD a b (aF ps left).length) ps (bV left (aF ps left))) (bV left (aF ps left))).1,(cS a b n (cX (a^(aF ps left).length) (aD a b (aF ps left).length) ps (bV left (aF ps left))) (bV left (aF ps left))).2):=by
 rw[cS];cases e:aF ps left with
 | nil=>exact absurd e h
 | cons w ws=>rfl
theorem zsR(f g:Rat)(ps:List Rat)(l:List Nat)(w:Nat):cX f g ps (l++[w])=(cX f g ps l).set w (f*(cX f g ps l).getD w 0+g):=by
 unfold cX;rw[XZ];rfl
theorem iP(f g:Rat):∀(l:List Nat)(ps:List Rat),(cX f g ps l).length=ps.length
 | [],ps=>rfl
 | w::l,ps=>by
  show(cX f g (ps.set w _) l).length=_
  rw[iP f g l,VC]
theorem PM(h:w≠j):(ps.set w y).getD j 0=ps.getD j 0:=by
 rw[wa,VN,if_neg h,wa]
theorem KJ(h:w<ps.length):(ps.set w y).getD w 0=y:=by
 rw[wa,VN,if_pos rfl,if_pos h];rfl
theorem jB(f g:Rat):∀(l:List Nat)(ps:List Rat),l.Nodup->(∀w∈l,w<ps.length)->∀j,(cX f g ps l).getD j 0=if j∈l then f*ps.getD j 0+g else ps.getD j 0
 | [],ps,_,_,j=>by simp[cX]
 | w::l,ps,nd,hl,j=>by
  have nd':=WW.mp nd
  show(cX f g (ps.set w _) l).getD j 0=_
  rw[jB f g l _ nd'.2 (λv hv=>by rw[VC];exact hl v (wy _ hv)) j]
  by_cases hj:j=w
  ·subst hj
   rw[if_neg nd'.1,if_pos (wz ..),KJ (hl j (wz ..))]
  ·rw[PM (WE hj)]
   by_cases hm:j∈l
   ·rw[if_pos hm,if_pos (wy _ hm)]
   ·rw[if_neg hm,if_neg (λz=>by rcases wF.mp z with z | z;(exact hj z);exact hm z)]
theorem ztV(ps:List Rat)(left:List Nat):bV left (aF ps left)=left.filter λw=>decide (ps.getD w 0<1):=by
 unfold bV;refine vO λw hw=>?_
 have e:(w∈aF ps left)=(¬ ps.getD w 0<1):=by
  unfold aF;rw[vg];simp[hw]
 simp only[e];simp
theorem Fv(ps:List Rat)(left:List Nat):(aF ps left).length+(bV left (aF ps left)).length=left.length:=by
 rw[ztV];unfold aF
 induction left with
 | nil=>rfl
 | cons w l ih=>by_cases h:ps.getD w 0<1<;>simp only[W4,h,decide_true,decide_false,Wv,QN,if_true,if_false,ve,vo]<;>lia
theorem mY{wave:List Nat}(h:left.Nodup):(bV left wave).Nodup:=h.filter _
theorem m6{wave:List Nat}(h:∀w∈left,w<n):∀w∈bV left wave,w<n:=λw hw=>h w (vg.mp hw).1
theorem Sv(left:List Nat)(ps:List Rat):(jq left ps).length=ps.length:=by simp[jq]
theorem nG(h:j<ps.length):(jq left ps).getD j 0=if j∈left then ps.getD j 0 else 0:=by
 unfold jq;rw[wa,wu,vM h]
 rfl
theorem fH(xs:List Rat):(bN xs).length=xs.length:=by simp[bN]
theorem rH{a b:Rat} : ∀(n:Nat)(ps:List Rat)(left:List Nat),(cS a b n ps left).2.2.length=ps.length
 | 0,ps,left=>rfl
 | n+1,ps,left=>by
  by_cases h:aF ps left=[]
  ·rw[ny h]
  ·rw[jz h]
   show(cS a b n _ _).2.2.length=_
   rw[rH n,iP]
theorem jj(a b:Rat)(xs:List Rat):(dA a b xs).length=xs.length:=by
 unfold dA eC;rw[Sv,rH,fH]
theorem Cm.J6(h0:0<B)(h1:Bd m B)(h:∀j,j<ps.length->∃t:Int,ps.getD j 0=wB t B/\Bd m t):∀x∈ps,∃t:Int,x=wB t B/\Bd m t:=λx hx=>by
 obtain⟨j,hj,e⟩:=wX hx;have:=h j hj;rw[wa,wc hj]at this;rw[<- e];exact this
theorem sX{a b:Rat}(ba:ag 10 a)(bb:ag 10 b){m:Nat}{t:Int}(h:Bd m t):∀n:Nat,Bd (m+21*n) (t*((a.den:Int)*(b.den:Int))^n)
 | 0=>by simpa using h
 | n+1=>by
  rw[V9,<- qi];exact((sX ba bb h n).mul (ba.b.mul bb.b)).mono (by lia)
theorem rB{d:Int}(h0:0<B)(hd:0<d):wB t B=wB (t*d) (B*d):=by
 symm
 refine fY (by have:=vQ h0 hd;lia) ?_;have q1:=cY t (show B≠0 by lia);rw[vS,vS,<- Uf,q1]
theorem Cm.wave(c:Cm m (h::ps))(ba:ag 10 a)(bb:ag 10 b)(n:Nat){l:List Nat}(nd:l.Nodup)(hl:∀w∈l,w<ps.length):Cm (m+21*n) (h::cX (a^n) (aD a b n) ps l):=by
 obtain⟨B,h0,h1,h2⟩:=c;have hz:Bd m (0:Int):=⟨by simp;exact Wi m⟩;obtain⟨p1,p2,_⟩:=pE ba bb h0 hz h1 n;have hd:0<((a.den:Int)*(b.den:Int))^n:=ue (vQ (den_pos a) (den_pos b));refine⟨_,p1,p2,λx hx=>?_⟩;rcases wF.mp hx with rfl | hx
 ·obtain⟨t,rfl,ht⟩:=h2 x (wz ..)
  exact⟨_,rB h0 hd,sX ba bb ht n⟩
 ·refine Cm.J6 p1 p2 (λj hj=>?_) x hx
  rw[iP]at hj;obtain⟨t,e,ht⟩:=h2 (ps.getD j 0) (wy _ (getD_mem hj));rw[jB _ _ _ _ nd hl]
  split
  ·obtain⟨_,_,T,e2,hT⟩:=pE ba bb h0 ht h1 n
   exact⟨T,by rw[<- hW,e,e2],hT⟩
  ·exact⟨_,by rw[e];exact rB h0 hd,sX ba bb ht n⟩
theorem Cm.rise{M:Rat}(c:Cm m (h::xs))(hM:M∈xs):Cm (m+2) ((h+(1-M))::xs.map (· + (1-M))):=by
 obtain⟨B,h0,h1,h2⟩:=c;obtain⟨z,ez,hz⟩:=h2 M (wy _ hM)
 have key:∀t:Int,Bd m t->wB t B+(1-M)=wB (t+B-z) B/\Bd (m+2) (t+B-z):=λt ht=>by
  refine⟨?_,((ht.add h1).sub hz).mono (by lia)⟩;rw[ez]
  symm
  refine fY (by lia) ?_;have q1:=cY t (show B≠0 by lia);have q2:=cY z (show B≠0 by lia);have q3:((t+B-z:Int):Rat)=(t:Rat)+(B:Rat)-(z:Rat):=by push_cast;rfl
  rw[q3,<- q1,<- q2]
  grind
 refine⟨B,h0,h1.mono (by lia),λx hx=>?_⟩;rcases wF.mp hx with rfl | hx
 ·obtain⟨t,e,ht⟩:=h2 h (wz ..)
  rw[e];exact⟨_,(key t ht).1,(key t ht).2⟩
 ·obtain⟨y,hy,rfl⟩:=wU.mp hx
  obtain⟨t,e,ht⟩:=h2 y (wy _ hy)
  show ∃t:Int,y+(1-M)=_/\_
  rw[e];exact⟨_,(key t ht).1,(key t ht).2⟩
theorem Cm.kA(c:Cm m xs)(h:∀y∈ys,y∈xs\/y=0):Cm m ys:=by
 obtain⟨B,h0,h1,h2⟩:=c;refine⟨B,h0,h1,λy hy=>?_⟩;rcases h y hy with z | rfl
 ·exact h2 y z
 ·exact⟨0,by simp,⟨by simp;exact Wi m⟩⟩
theorem zy7 : ∀y∈jq left ps,y∈ps\/y=0:=λy hy=>by
 unfold jq at hy;obtain⟨i,hi,e⟩:=wU.mp hy;rw[<- e]
 split
 ·exact .inl (getD_mem (wH.mp hi))
 ·exact .inr rfl
theorem Cm.Y1(h:∀i,ag k (xs.getD i 0)):Cm (k*xs.length+1+k) xs:=by
 have h0:=OF xs xs.length;have h1:=Mv h xs.length;refine⟨nI xs xs.length,h0,h1.mono (by lia),Cm.J6 h0 (h1.mono (by lia)) λj hj=>?_⟩;exact⟨_,(ztS h0 (Np xs _ j hj)).symm,((h j).t.mul (zAL (den_pos _) h0 h1)).mono (by lia)⟩
def ai(a b:Rat)(xs:List Rat):Nat->List Rat
 | 0=>xs
 | k+1=>dA a b (ai a b xs k)
def aE(a b:Rat)(xs:List Rat):Nat->Rat
 | 0=>0
 | k+1=>aE a b xs k+(1-cb (ai a b xs k))
theorem aY(a b:Rat)(xs:List Rat):∀k,(ai a b xs k).length=xs.length
 | 0=>rfl
 | k+1=>by rw[ai,jj,aY a b xs k]
theorem yi{f:Rat->Rat}(h:w<xs.length):(xs.map f).getD w 0=f (xs.getD w 0):=by
 rw[wa,wu,wc h,wa,wc h];rfl
def kc(d:Int)(m:Nat)(xs:List Rat):Prop:=∃B:Int,0<B/\d ∣ B/\Bd m B /\ ∀x∈xs,∃t:Int,x=wB t B/\Bd m t
theorem kc.of{d:Int}(h:Cm m xs)(hd:0<d)(b:Bd 4 d):kc d (m+4) xs:=by
 obtain⟨B,h0,h1,h2⟩:=h;refine⟨B*d,vQ h0 hd,uo ..,(h1.mul b),λx hx=>?_⟩;obtain⟨t,e,ht⟩:=h2 x hx;exact⟨t*d,by rw[e];exact rB h0 hd,ht.mul b⟩
theorem RU{a b:Rat}(ta:Bd 6 a.num)(da:Bd 4 (a.den:Int))(tb:Bd 4 b.num){m:Nat}{t u:Int}(hu:0<u)(hd:(b.den:Int) ∣ u)(bt:Bd m t)(bu:Bd m u):∀n:Nat,0<u*(a.den:Int)^n/\(b.den:Int) ∣ u*(a.den:Int)^n/\Bd (m+9*n) (u*(a.den:Int)^n) /\
  ∃T:Int,push a b n (wB t u)=wB T (u*(a.den:Int)^n)/\Bd (m+9*n) T
 | 0=>⟨by simpa using hu,by simpa using hd,by simpa using bu,t,by simp[push],by simpa using bt⟩
 | n+1=>by
  obtain⟨h1,hdv,h2,T,e,hT⟩:=RU ta da tb hu hd bt bu n;have eb:u*(a.den:Int)^(n+1)=u*(a.den:Int)^n*(a.den:Int):=by rw[V9,<- qi]
  rw[eb];generalize u*(a.den:Int)^n=U at *;obtain⟨c,rfl⟩:=hdv
  have hc:0<c:=by
   have hb:=den_pos b;rcases Int.lt_or_le 0 c with z | z
   ·exact z
   ·have:=Int.mul_nonpos_of_nonneg_of_nonpos (Int.le_of_lt hb) z
    lia
  have bc:Bd (m+9*n) c:=h2.le (by
   rw[xW];exact Nat.le_mul_of_pos_left _ (by have:=den_pos b;lia))
  refine⟨vQ h1 (den_pos a),qj (Vi ..) (Vi ..),(h2.mul da).mono (by lia),a.num*T+b.num*(a.den:Int)*c,?_,((ta.mul hT).add ((tb.mul da).mul bc)).mono (by lia)⟩;rw[push,e]
  symm
  have hU:((b.den:Int)*c)*(a.den:Int)≠0:=by have:=vQ h1 (den_pos a);lia
  refine fY hU ?_;have q1:=cY T (show(b.den:Int)*c≠0 by lia);have q2:=j8 a;have q3:=j8 b;have q4:((a.num*T+b.num*(a.den:Int)*c:Int):Rat)=(a.num:Rat)*(T:Rat)+(b.num:Rat)*((a.den:Int):Rat)*(c:Rat):=by push_cast;rfl
  have q5:(((b.den:Int)*c*(a.den:Int):Int):Rat)=((b.den:Int):Rat)*(c:Rat)*((a.den:Int):Rat):=by push_cast;rfl
  have q6:(((b.den:Int)*c:Int):Rat)=((b.den:Int):Rat)*(c:Rat):=by push_cast;rfl
  rw[q6]at q1;rw[q4,q5,<- q1,<- q2,<- q3]
  grind
theorem cw(a b:Rat)(xs:List Rat)(m:Nat):∀k,ai a b (ai a b xs m) k=ai a b xs (m+k)
 | 0=>rfl
 | k+1=>by rw[ai,cw a b xs m k];rfl
theorem jU(a b:Rat)(xs:List Rat)(m:Nat):∀k,aE a b xs m+aE a b (ai a b xs m) k=aE a b xs (m+k)
 | 0=>by show aE a b xs m+0=aE a b xs m;grind
 | k+1=>by
  have:=jU a b xs m k
  show aE a b xs m+(aE a b (ai a b xs m) k+(1-cb (ai a b (ai a b xs m) k)))=aE a b xs (m+k)+(1-cb (ai a b xs (m+k)))
  rw[cw,<- this]
  grind
theorem Lh{a b:Rat}(a0:0<a)(b0:0<=b){x:Rat}(h:0<x):∀n:Nat,0<push a b n x
 | 0=>h
 | n+1=>by
  have h1:=Lh a0 b0 h n;have h2:=VZ a0 h1
  show 0<a*push a b n x+b
  grind
structure iu(l:List Rat):Prop where
 pw:l.Pairwise (· > ·)
 nn:∀y∈l,0<=y
theorem iu.step(a0:0<a)(b0:0<=b)(h:iu (x::l))(x1:x<1):iu (mw a b n (x::l)):=by
 have hp:=W9.mp h.pw;have pos:∀y∈l,0<push a b n (y+(1-x)):=λy hy=>Lh a0 b0 (by have:=h.nn y (wy _ hy);grind) n
 unfold mw;refine⟨qH.mpr ⟨?_,xv _ _,?_⟩,λy hy=>?_⟩
 ·show(l.map λy=>push a b n (y+(1-x))).Pairwise (· > ·)
  rw[qw];refine hp.2.imp λ{y z} hyz=>?_
  show push a b n (z+(1-x))<push a b n (y+(1-x))
  have hyz:z<y:=hyz;exact(zAn a0 n _ _).mpr (by grind)
 ·intro y hy z hz
  obtain⟨w,hw,rfl⟩:=wU.mp hy;rw[w6.mp hz];exact pos w hw
 ·rcases vX.mp hy with hy | hy
  ·obtain⟨w,hw,rfl⟩:=wU.mp hy
   exact vT (pos w hw)
  ·rw[w6.mp hy];exact WZ
structure gQ(xs row:List Rat)(fl:Nat->Nat):Prop where
 at':∀w,w<xs.length->xs.getD w 0=row.getD (fl w) 0
 lt:∀w,w<xs.length->fl w<row.length
def bD(n:Nat)(fl:Nat->Nat)(c:Nat):List Nat:=(wt n).filter λw=>decide (fl w=c)
theorem rQ{row:List Rat}(h:gQ xs row fl)(some:∃w,w<xs.length/\fl w=c)(top:∀j,j<row.length->j≠c->row.getD j 0<row.getD c 0):cb xs=row.getD c 0:=by
 obtain⟨w,hw,rfl⟩:=some;have h1:1<=xs.length:=by lia
 refine Rat.le_antisymm ?_ ?_
 ·obtain⟨j,hj,e⟩:=wX (ic h1)
  have ea:=h.at' j hj;rw[wa,wc hj]at ea;have ea:xs[j]=row.getD (fl j) 0:=ea;rw[<- e,ea]
  by_cases z:fl j=fl w
  ·rw[z];exact WZ
  ·exact vT (top _ (h.lt j hj) z)
 ·rw[<- h.at' w hw]
  exact Yw _ (getD_mem hw)
theorem Bo{row:List Rat}(h:gQ xs row fl)(some:∃w,w<xs.length/\fl w=c)(top:∀j,j<row.length->j≠c->row.getD j 0<row.getD c 0):aF (bN xs) (wt xs.length)=bD xs.length fl c:=by
 unfold aF bD;refine vO λw hw=>?_
 have hw:=wH.mp hw;have hm:=rQ h some top
 have e:(bN xs).getD w 0=row.getD (fl w) 0+(1-row.getD c 0):=by
  unfold bN;rw[wa,wu,wc hw,hm];have ea:=h.at' w hw;rw[wa,wc hw]at ea;have ea:xs[w]=row.getD (fl w) 0:=ea
  show xs[w]+(1-row.getD c 0)=_
  rw[ea]
 rw[e]
 by_cases z:fl w=c
 ·rw[z,decide_eq_true rfl,decide_eq_false (by grind)];rfl
 ·have:=top _ (h.lt w hw) z
  rw[decide_eq_false z,decide_eq_true (by grind)];rfl
theorem Mb{row:List Rat}(h:gQ xs row fl)(hm:cb xs=row.getD c 0)(hw:w<xs.length):(bN xs).getD w 0=row.getD (fl w) 0+(1-row.getD c 0):=by
 unfold bN;rw[wa,wu,wc hw,hm];have ea:=h.at' w hw;rw[wa,wc hw]at ea;have ea:xs[w]=row.getD (fl w) 0:=ea
 show xs[w]+(1-row.getD c 0)=_
 rw[ea]
theorem zr3{row:List Rat}(h:gQ xs row fl)(some:∃w,w<xs.length/\fl w=c)(top:∀j,j<row.length->j≠c->row.getD j 0<row.getD c 0)
  (low:∀j,j<row.length->j≠c->(∃w,w<xs.length/\fl w=j)->push a b (bD xs.length fl c).length (row.getD j 0+(1-row.getD c 0))<1) :
  cE a b xs=[bD xs.length fl c]/\gQ (dA a b xs) (dF a b (bD xs.length fl c).length row c) fl:=by
 have hm:=rQ h some top;have he:=Bo h some top;obtain⟨w0,hw0,hf0⟩:=some
 have hne:bD xs.length fl c≠[]:=λe=>by
  have:w0∈bD xs.length fl c:=vg.mpr ⟨wH.mpr hw0,decide_eq_true hf0⟩;rw[e]at this;cases this
 have hlen:xs.length=(xs.length-1)+1:=by lia
 have hcl:c<row.length:=by rw[<- hf0];exact h.lt w0 hw0
 have nd:=W5 (n:=xs.length)
 have hmemL:∀w,w∈bV (wt xs.length) (bD xs.length fl c) ↔ w<xs.length/\fl w≠c:=λw=>by
  unfold bV bD;rw[vg,wH]
  constructor
  ·rintro ⟨h1,h2⟩
   refine⟨h1,λz=>?_⟩;have:w∈(wt xs.length).filter λw=>decide (fl w=c):=vg.mpr ⟨wH.mpr h1,decide_eq_true z⟩
   simp[this]at h2
  ·rintro ⟨h1,h2⟩
   exact⟨h1,by simp[h2]⟩
 have hps:∀w,w<xs.length->fl w≠c->(cX (a^(bD xs.length fl c).length) (aD a b (bD xs.length fl c).length) (bN xs) (bV (wt xs.length) (bD xs.length fl c))).getD w 0=push a b (bD xs.length fl c).length (row.getD (fl w) 0+(1-row.getD c 0)):=λw hw hf=>by
  rw[jB _ _ _ _ (mY nd) (λv hv=>by rw[fH];exact((hmemL v).mp hv).1),if_pos ((hmemL w).mpr ⟨hw,hf⟩),Mb h hm hw,hW]
 have hend:aF (cX (a^(bD xs.length fl c).length) (aD a b (bD xs.length fl c).length) (bN xs) (bV (wt xs.length) (bD xs.length fl c))) (bV (wt xs.length) (bD xs.length fl c))=[]:=by
  unfold aF;rw[xQ];intro w hw;have hw':=(hmemL w).mp hw;rw[hps w hw'.1 hw'.2];have:=low (fl w) (h.lt w hw'.1) hw'.2 ⟨w,hw'.1,rfl⟩;rw[decide_eq_true this]
  decide
 have hR:eC a b xs=([bD xs.length fl c],bV (wt xs.length) (bD xs.length fl c),cX (a^(bD xs.length fl c).length) (aD a b (bD xs.length fl c).length) (bN xs) (bV (wt xs.length) (bD xs.length fl c))):=by
  unfold eC;generalize hN:cS a b xs.length (bN xs) (wt xs.length)=r;rw[show cS a b xs.length (bN xs) (wt xs.length)=cS a b ((xs.length-1)+1) (bN xs) (wt xs.length) by rw[<- hlen],jz (by rw[he];exact hne),he,ny hend]at hN;exact hN.symm
 refine⟨by unfold cE;rw[hR],λw hw=>?_,λw hw=>by rw[hV];exact h.lt w (by rw[jj]at hw;exact hw)⟩;rw[jj]at hw;have hfw:=h.lt w hw;unfold dA;rw[hR,nG (by rw[iP,fH];exact hw),gJ _ _ _ _ _ _ hfw]
 by_cases z:fl w=c
 ·rw[if_neg (λy=>((hmemL w).mp y).2 z),if_pos z]
 ·rw[if_pos ((hmemL w).mpr ⟨hw,z⟩),if_neg z,hps w hw z]
theorem zs9{row:List Rat}(h:gQ xs row fl)(some:∃w,w<xs.length/\fl w=c)(top:∀j,j<row.length->j≠c->row.getD j 0<row.getD c 0)
  {w1:Nat} (hw1:w1<xs.length) (hf1:fl w1≠c) (up:¬ push a b (bD xs.length fl c).length (row.getD (fl w1) 0+(1-row.getD c 0))<1):1<(cE a b xs).length:=by
 have hm:=rQ h some top;have he:=Bo h some top;obtain⟨w0,hw0,hf0⟩:=some
 have hne:bD xs.length fl c≠[]:=λe=>by
  have:w0∈bD xs.length fl c:=vg.mpr ⟨wH.mpr hw0,decide_eq_true hf0⟩;rw[e]at this;cases this
 have hw01:w0≠w1:=λe=>hf1 (by rw[<- e];exact hf0)
 have hlen:xs.length=(xs.length-2)+1+1:=by lia
 have nd:=W5 (n:=xs.length)
 have hmem:w1∈bV (wt xs.length) (bD xs.length fl c):=by
  unfold bV bD;rw[vg,wH];exact⟨hw1,by simp[hf1]⟩
 have hend:aF (cX (a^(bD xs.length fl c).length) (aD a b (bD xs.length fl c).length) (bN xs) (bV (wt xs.length) (bD xs.length fl c))) (bV (wt xs.length) (bD xs.length fl c))≠[]:=λe=>by
  have:w1∈aF (cX (a^(bD xs.length fl c).length) (aD a b (bD xs.length fl c).length) (bN xs) (bV (wt xs.length) (bD xs.length fl c))) (bV (wt xs.length) (bD xs.length fl c)):=by
   unfold aF;refine vg.mpr ⟨hmem,?_⟩;rw[jB _ _ _ _ (mY nd) (λv hv=>by rw[fH];exact wH.mp (vg.mp hv).1),if_pos hmem,Mb h hm hw1,<- hW,decide_eq_false up]
   rfl
  rw[e]at this;cases this
 unfold cE eC;rw[show cS a b xs.length (bN xs) (wt xs.length)=cS a b ((xs.length-2)+1+1) (bN xs) (wt xs.length) by rw[<- hlen],jz (by rw[he];exact hne),he,jz hend]
 show 1<(_::_::_:List (List Nat)).length
 simp
theorem KD{row:List Rat}(hi:i<=row.length)(hj:j<row.length):(aM a b ns row i).getD j 0∈turned a b ns row i:=by
 have hl:=de a b ns row i;rw[oz a b ns row i hi];have hm:(aM a b ns row i).getD j 0∈aM a b ns row i:=getD_mem (by lia);generalize (aM a b ns row i).getD j 0=y at hm;have hm2:y∈(aM a b ns row i).take i++(aM a b ns row i).drop i:=by rw[xY];exact hm
 rcases vX.mp hm2 with z | z
 ·exact vX.mpr (.inr z)
 ·exact vX.mpr (.inl z)
theorem DU{row:List Rat}(h:iu (turned a b ns row i))(hi:i<row.length)(hj:j<row.length)(hne:j≠i):(aM a b ns row i).getD j 0<(aM a b ns row i).getD i 0:=by
 have hl:=de a b ns row i;have hpw:=h.pw;rw[oz a b ns row i (by lia),qQ (by lia),xn]at hpw;have hp:=(W9.mp hpw).1;have e:(aM a b ns row i).getD i 0=(aM a b ns row i)[i]'(by lia):=by rw[wa,wc (by lia)];rfl
 rw[e];refine hp _ ?_;rw[vX];have ej:(aM a b ns row i).getD j 0=(aM a b ns row i)[j]'(by lia):=by rw[wa,wc (by lia)];rfl
 rw[ej];rcases wA j i with z | z
 ·refine .inr (Xi.mpr ⟨j,by rw[Wq];lia,?_⟩)
  rw[X0]
 ·refine .inl (Xi.mpr ⟨j-(i+1),by rw[vR];lia,?_⟩)
  rw[X1]
  congr 1
  lia
def eH(a b:Rat)(ns:List Int)(row:List Rat)(i:Nat):Rat:=(aM a b ns row (i+1)).getD ((i+1) % row.length) 0
structure fM(xs row:List Rat)(fl:Nat->Nat)(ns:List Int):Prop where
 pl:gQ xs row fl
 mQ:iu row
 one:row.getD 0 0<1
 len:ns.length=row.length
 some:∀c,c<row.length->∃w,w<xs.length/\fl w=c
 size:∀c,c<row.length->(ns.getD c 0).toNat=(bD xs.length fl c).length
theorem z9{a b:Rat}(a0:0<a)(b0:0<=b){xs row:List Rat}{fl:Nat->Nat}{ns:List Int}(h:fM xs row fl ns):∀i,i<=row.length->(∀t,t<i->eH a b ns row t<1)->gQ (ai a b xs i) (aM a b ns row i) fl/\iu (turned a b ns row i)/\(i<row.length->(aM a b ns row i).getD i 0<1) /\ ∀t,t<i->cE a b (ai a b xs t)=[bD xs.length fl t]
 | 0,_,_=>⟨h.pl,h.mQ,λ_=>h.one,λt ht=>by lia⟩
 | i+1,hi,ht=>by
  obtain⟨P,F,o,W⟩:=z9 a0 b0 h i (by lia) (λt ht'=>ht t (by lia));have hl:=de a b ns row i;have hpl:=aY a b xs i;have hi':i<row.length:=by lia
  have oi:=o hi';have ti:=ht i (by lia)
  have hne:turned a b ns row i≠[]:=λe=>by
   have:=B7 a b ns row (by lia) i;rw[e]at this;simp at this;lia
  obtain⟨x,l,ex⟩:∃x l,turned a b ns row i=x::l:=by
   cases e:turned a b ns row i with
   | nil=>exact absurd e hne
   | cons x l=>exact⟨x,l,rfl⟩
  have hx:x=(aM a b ns row i).getD i 0:=by
   have:=Bx a b ns row hi';rw[ex]at this;exact this
  have F1:iu (turned a b ns row (i+1)):=by
   show iu (mw a b (ns.getD i 0).toNat (turned a b ns row i))
   rw[ex]at F ⊢;exact F.step a0 b0 (by rw[hx];exact oi)
  have hsz:(ns.getD i 0).toNat=(bD (ai a b xs i).length fl i).length:=by rw[hpl];exact h.size i hi'
  have hrow:aM a b ns row (i+1)=dF a b (bD (ai a b xs i).length fl i).length (aM a b ns row i) i:=by rw[<- hsz];rfl
  have headTop:(turned a b ns row (i+1)).headD 0=eH a b ns row i:=by
   unfold eH;rcases wA (i+1) row.length with z | z
   ·rw[Bx a b ns row z,xp z]
   ·have e:i+1=row.length:=by lia
    rw[e,Nat.mod_self,oz a b ns row _ (wo _)];have hl1:=de a b ns row row.length;rw[xP (by lia),WF (by lia),QD];cases e2:aM a b ns row row.length with
    | nil=>rw[e2]at hl1;simp at hl1;lia
    | cons y m=>rfl
  have below:∀y∈turned a b ns row (i+1),y<1:=λy hy=>by
   have hpw:=F1.pw;cases e2:turned a b ns row (i+1)with
   | nil=>rw[e2]at hy;cases hy
   | cons z m =>
    rw[e2]at hy hpw headTop
    have hz:z<1:=by
     have:z=eH a b ns row i:=headTop;rw[this];exact ti
    rcases wF.mp hy with rfl | hy
    ·exact hz
    ·have:=(W9.mp hpw).1 y hy
     have:y<z:=this
     grind
  have G:=zr3 (a:=a) (b:=b) (c:=i) P (by obtain⟨w,h1,h2⟩:=h.some i hi';exact⟨w,by lia,h2⟩) (λj hj hji=>DU F hi' (by lia) hji) (λj hj hji _=>by
   have hm:=KD (a:=a) (b:=b) (ns:=ns) (row:=row) (i:=i+1) (j:=j) hi (by lia);have:=below _ hm;rw[hrow,gJ _ _ _ _ _ _ hj,if_neg hji]at this;exact this)
  refine⟨by rw[hrow];exact G.2,F1,λhlt=>?_,λt ht'=>?_⟩
  ·have:=below _ (KD (a:=a) (b:=b) (ns:=ns) (row:=row) (i:=i+1) (j:=i+1) hi hlt)
   exact this
  ·rcases wA t i with z | z
   ·exact W t z
   ·have:t=i:=by lia
    subst this;have:=G.1;rw[hpl]at this;exact this
def fV(xs:List Rat)(v:Rat):List Nat:=(wt xs.length).filter λw=>decide (xs.getD w 0=v)
def iO:Nat->List Rat->List Rat
 | 0,_=>[]
 | _+1,[]=>[]
 | n+1,x::l=>cb (x::l)::iO n ((x::l).filter λy=>!decide (y=cb (x::l)))
def aj(xs:List Rat):List Rat:=iO xs.length xs
theorem BE(n:Nat):iO n []=[]:=by cases n<;>rfl
theorem mX(h:l≠[]):iO (n+1) l=cb l::iO n (l.filter λy=>!decide (y=cb l)):=by
 cases l with
 | nil=>exact absurd rfl h
 | cons x l=>rfl
theorem S0(h:l≠[]):(l.filter λy=>!decide (y=cb l)).length<l.length:=by
 have hm:cb l∈l:=ic (qf.mpr h);rcases wA (l.filter λy=>!decide (y=cb l)).length l.length with z | z
 ·exact z
 ·have:=List.length_filter_eq_length_iff.mp (uL (WK _ _) z) (cb l) hm
  simp at this
theorem Fw:∀(n:Nat)(l:List Rat),∀y∈iO n l,y∈l
 | 0,l,y,h=>by cases h
 | n+1,[],y,h=>by cases h
 | n+1,x::l,y,h=>by
  rw[mX (by simp)]at h;rcases wF.mp h with rfl | h
  ·exact ic (by simp)
  ·exact(vg.mp (Fw n _ y h)).1
theorem jn:∀(n:Nat)(l:List Rat),(iO n l).Pairwise (· > ·)
 | 0,l=>Q5.nil
 | n+1,[]=>Q5.nil
 | n+1,x::l=>by
  rw[mX (by simp)];refine W9.mpr ⟨λy hy=>?_,jn n _⟩;have hf:=vg.mp (Fw n _ y hy);have h1:=Yw y hf.1;have h2:¬ y=cb (x::l):=by simpa using hf.2
  show y<cb (x::l)
  exact Qa h1 h2
theorem Sg:∀(n:Nat)(l:List Rat),l.length<=n->∀y∈l,y∈iO n l
 | 0,l,h,y,hy=>by
  have:l=[]:=Ql.mp (by lia);rw[this]at hy;cases hy
 | n+1,[],h,y,hy=>by cases hy
 | n+1,x::l,h,y,hy=>by
  rw[mX (by simp)]
  by_cases z:y=cb (x::l)
  ·rw[z];exact wz ..
  ·have hl:=S0 (l:=x::l) (by simp)
   refine wy _ (Sg n _ (by lia) y (vg.mpr ⟨hy,by simp[z]⟩))
def aV(xs:List Rat)(w:Nat):Nat:=(aj xs).idxOf (xs.getD w 0)
theorem oY(h:y∈xs):y∈aj xs:=Sg _ _ (wo _) y h
theorem kh(h:y∈aj xs):y∈xs:=Fw _ _ y h
theorem ly(xs:List Rat):gQ xs (aj xs) (aV xs):=by
 have key:∀w,w<xs.length->aV xs w<(aj xs).length:=λw hw=>List.idxOf_lt_length_of_mem (oY (getD_mem hw))
 refine⟨λw hw=>?_,key⟩;rw[wa (l:=aj xs),wc (key w hw)];exact(List.getElem_idxOf (key w hw)).symm
theorem Dq(hw:w<xs.length)(hc:c<(aj xs).length):aV xs w=c ↔ xs.getD w 0=(aj xs).getD c 0:=by
 have P:=ly xs;have e:=P.at' w hw;have hl:=P.lt w hw
 constructor
 ·rintro rfl;exact e
 ·intro h
  rw[e]at h;rcases WU (aV xs w) c with z | z | z
  ·have:=(We.mp (jn xs.length xs)) (aV xs w) c hl hc z
   rw[wa,wc hl,wa,wc hc]at h;have h:(aj xs)[aV xs w]=(aj xs)[c]:=h;have this:(aj xs)[c]<(aj xs)[aV xs w]:=this;rw[h]at this;exact absurd this (by grind)
  ·exact z
  ·have:=(We.mp (jn xs.length xs)) c (aV xs w) hc hl z
   rw[wa,wc hl,wa,wc hc]at h;have h:(aj xs)[aV xs w]=(aj xs)[c]:=h;have this:(aj xs)[aV xs w]<(aj xs)[c]:=this;rw[h]at this;exact absurd this (by grind)
theorem zwk(hc:c<(aj xs).length):bD xs.length (aV xs) c=fV xs ((aj xs).getD c 0):=by
 unfold bD fV;refine vO λw hw=>?_
 exact decide_eq_decide.mpr (Dq (wH.mp hw) hc)
def aW(xs:List Rat):List Int:=(aj xs).map λv=>((fV xs v).length:Int)
theorem N6(nn:∀x∈xs,0<=x)(lt:∀x∈xs,x<1):fM xs (aj xs) (aV xs) (aW xs) where
 pl:=ly xs
 mQ:=⟨jn _ _,λy hy=>nn y (kh hy)⟩
 one:=by
  rcases wA 0 (aj xs).length with z | z
  ·exact lt _ (kh (getD_mem z))
  ·rw[wa,wL z];decide
 len:=by unfold aW;rw[wm]
 some:=λc hc=>by
  obtain⟨w,hw,e⟩:=wX (kh (getD_mem (d:=0) hc));refine⟨w,hw,(Dq hw hc).mpr ?_⟩;rw[wa,wc hw];exact e
 size:=λc hc=>by
  rw[zwk hc];unfold aW;rw[wa,wu,wc hc,wa,wc hc]
  rfl
theorem OM:∀{l m:List Rat},l.Pairwise (· > ·)->m.Pairwise (· > ·)->(∀y,y∈l ↔ y∈m)->l=m
 | [],[],_,_,_=>rfl
 | [],y::m,_,_,h=>by have:=(h y).mpr (wz ..);cases this
 | x::l,[],_,_,h=>by have:=(h x).mp (wz ..);cases this
 | x::l,y::m,hl,hm,h=>by
  have pl:=W9.mp hl;have pm:=W9.mp hm
  have e:x=y:=by
   rcases wF.mp ((h x).mp (wz ..))with z | z
   ·exact z
   ·rcases wF.mp ((h y).mpr (wz ..))with z2 | z2
    ·exact z2.symm
    ·have a1:x<y:=pm.1 x z
     have a2:y<x:=pl.1 y z2
     grind
  subst e;rw[OM pl.2 pm.2 λz=>⟨λhz=>?_,λhz=>?_⟩]
  ·rcases wF.mp ((h z).mp (wy _ hz))with e | e
   ·have:z<x:=pl.1 z hz
    rw[e]at this;exact absurd this (by grind)
   ·exact e
  ·rcases wF.mp ((h z).mpr (wy _ hz))with e | e
   ·have:z<x:=pm.1 z hz
    rw[e]at this;exact absurd this (by grind)
   ·exact e
theorem tY{row:List Rat}(P:gQ ys row fl)(F:row.Pairwise (· > ·))(some:∀c,c<row.length->∃w,w<ys.length/\fl w=c):aj ys=row:=by
 refine OM (jn _ _) F λy=>⟨λh=>?_,λh=>?_⟩
 ·obtain⟨w,hw,e⟩:=wX (kh h)
  have ea:=P.at' w hw;rw[wa,wc hw]at ea;have ea:ys[w]=row.getD (fl w) 0:=ea;rw[<- e,ea];exact getD_mem (P.lt w hw)
 ·obtain⟨c,hc,e⟩:=wX h
  obtain⟨w,hw,hf⟩:=some c hc;have ea:=P.at' w hw;rw[hf,wa (l:=row),wc hc]at ea;have ea:ys.getD w 0=row[c]:=ea;rw[<- e,<- ea];exact oY (getD_mem hw)
def eS(a b:Rat)(ns:List Int)(row:List Rat):Nat->Rat
 | 0=>0
 | k+1=>eS a b ns row k+(1-(aM a b ns row k).getD k 0)
theorem Yr{a b:Rat}(a0:0<a)(b0:0<=b){xs row:List Rat}{fl:Nat->Nat}{ns:List Int}(h:fM xs row fl ns):∀i,i<=row.length->(∀t,t<i->eH a b ns row t<1)->aE a b xs i=eS a b ns row i
 | 0,_,_=>rfl
 | i+1,hi,ht=>by
  have ht':∀t,t<i->eH a b ns row t<1:=λt z=>ht t (by lia)
  obtain⟨P,F,_,_⟩:=z9 a0 b0 h i (by lia) ht';have hpl:=aY a b xs i;have hl:=de a b ns row i;have hm:=rQ (c:=i) P (by obtain⟨w,h1,h2⟩:=h.some i (by lia);exact⟨w,by lia,h2⟩) (λj hj hji=>DU F (by lia) (by lia) hji);rw[aE,eS,Yr a0 b0 h i (by lia) ht',hm]
theorem zwY(a0:0<a)(b0:0<=b){row:List Rat}(h:fM xs row fl ns){t:Nat}(ht:t<row.length)(free:∀s,s<t->eH a b ns row s<1)(up:¬ eH a b ns row t<1):1<(cE a b (ai a b xs t)).length:=by
 obtain⟨P,F,o,_⟩:=z9 a0 b0 h t (by lia) free;have hpl:=aY a b xs t;have hl:=de a b ns row t;have hsz:(ns.getD t 0).toNat=(bD (ai a b xs t).length fl t).length:=by rw[hpl];exact h.size t ht
 have hrow:aM a b ns row (t+1)=dF a b (bD (ai a b xs t).length fl t).length (aM a b ns row t) t:=by rw[<- hsz];rfl
 have hj:(t+1) % row.length<row.length:=qm _ (by lia)
 have hne:(t+1) % row.length≠t:=λe=>by
  apply up
  unfold eH;rw[hrow,e,gJ _ _ _ _ _ _ (by lia),if_pos rfl]
  decide
 obtain⟨w1,hw1,hf1⟩:=h.some _ hj;refine zs9 (c:=t) P (by obtain⟨w,h1,h2⟩:=h.some t ht;exact⟨w,by lia,h2⟩) (λj hj hji=>DU F ht (by lia) hji) (w1:=w1) (by lia) (by rw[hf1];exact hne) ?_;intro z
 apply up
 unfold eH;rw[hrow,gJ _ _ _ _ _ _ (by lia),if_neg hne,<- hf1];exact z
theorem pJ{a b:Rat}(a0:0<a)(b0:0<=b):∀n:Nat,0<=aD a b n
 | 0=>WZ
 | n+1=>by
  have h1:=pJ a0 b0 n;have h2:=Qj (vT a0) h1
  show 0<=a*aD a b n+b
  grind
theorem Dr{a b:Rat}(a0:0<a)(b0:0<=b):∀(n:Nat)(ps:List Rat)(left:List Nat),left.length<=n->left.Nodup->(∀w∈left,w<ps.length)->(∀w∈left,0<=ps.getD w 0) ->
  ∀w∈(cS a b n ps left).2.1,w∈left/\0<=(cS a b n ps left).2.2.getD w 0/\(cS a b n ps left).2.2.getD w 0<1
 | 0,ps,left,hn,_,_,_=>by
  have:left=[]:=Ql.mp (by lia);subst this;intro w hw;cases (show w∈([]:List Nat)from hw)
 | n+1,ps,left,hn,nd,hlt,nn=>by
  by_cases e:aF ps left=[]
  ·rw[ny e]
   intro w hw;have hw:w∈left:=hw;refine⟨hw,nn w hw,?_⟩;have:¬ w∈aF ps left:=by rw[e];simp
   unfold aF at this;rw[vg]at this
   show ps.getD w 0<1
   by_cases z:ps.getD w 0<1
   ·exact z
   ·exact absurd ⟨hw,by simp only[z,decide_false,QN]⟩ this
  ·rw[jz e]
   have hl:=Fv ps left;have hp:=qf.mpr e;have nd':(bV left (aF ps left)).Nodup:=mY nd;have lt':∀w∈bV left (aF ps left),w<(cX (a^(aF ps left).length) (aD a b (aF ps left).length) ps (bV left (aF ps left))).length:=λw hw=>by rw[iP];exact m6 hlt w hw
   have ih:=Dr a0 b0 n (cX (a^(aF ps left).length) (aD a b (aF ps left).length) ps (bV left (aF ps left))) (bV left (aF ps left)) (by lia) nd' lt' (λw hw=>by
    rw[jB _ _ _ _ nd' (m6 hlt),if_pos hw];have h1:=nn w (vg.mp hw).1;have h2:=Qj (vT (mh a0 (aF ps left).length)) h1;have h3:=pJ a0 b0 (aF ps left).length
    grind)
   intro w hw;have:=ih w hw;exact⟨(vg.mp this.1).1,this.2⟩
theorem O7(nn:∀x∈xs,0<=x)(lt:∀x∈xs,x<1)(hw:w<xs.length):0<=(bN xs).getD w 0:=by
 have h1:=ic (xs:=xs) (by lia);have h2:=lt _ h1;have h3:=nn _ (getD_mem (d:=0) hw);unfold bN;rw[yi hw]
 grind
theorem TK(a0:0<a)(b0:0<=b)(nn:∀x∈xs,0<=x)(lt:∀x∈xs,x<1):∀y∈dA a b xs,0<=y/\y<1:=λy hy=>by
 obtain⟨j,hj,e⟩:=wX hy;have hlen:=jj a b xs;have hjx:j<xs.length:=by lia
 have hpl:(eC a b xs).2.2.length=xs.length:=by
  unfold eC;rw[rH,fH]
 have e2:(dA a b xs).getD j 0=y:=by rw[wa,wc hj];exact e
 unfold dA at e2;rw[nG (by lia)]at e2
 split at e2
 ·rename_i hm
  have:=Dr a0 b0 xs.length (bN xs) (wt xs.length) (by simp) W5 (λw hw=>by rw[fH];exact wH.mp hw) (λw hw=>O7 nn lt (wH.mp hw)) j hm;rw[<- e2];exact this.2
 ·rw[<- e2];exact⟨WZ,by decide⟩
theorem zru(a0:0<a)(b0:0<=b)(h1:1<=xs.length)(nn:∀x∈xs,0<=x)(lt:∀x∈xs,x<1):0∈dA a b xs:=by
 obtain⟨j,hj,e⟩:=wX (ic h1)
 have hr:(bN xs).getD j 0=1:=by
  unfold bN;rw[yi hj,wa,wc hj]
  show xs[j]+(1-cb xs)=1
  rw[e];grind
 have hend:j∈aF (bN xs) (wt xs.length):=by
  unfold aF;rw[vg];refine⟨wH.mpr hj,?_⟩;rw[hr];decide
 have hne:aF (bN xs) (wt xs.length)≠[]:=λz=>by rw[z]at hend;cases hend
 have hpl:(eC a b xs).2.2.length=xs.length:=by
  unfold eC;rw[rH,fH]
 have hnot:¬ j∈(eC a b xs).2.1:=λz=>by
  unfold eC at z;obtain⟨n,hn⟩:∃n,xs.length=n+1:=⟨xs.length-1,by lia⟩;have hl:=Fv (bN xs) (wt xs.length);rw[vx]at hl;have hp:=qf.mpr hne;have z':j∈(cS a b (n+1) (bN xs) (wt xs.length)).2.1:=by rw[<- hn];exact z
  rw[jz hne]at z';have nd':(bV (wt xs.length) (aF (bN xs) (wt xs.length))).Nodup:=mY W5;have ltr:∀w∈wt xs.length,w<(bN xs).length:=λw hw=>by rw[fH];exact wH.mp hw
  have:=Dr a0 b0 n _ _ (by lia) nd' (λw hw=>by rw[iP];exact m6 ltr w hw) (λw hw=>by
   rw[jB _ _ _ _ nd' (m6 ltr),if_pos hw];have h1:=O7 nn lt (wH.mp (vg.mp hw).1);have h2:=Qj (vT (mh a0 (aF (bN xs) (wt xs.length)).length)) h1;have h3:=pJ a0 b0 (aF (bN xs) (wt xs.length)).length
   grind) j z'
  have:=(vg.mp this.1).2;simp only[hend,decide_true,Wv]at this;cases this
 have hlen:=jj a b xs
 have hg:(dA a b xs).getD j 0=0:=by
  unfold dA;rw[nG (by lia),if_neg hnot]
 rw[<- hg];exact getD_mem (by lia)
structure cu(xs:List Rat):Prop where
 nn:∀x∈xs,0<=x
 lt:∀x∈xs,x<1
theorem cu.mR(a0:0<a)(b0:0<=b)(h:cu xs):cu (dA a b xs):=⟨λy hy=>(TK a0 b0 h.nn h.lt y hy).1,λy hy=>(TK a0 b0 h.nn h.lt y hy).2⟩
theorem cu.at{a b:Rat}(a0:0<a)(b0:0<=b){xs:List Rat}(h:cu xs):∀k,cu (ai a b xs k)
 | 0=>h
 | k+1=>(cu.at a0 b0 h k).mR a0 b0
theorem cu.zero(a0:0<a)(b0:0<=b)(h:cu xs)(h1:1<=xs.length)(hk:1<=k):0∈ai a b xs k:=by
 obtain⟨j,rfl⟩:∃j,k=j+1:=⟨k-1,by lia⟩;have:=h.at a0 b0 j;exact zru a0 b0 (by rw[aY];exact h1) this.nn this.lt
theorem DY(h:cu xs)(h0:0∈xs):(aj xs).dropLast++[0]=aj xs:=by
 have hm:=oY h0;have hne:aj xs≠[]:=λe=>by rw[e]at hm;cases hm
 have hpw:(aj xs).Pairwise (· > ·):=jn _ _
 have hl:(aj xs).getLast hne=0:=by
  have h1:=h.nn _ (kh (List.getLast_mem hne))
  have h2:(aj xs).getLast hne<=0:=by
   have e:=QP hne;rw[<- e]at hm hpw;rcases vX.mp hm with z | z
   ·have:=(qH.mp hpw).2.2 0 z _ (w6.mpr rfl)
    exact vT this
   ·rw[<- w6.mp z];exact WZ
  grind
 have:=QP hne;rw[hl]at this;exact this
theorem nh(h1:1<=xs.length):1<=(aj xs).length:=by
 have:=oY (getD_mem (d:=0) (show 0<xs.length by lia));exact qt this
theorem yP(xs:List Rat):(aW xs).length=(aj xs).length:=by unfold aW;rw[wm]
theorem kZ(xs:List Rat):∀n∈aW xs,0<=n:=λn hn=>by
 obtain⟨v,_,rfl⟩:=wU.mp hn
 lia
theorem Px{α : Type}(g h : α -> Nat):∀l:List α,(l.map λv=>g v+h v).sum=(l.map g).sum+(l.map h).sum
 | []=>rfl
 | x::l=>by
  simp only[vd,Vk,Px g h l]
  lia
theorem Ny(x:Rat):∀vs:List Rat,vs.Nodup->(vs.map λv=>if x=v then 1 else 0).sum<=1
 | [],_=>by simp
 | v::vs,nd=>by
  have⟨h1,h2⟩:=WW.mp nd;rw[vd,Vk]
  by_cases e:x=v
  ·have z:(vs.map λv=>if x=v then 1 else 0).sum=0:=by
    have:∀ws:List Rat,(∀y∈ws,x≠y)->(ws.map λv=>if x=v then 1 else 0).sum=0:=by
     intro ws
     induction ws with
     | nil=>intro _;rfl
     | cons y ws ih =>
      intro hy;rw[vd,Vk,if_neg (hy y (wz ..)),ih λz hz=>hy z (wy _ hz)]
    exact this vs λy hy z=>h1 (by rw[<- e,z];exact hy)
   rw[z,if_pos e]
   lia
  ·have:=Ny x vs h2
   rw[if_neg e];lia
theorem Yl(f:Nat->Rat)(vs:List Rat)(nd:vs.Nodup):∀l:List Nat,(vs.map λv=>(l.filter λw=>decide (f w=v)).length).sum<=l.length
 | []=>by
  have:∀ws:List Rat,(ws.map λv=>(([]:List Nat).filter λw=>decide (f w=v)).length).sum=0:=by
   intro ws
   induction ws with
   | nil=>rfl
   | cons y ws ih=>rw[vd,Vk,ih];rfl
  rw[this];exact wo _
 | w::l=>by
  have ih:=Yl f vs nd l
  have e:(vs.map λv=>((w::l).filter λw=>decide (f w=v)).length)=vs.map λv=>(if f w=v then 1 else 0)+(l.filter λw=>decide (f w=v)).length:=by
   refine qg λv _=>?_
   rw[W4]
   by_cases z:f w=v
   ·rw[if_pos (by simp[z]),if_pos z,vo];lia
   ·rw[if_neg (by simp[z]),if_neg z];lia
  rw[e,Px,vo];have:=Ny (f w) vs nd
  lia
theorem B_(xs:List Rat):(aj xs).Nodup:=(jn xs.length xs).imp λ{x y} h=>by
 have h:y<x:=h;intro e;rw[e]at h;exact absurd h (by grind)
theorem PD(xs:List Rat):((aW xs).map xD).sum<=xs.length:=by
 have:=Yl (λw=>xs.getD w 0) (aj xs) (B_ xs) (wt xs.length);rw[vx]at this
 have e:(aW xs).map xD=(aj xs).map λv=>((wt xs.length).filter λw=>decide (xs.getD w 0=v)).length:=by
  unfold aW;rw[WM];refine qg λv _=>?_
  show((fV xs v).length:Int).toNat=_
  rw[wP];rfl
 rw[e];exact this
theorem Lv(xs:List Rat):upTo (aW xs) (aW xs).length<=xs.length:=by
 unfold upTo;rw[Wr];exact PD xs
theorem ztI(xs:List Rat):∀n∈aW xs,0<=n/\n<=xs.length:=λn hn=>by
 obtain⟨v,_,rfl⟩:=wU.mp hn
 have:(fV xs v).length<=xs.length:=by
  have:=WK (λw=>decide (xs.getD w 0=v)) (wt xs.length);rw[vx]at this;exact this
 lia
theorem kP(xs:List Rat):(aj xs).length<=xs.length:=by
 have h:∀(n:Nat)(l:List Rat),(iO n l).length<=n:=by
  intro n
  induction n with
  | zero=>intro l;exact wo _
  | succ n ih =>
   intro l
   by_cases e:l=[]
   ·rw[e,BE];simp
   ·rw[mX e,vo]
    have:=ih (l.filter λy=>!decide (y=cb l))
    lia
 exact h _ _
theorem kF(c:Cm m xs)(h:∀y∈ys,y∈xs):Cm m ys:=c.kA λy hy=>.inl (h y hy)
theorem rW(c:Cm m xs):Cm m (aj xs).dropLast:=kF c λy hy=>kh (by rw[xZ]at hy;exact List.mem_of_mem_take hy)
def seg(n:Nat)(fl:Nat->Nat)(s t:Nat):List Nat:=(wt n).filter λw=>decide (s<=fl w)&&decide (fl w<t)
theorem iF{s t:Nat} : w∈seg n fl s t ↔ w<n/\s<=fl w/\fl w<t:=by
 unfold seg;rw[vg,wH,wZ,decide_eq_true_eq,decide_eq_true_eq]
theorem MN(n:Nat)(fl:Nat->Nat)(s t:Nat):(seg n fl s t).Nodup:=W5.filter _
theorem ZG{s t u:Nat}(h1:s<=t)(h2:t<=u):(seg n fl s t++seg n fl t u).Perm (seg n fl s u):=by
 have e1:(seg n fl s u).filter (λw=>decide (fl w<t))=seg n fl s t:=by
  unfold seg;rw[Qb];refine vO λw _=>?_
  rw[vL];simp only[wZ,decide_eq_true_eq]
  lia
 have e2:(seg n fl s u).filter (λw=>!decide (fl w<t))=seg n fl t u:=by
  unfold seg;rw[Qb];refine vO λw _=>?_
  rw[vL];simp only[wZ,WV,decide_eq_true_eq,decide_eq_false_iff_not]
  lia
 have:=List.filter_append_perm (λw=>decide (fl w<t)) (seg n fl s u);rw[e1,e2]at this;exact this
theorem PY(n:Nat)(fl:Nat->Nat)(s:Nat):seg n fl s s=[]:=by
 unfold seg;rw[xQ];intro w _;simp only[wZ,decide_eq_true_eq]
 lia
inductive jJ(n:Nat)(fl:Nat->Nat):Nat->List (List Nat)->Nat->Prop
 | nil (t:Nat):jJ n fl t [] t
 | cons {t u v:Nat} {ws:List (List Nat)} : t<u->jJ n fl u ws v->jJ n fl t (seg n fl t u::ws) v
theorem jJ.le{t:Nat}{ws:List (List Nat)}(h:jJ n fl t ws v):t<=v:=by
 induction h with
 | nil t=>exact wo t
 | cons h _ ih=>lia
theorem jJ.perm{t:Nat}{ws:List (List Nat)}(h:jJ n fl t ws v):ws.flatten.Perm (seg n fl t v):=by
 induction h with
 | nil t=>rw[PY];exact List.Perm.refl _
 | cons h k ih =>
  rw[VM];exact(List.Perm.append_left _ ih).trans (ZG (by lia) k.le)
theorem NW(p:Nat->Prop)[DecidablePred p](t:Nat):∀m:Nat,t<=m->(∀c d,t<=c->c<=d->d<m->p d->p c)->∃u,t<=u/\u<=m /\ ∀c,t<=c->c<m->(p c ↔ c<u)
 | 0,h,_=>⟨0,h,wo 0,λc _ hc=>absurd hc (by lia)⟩
 | m+1,h,mono=>by
  rcases wA m t with z | z
  ·exact⟨m+1,h,wo _,λc h1 h2=>absurd h2 (by lia)⟩
  ·by_cases q:p m
   ·exact⟨m+1,h,wo _,λc h1 h2=>⟨λ_=>h2,λ_=>mono c m h1 (by lia) (by lia) q⟩⟩
   ·obtain⟨u,u1,u2,hu⟩:=NW p t m z (λc d h1 h2 h3=>mono c d h1 h2 (by lia))
    refine⟨u,u1,by lia,λc h1 h2=>?_⟩;rcases wA c m with y | y
    ·exact hu c h1 y
    ·have:c=m:=by lia
     subst this;exact⟨λk=>absurd k q,λk=>absurd k (by lia)⟩
theorem tL{row:List Rat}(F:row.Pairwise (· > ·)){d:Nat}(h:c<d)(hd:d<row.length):row.getD d 0<row.getD c 0:=by
 have:=We.mp F c d (by lia) hd h;rw[wa,wc hd,wa,wc (by lia)];exact this
theorem zBe{row:List Rat}(F:row.Pairwise (· > ·)){d:Nat}(h:c<=d)(hd:d<row.length):row.getD d 0<=row.getD c 0:=by
 rcases wA c d with z | z
 ·exact vT (tL F z hd)
 ·rw[show c=d by lia];exact WZ
theorem PQ{a b:Rat}(a0:0<a)(b0:0<=b){row:List Rat}{fl:Nat->Nat}{N:Nat}(F:row.Pairwise (· > ·)):∀(n:Nat)(ps:List Rat)(t:Nat)(A B:Rat),t<=row.length->ps.length=N->0<A->(∀w∈seg N fl t row.length,ps.getD w 0=A*row.getD (fl w) 0+B/\0<ps.getD w 0) ->
  ∃(v:Nat)(A' B':Rat),v<=row.length/\0<A'/\jJ N fl t (cS a b n ps (seg N fl t row.length)).1 v/\(cS a b n ps (seg N fl t row.length)).2.1=seg N fl v row.length /\
   ∀w∈seg N fl v row.length,(cS a b n ps (seg N fl t row.length)).2.2.getD w 0=A'*row.getD (fl w) 0+B'/\0<A'*row.getD (fl w) 0+B'
 | 0,ps,t,A,B,ht,hl,hA,hw=>⟨t,A,B,ht,hA,.nil t,rfl,λw h=>⟨(hw w h).1,by rw[<- (hw w h).1];exact(hw w h).2⟩⟩
 | n+1,ps,t,A,B,ht,hl,hA,hw=>by
  by_cases e:aF ps (seg N fl t row.length)=[]
  ·rw[ny e]
   exact⟨t,A,B,ht,hA,.nil t,rfl,λw h=>⟨(hw w h).1,by rw[<- (hw w h).1];exact(hw w h).2⟩⟩
  ·obtain⟨u,u1,u2,hu⟩:=NW (λc=>¬ A*row.getD c 0+B<1) t row.length ht (λc d h1 h2 h3 hp=>by
    have:=Rat.mul_le_mul_of_nonneg_left (zBe F h2 h3) (vT hA);have hp:¬ A*row.getD d 0+B<1:=hp
    show ¬ A*row.getD c 0+B<1
    grind)
   have eE:aF ps (seg N fl t row.length)=seg N fl t u:=by
    unfold aF
    have:(seg N fl t row.length).filter (λw=>!decide (ps.getD w 0<1))=(seg N fl t row.length).filter (λw=>decide (fl w<u)):=by
     refine vO λw h=>?_
     have h1:=hw w h;have h2:=iF.mp h;rw[vL,WV,decide_eq_false_iff_not,decide_eq_true_eq,h1.1];exact hu (fl w) h2.2.1 h2.2.2
    rw[this];unfold seg;rw[Qb];refine vO λw _=>?_
    rw[vL];simp only[wZ,decide_eq_true_eq]
    lia
   have eL:bV (seg N fl t row.length) (seg N fl t u)=seg N fl u row.length:=by
    unfold bV
    have:(seg N fl t row.length).filter (λw=>!decide (w∈seg N fl t u))=(seg N fl t row.length).filter (λw=>!decide (fl w<u)):=by
     refine vO λw h=>?_
     have h2:=iF.mp h;rw[vL,WV,WV,decide_eq_false_iff_not,decide_eq_false_iff_not,iF]
     constructor
     ·intro k y;exact k ⟨h2.1,h2.2.1,y⟩
     ·intro k y;exact k y.2.2
    rw[this];unfold seg;rw[Qb];refine vO λw _=>?_
    rw[vL];simp only[wZ,WV,decide_eq_true_eq,decide_eq_false_iff_not]
    lia
   have htu:t<u:=by
    rcases wA t u with z | z
    ·exact z
    ·have:u=t:=by lia
     rw[eE,this,PY]at e;exact absurd rfl e
   rw[jz e,eE,eL];have hf:=mh a0 (seg N fl t u).length;have hg:=pJ a0 b0 (seg N fl t u).length;generalize a^(seg N fl t u).length=f at *;generalize aD a b (seg N fl t u).length=g at *;have hA':0<f*A:=VZ hf hA
   obtain⟨v,A',B',hv,hA2,hs,hl2,hw2⟩:=PQ (fl:=fl) (N:=N) a0 b0 F n (cX f g ps (seg N fl u row.length)) u (f*A) (f*B+g) u2 (by rw[iP];exact hl) hA' (λw h=>by
    have hm:=iF.mp h;have h1:=hw w (iF.mpr ⟨hm.1,by lia,hm.2.2⟩);have h3:=VZ hf h1.2;rw[jB _ _ _ _ (MN ..) (λw h=>by rw[hl];exact(iF.mp h).1),if_pos h];refine⟨by rw[h1.1];grind,by grind⟩)
   exact⟨v,A',B',hv,hA2,.cons htu hs,hl2,hw2⟩
structure mG(xs ys:List Rat)(waves:List (List Nat))(v:Nat):Prop where
 v1:1<=v
 vm:v<=(aj xs).length
 first:∃ws,waves=seg xs.length (aV xs) 0 1::ws/\jJ xs.length (aV xs) 1 ws v
 vals:∃(A B:Rat),0<A/\aj ys=((aj xs).drop v).map (λx=>A*x+B)++[0]/\(∀x∈(aj xs).drop v,0<A*x+B)
 at':gQ ys (aj ys) (λw=>if aV xs w<v then(aj xs).length-v else aV xs w-v)
 len:ys.length=xs.length
theorem TL : (l.drop v).getD c 0=l.getD (v+c) 0:=by
 rw[wa,Q0,wa]
theorem nS(hc:c<(aj xs).length):∃w,w<xs.length/\aV xs w=c:=by
 have hm:(aj xs).getD c 0∈xs:=kh (getD_mem hc);obtain⟨w,hw,e⟩:=wX hm;refine⟨w,hw,(Dq hw hc).mpr ?_⟩;rw[wa,wc hw];exact e
theorem ze(a0:0<a)(b0:0<=b)(h1:1<=xs.length)(nn:∀x∈xs,0<=x)(lt:∀x∈xs,x<1):∃v,mG xs (dA a b xs) (cE a b xs) v:=by
 have P:=ly xs;have F:(aj xs).Pairwise (· > ·):=jn xs.length xs;have m1:=nh h1;have top:∀j,j<(aj xs).length->j≠0->(aj xs).getD j 0<(aj xs).getD 0 0:=λj hj h0=>tL F (by lia) hj
 have he:=Bo P (nS m1) top;have hmax:=rQ P (nS m1) top;have hmx1:cb xs<1:=lt _ (ic h1)
 have e01:bD xs.length (aV xs) 0=seg xs.length (aV xs) 0 1:=by
  unfold bD seg;refine vO λw _=>?_
  rw[vL];simp only[wZ,decide_eq_true_eq]
  lia
 rw[e01]at he
 have hr:wt xs.length=seg xs.length (aV xs) 0 (aj xs).length:=by
  unfold seg
  symm
  rw[List.filter_eq_self];intro w hw;have:=P.lt w (wH.mp hw);simp only[wZ,decide_eq_true_eq]
  lia
 have hne:aF (bN xs) (wt xs.length)≠[]:=λe=>by
  obtain⟨w,hw,hf⟩:=nS m1;rw[he]at e;have:w∈seg xs.length (aV xs) 0 1:=iF.mpr ⟨hw,by lia,by lia⟩;rw[e]at this;cases this
 obtain⟨n,hn⟩:∃n,xs.length=n+1:=⟨xs.length-1,by lia⟩
 have eL:bV (wt xs.length) (seg xs.length (aV xs) 0 1)=seg xs.length (aV xs) 1 (aj xs).length:=by
  unfold bV seg;refine vO λw hw=>?_
  have h2:=P.lt w (wH.mp hw);rw[vL,WV,decide_eq_false_iff_not]
  have:w∈(wt xs.length).filter (λw=>decide (0<=aV xs w)&&decide (aV xs w<1)) ↔ aV xs w<1:=by
   rw[vg,wZ,decide_eq_true_eq,decide_eq_true_eq];exact⟨λh=>h.2.2,λh=>⟨hw,by lia,h⟩⟩
  rw[this];simp only[wZ,decide_eq_true_eq]
  lia
 have hf:=mh a0 (seg xs.length (aV xs) 0 1).length;have hg:=pJ a0 b0 (seg xs.length (aV xs) 0 1).length
 have eR:eC a b xs=(seg xs.length (aV xs) 0 1::(cS a b n (cX (a^(seg xs.length (aV xs) 0 1).length) (aD a b (seg xs.length (aV xs) 0 1).length) (bN xs) (seg xs.length (aV xs) 1 (aj xs).length)) (seg xs.length (aV xs) 1 (aj xs).length)).1,(cS a b n (cX (a^(seg xs.length (aV xs) 0 1).length) (aD a b (seg xs.length (aV xs) 0 1).length) (bN xs) (seg xs.length (aV xs) 1 (aj xs).length)) (seg xs.length (aV xs) 1 (aj xs).length)).2):=by
  unfold eC;have e:cS a b xs.length (bN xs) (wt xs.length)=cS a b (n+1) (bN xs) (wt xs.length):=by rw[<- hn]
  rw[e,jz hne,he,eL]
 generalize a^(seg xs.length (aV xs) 0 1).length=f at *;generalize aD a b (seg xs.length (aV xs) 0 1).length=g at *
 obtain⟨v,A,B,hv,hA,hs,hl2,hw2⟩:=PQ (fl:=aV xs) (N:=xs.length) a0 b0 F n (cX f g (bN xs) (seg xs.length (aV xs) 1 (aj xs).length)) 1 f (f*(1-cb xs)+g) m1 (by rw[iP,fH]) hf (λw h=>by
  have hm:=iF.mp h;rw[jB _ _ _ _ (MN ..) (λw h=>by rw[fH];exact(iF.mp h).1),if_pos h]
  have e:(bN xs).getD w 0=(aj xs).getD (aV xs w) 0+(1-cb xs):=by
   unfold bN;rw[yi hm.1,P.at' w hm.1]
  have hx:=nn _ (getD_mem (d:=0) hm.1);rw[P.at' w hm.1]at hx;have h3:=VZ hf (show 0<(aj xs).getD (aV xs w) 0+(1-cb xs) by grind);rw[e];exact⟨by grind,by grind⟩)
 have v1:=hs.le
 have ePh:∀w,w<xs.length->(dA a b xs).getD w 0=if aV xs w<v then 0 else A*(aj xs).getD (aV xs w) 0+B:=λw hw=>by
  have hpl:(eC a b xs).2.2.length=xs.length:=by unfold eC;rw[rH,fH]
  unfold dA;rw[nG (by lia),eR]
  show(if w∈(cS a b n _ _).2.1 then _ else _)=_
  rw[hl2]
  by_cases z:aV xs w<v
  ·rw[if_neg (λh=>by have:=(iF.mp h).2.1;lia),if_pos z]
  ·have hmem:w∈seg xs.length (aV xs) v (aj xs).length:=iF.mpr ⟨hw,by lia,P.lt w hw⟩
   rw[if_pos hmem,if_neg z];exact(hw2 w hmem).1
 have posd:∀x∈(aj xs).drop v,0<A*x+B:=λx hx=>by
  obtain⟨c,hc,e⟩:=wX hx;rw[vR]at hc;obtain⟨w,hw,hfw⟩:=nS (xs:=xs) (c:=v+c) (by lia);have:=(hw2 w (iF.mpr ⟨hw,by lia,P.lt w hw⟩)).2;rw[hfw,<- TL,wa,wc (by rw[vR];lia)]at this;rw[<- e];exact this
 have rlen:(((aj xs).drop v).map (λx=>A*x+B)++[0]).length=(aj xs).length-v+1:=by simp
 have rget:∀c,c<(aj xs).length-v->(((aj xs).drop v).map (λx=>A*x+B)++[0]).getD c 0=A*(aj xs).getD (v+c) 0+B:=λc hc=>by
  rw[wa,vI (by simp;lia),<- wa,yi (by rw[vR];lia),TL]
 have rlast:(((aj xs).drop v).map (λx=>A*x+B)++[0]).getD ((aj xs).length-v) 0=0:=by
  rw[wa,vi (by simp)];simp
 have P2:gQ (dA a b xs) (((aj xs).drop v).map (λx=>A*x+B)++[0]) (λw=>if aV xs w<v then(aj xs).length-v else aV xs w-v):=by
  refine⟨λw hw=>?_,λw hw=>?_⟩
  ·rw[jj]at hw
   rw[ePh w hw];have:=P.lt w hw
   by_cases z:aV xs w<v
   ·simp only[z,if_true]
    exact rlast.symm
   ·simp only[z,if_false]
    rw[rget _ (by lia),show v+(aV xs w-v)=aV xs w by lia]
  ·rw[jj]at hw
   have:=P.lt w hw;rw[rlen]
   show(if aV xs w<v then _ else _)<_
   split<;>lia
 have F2:(((aj xs).drop v).map (λx=>A*x+B)++[0]).Pairwise (· > ·):=by
  rw[qH];refine⟨?_,xv _ _,λx hx y hy=>?_⟩
  ·rw[qw]
   refine(Ux F).imp λ{x y} h=>?_
   have:=Rat.mul_lt_mul_of_pos_left (show y<x from h) hA
   show A*y+B<A*x+B
   grind
  ·obtain⟨z,hz,rfl⟩:=wU.mp hx
   rw[w6.mp hy];exact posd z hz
 have eV:aj (dA a b xs)=((aj xs).drop v).map (λx=>A*x+B)++[0]:=tY P2 F2 λc hc=>by
  rw[rlen]at hc;rcases wA c ((aj xs).length-v)with z | z
  ·obtain⟨w,hw,hfw⟩:=nS (xs:=xs) (c:=v+c) (by lia)
   refine⟨w,by rw[jj];exact hw,?_⟩
   show(if aV xs w<v then _ else _)=_
   rw[hfw,if_neg (by lia)]
   lia
  ·obtain⟨w,hw,hfw⟩:=nS m1
   refine⟨w,by rw[jj];exact hw,?_⟩
   show(if aV xs w<v then _ else _)=_
   rw[hfw,if_pos (by lia)]
   lia
 refine⟨v,v1,hv,⟨_,by unfold cE;rw[eR],hs⟩,⟨A,B,hA,eV,posd⟩,by rw[eV];exact P2,jj ..⟩
def kY(xs:List Rat):List (List Nat):=(aj xs).map (fV xs)
theorem ib(xs:List Rat):(kY xs).length=(aj xs).length:=wm ..
theorem Pm{row:List Rat}(P:gQ ys row fl)(F:row.Pairwise (· > ·))(hc:c<row.length):fV ys (row.getD c 0)=bD ys.length fl c:=by
 unfold fV bD;refine vO λw hw=>?_
 have hw:=wH.mp hw;rw[vL,decide_eq_true_eq,decide_eq_true_eq,P.at' w hw]
 constructor
 ·intro h
  rcases WU (fl w) c with z | z | z
  ·have:=tL F z hc;rw[h]at this;exact absurd this (by grind)
  ·exact z
  ·have:=tL F z (P.lt w hw);rw[h]at this;exact absurd this (by grind)
 ·rintro rfl;rfl
theorem ztr(hc:c<(aj xs).length):(kY xs).getD c []=seg xs.length (aV xs) c (c+1):=by
 have h:=Pm (ly xs) (jn xs.length xs) hc;unfold kY;rw[wa,wu,wc hc]
 show fV xs (aj xs)[c]=_
 rw[wa,wc hc]at h;have h:fV xs (aj xs)[c]=_:=h;rw[h];unfold bD seg;refine vO λw _=>?_
 rw[vL];simp only[wZ,decide_eq_true_eq]
 lia
theorem mG.new{waves:List (List Nat)}(J:mG xs ys waves v):kY ys=(kY xs).drop v++[seg xs.length (aV xs) 0 v]:=by
 obtain⟨A,B,hA,eV,pos⟩:=J.vals;have F2:(aj ys).Pairwise (· > ·):=jn ys.length ys;have hlen:(aj ys).length=(aj xs).length-v+1:=by rw[eV];simp
 have v1:=J.v1;have vm:=J.vm;refine WN (by rw[ib,hlen,wR,vR,ib];rfl) λc h1 h2=>?_
 rw[ib,hlen]at h1
 have e1:(kY ys)[c]'(by rw[ib];lia)=bD xs.length (λw=>if aV xs w<v then(aj xs).length-v else aV xs w-v) c:=by
  have:=Pm J.at' F2 (c:=c) (by lia);rw[J.len]at this;rw[<- this];unfold kY;rw[Vp,wa,wc (by lia)]
  rfl
 rw[e1];rcases wA c ((aj xs).length-v)with z | z
 ·rw[List.getElem_append_left (by rw[vR,ib];lia),X1]
  have hg:=ztr (xs:=xs) (c:=v+c) (by lia);rw[wa,wc (by rw[ib];lia)]at hg;have hg:(kY xs)[v+c]'(by rw[ib];lia)=_:=hg;rw[hg];unfold bD seg;refine vO λw hw=>?_
  have:=(ly xs).lt w (wH.mp hw);rw[vL];simp only[wZ,decide_eq_true_eq]
  split<;>lia
 ·rw[List.getElem_append_right (by rw[vR,ib];lia)]
  have hc:c=(aj xs).length-v:=by lia
  simp only[List.getElem_singleton];unfold bD seg;refine vO λw hw=>?_
  have:=(ly xs).lt w (wH.mp hw);rw[vL];simp only[wZ,decide_eq_true_eq]
  split<;>lia
theorem mG.perm{waves:List (List Nat)}(J:mG xs ys waves v):waves.flatten.Perm (seg xs.length (aV xs) 0 v):=by
 obtain⟨ws,e,s⟩:=J.first;rw[e];exact(jJ.cons (by decide) s).perm
theorem mG.more{waves:List (List Nat)}(J:mG xs ys waves v):1<waves.length ↔ 1<v:=by
 obtain⟨ws,e,s⟩:=J.first;rw[e];cases s with
 | nil=>simp
 | cons h k=>have:=k.le;simp;lia
theorem Cd(F s:Rat):∀n:Nat,aD F s n=aD F 1 n*s
 | 0=>by show(0:Rat)=0*s;rw[Rat.zero_mul]
 | n+1=>by
  show F*aD F s n+s=(F*aD F 1 n+1)*s
  rw[Cd F s n]
  grind
theorem Ag{k:Nat}{F:Rat}(h:ag k F):∀i:Nat,∃T:Int,aD F 1 i=wB T ((F.den:Int)^i)/\Bd ((k+1)*i+1) T/\Bd (k*i+1) ((F.den:Int)^i)
 | 0=>⟨0,by simp[aD],⟨by simp⟩,⟨by simp⟩⟩
 | i+1=>by
  obtain⟨T,e,bT,bd⟩:=Ag h i;have hd:(F.den:Int)^i≠0:=qo (gT F);have hd1:(F.den:Int)^(i+1)≠0:=qo (gT F);have ed:(F.den:Int)^(i+1)=(F.den:Int)^i*(F.den:Int):=V9 ..
  have bd1:Bd (k*(i+1)+1) ((F.den:Int)^(i+1)):=by
   rw[ed];exact(bd.mul h.b).mono (by rw[qY];lia)
  refine⟨F.num*T+(F.den:Int)^(i+1),?_,?_,bd1⟩
  ·symm
   refine fY hd1 ?_
   show(F*aD F 1 i+1)*_=_
   rw[e];have k1:=cY T hd;have k2:=j8 F
   have e1:((F.num*T+(F.den:Int)^(i+1):Int):Rat)=(F.num:Rat)*(T:Rat)+(((F.den:Int)^(i+1):Int):Rat):=by
    rw[qP,vS]
   rw[e1,<- k1,<- k2,ed,vS];generalize (((F.den:Int)^i:Int):Rat)=D;generalize ((F.den:Int):Rat)=d;generalize wB T ((F.den:Int)^i)=y
   grind
  ·have h1:(k+1)*(i+1)=(k+1)*i+(k+1):=qY ..
   have h2:k*(i+1)<=(k+1)*i+k:=by rw[qY];have:=Wf i (show k<=k+1 by lia);lia
   exact((h.t.mul bT).add bd1).mono (by lia)
theorem Pg{F:Rat}(h:ag k F)(i:Nat):ag ((k+1)*i+1) (aD F 1 i):=by
 obtain⟨T,e,bT,bd⟩:=Ag h i;rw[e];exact ag.divInt (qo (gT F)) bT (bd.mono (by have:=Wf i (show k<=k+1 by lia);lia))
def fP(F s:Rat)(n:Nat)(x:Rat):Rat:=F^n*x+aD F 1 n*s
theorem oo(F s:Rat)(n:Nat)(x:Rat):fP F s n x=push F s n x:=by
 unfold fP;rw[hW,<- Cd]
theorem zxz(F s:Rat)(m n:Nat)(x:Rat):fP F s (m+n) x=fP F s n (fP F s m x):=by
 rw[oo,oo,oo,zzM]
theorem zw7(F s x:Rat):fP F s 0 x=x:=by rw[oo];rfl
theorem zxR(F s x:Rat):fP F s 1 x=F*x+s:=by rw[oo];rfl
theorem RX{F s r:Rat}(h:r*(1-F)=s):∀k:Nat,aD F s k=r-F^k*r
 | 0=>by rw[V8,QW];show(0:Rat)=r-r;grind
 | k+1=>by
  show F*aD F s k+s=_
  rw[RX h k,WL]
  grind
theorem zzD{F s r:Rat}(h:r*(1-F)=s)(n:Nat)(x:Rat):fP F s n x=r+F^n*(x-r):=by
 unfold fP;rw[<- Cd,RX h]
 grind
theorem Cm.Y6(c:Cm m (h::xs))(ba:ag 10 a)(bb:ag 10 b)(n i:Nat):Cm (m+2+21*n) ((h+(1-xs.getD i 0))::dF a b n xs i):=by
 obtain⟨B,h0,h1,h2⟩:=c
 have hz:∃z:Int,xs.getD i 0=wB z B/\Bd m z:=by
  rcases wA i xs.length with q | q
  ·rw[wa,wc q]
   exact h2 _ (wy _ (vK q))
  ·rw[wa,wL q]
   exact⟨0,by simp,⟨by simp;exact Wi m⟩⟩
 obtain⟨z,ez,hz⟩:=hz;have key:=λ(t:Int)(ht:Bd m t)=>pE ba bb h0 (show Bd (m+2) (t+B-z)from((ht.add h1).sub hz).mono (by lia)) (h1.mono (by lia)) n
 have e2:∀t:Int,wB t B+(1-xs.getD i 0)=wB (t+B-z) B:=λt=>by
  rw[ez]
  symm
  refine fY (by lia) ?_;have q1:=cY t (show B≠0 by lia);have q2:=cY z (show B≠0 by lia);have q3:((t+B-z:Int):Rat)=(t:Rat)+(B:Rat)-(z:Rat):=by push_cast;rfl
  rw[q3,<- q1,<- q2]
  grind
 obtain⟨p1,p2,_⟩:=key 0 ⟨by simp;exact Wi m⟩;refine⟨_,p1,p2,λx hx=>?_⟩;rcases wF.mp hx with rfl | hx
 ·obtain⟨t,et,ht⟩:=h2 h (wz ..)
  have hd:(0:Int)<((a.den:Int)*(b.den:Int))^n:=ue (vQ (den_pos a) (den_pos b));refine⟨(t+B-z)*((a.den:Int)*(b.den:Int))^n,?_,sX ba bb (((ht.add h1).sub hz).mono (by lia)) n⟩;rw[et,e2 t];exact rB h0 hd
 ·have hx':x=0 \/ ∃y∈xs,x=push a b n (y+(1-xs.getD i 0)):=by
   unfold dF at hx;rcases xh hx with q | q
   ·obtain⟨y,hy,rfl⟩:=wU.mp q
    exact .inr ⟨y,hy,rfl⟩
   ·exact .inl q
  rcases hx' with rfl | ⟨y,hy,rfl⟩
  ·exact⟨0,by simp,⟨by simp;exact Wi _⟩⟩
  ·obtain⟨t,rfl,ht⟩:=h2 y (wy _ hy)
   obtain⟨_,_,T,e,hT⟩:=key t ht;rw[e2 t];exact⟨T,e,hT⟩
theorem Cm.Bb{m:Nat}{xs:List Rat}{a b:Rat}{ns:List Int}(c:Cm m xs)(ba:ag 10 a)(bb:ag 10 b):∀k,k<=ns.length->Cm (m+2*k+21*upTo ns k) (eS a b ns xs k::aM a b ns xs k)
 | 0,_=>(c.mono (by lia)).kA λy hy=>by
  rcases wF.mp hy with rfl | hy
  ·exact .inr rfl
  ·exact .inl hy
 | k+1,hk=>by
  have:=(Cm.Bb c ba bb (ns:=ns) k (by lia)).Y6 ba bb (ns.getD k 0).toNat k;rw[aM,eS];refine this.mono ?_;rw[rE (by lia)]
  lia
def fi(c:Rat)(xs ys:List Rat):List Rat:=List.zipWith (λx y=>x+c*(y-x)) xs ys
theorem nu{c:Rat}(h:xs.length=ys.length):(fi c xs ys).length=xs.length:=by unfold fi;rw[Xs];lia
theorem kU{c:Rat}(h:xs.length=ys.length)(hi:i<xs.length):(fi c xs ys).getD i 0=xs.getD i 0+c*(ys.getD i 0-xs.getD i 0):=by
 unfold fi;rw[wa,wc (by rw[Xs];lia),List.getElem_zipWith,wa,wc hi,wa,wc (by lia)]
 rfl
theorem km(hl:xs.length=ys.length)(h:∀i,i<xs.length->xs.getD i 0=ys.getD i 0):xs=ys:=WN hl λi h1 h2=>by
 have:=h i h1;rw[wa,wa,wc h1,wc h2]at this;exact this
theorem zxB(a b:Rat)(n:Nat)(c:Rat)(h:xs.length=ys.length)(hi:i<xs.length):dF a b n (fi c xs ys) i=fi c (dF a b n xs i) (dF a b n ys i):=by
 have hl:=nu (c:=c) h;refine km (by rw[hV,hl,nu (by rw[hV,hV];exact h),hV]) λj hj=>?_
 rw[hV,hl]at hj;have hg:=kU (c:=c) (xs:=dF a b n xs i) (ys:=dF a b n ys i) (by rw[hV,hV];exact h) (i:=j) (by rw[hV];exact hj);rw[hg,gJ _ _ _ _ _ _ (by lia),gJ _ _ _ _ _ _ hj,gJ _ _ _ _ _ _ (show j<ys.length by lia)]
 by_cases z:j=i
 ·rw[if_pos z,if_pos z,if_pos z];grind
 ·rw[if_neg z,if_neg z,if_neg z,kU h hj,kU h hi,hW,hW,hW]
  grind
theorem BU(a b:Rat)(ns:List Int)(c:Rat){xs ys:List Rat}(h:xs.length=ys.length):∀k,k<=xs.length->aM a b ns (fi c xs ys) k=fi c (aM a b ns xs k) (aM a b ns ys k)
 | 0,_=>rfl
 | k+1,hk=>by
  have ih:=BU a b ns c h k (by lia);rw[aM,ih,aM,aM];exact zxB a b _ c (by rw[de,de];exact h) (by rw[de];lia)
theorem Mr(a b:Rat)(ns:List Int)(c:Rat){xs ys:List Rat}(h:xs.length=ys.length):∀k,k<=xs.length->eS a b ns (fi c xs ys) k=eS a b ns xs k+c*(eS a b ns ys k-eS a b ns xs k)
 | 0,_=>by show(0:Rat)=0+c*(0-0);grind
 | k+1,hk=>by
  rw[eS,eS,eS,Mr a b ns c h k (by lia),BU a b ns c h k (by lia),kU (by rw[de,de];exact h) (by rw[de];lia)]
  grind
theorem Nr(c:Rat)(h:xs.length=ys.length):fi c (xs++[0]) (ys++[0])=fi c xs ys++[0]:=by
 unfold fi;rw[List.zipWith_append h]
 show _++[0+c*(0-0)]=_
 congr 2
 grind
def fj(a b:Rat)(ns:List Int)(xs:List Rat):Rat:=eS a b ns (xs++[0]) ns.length
theorem zyC(c:Rat)(hn:ns.length=xs.length+1)(h:xs.length=ys.length):fj a b ns (fi c xs ys)=fj a b ns xs+c*(fj a b ns ys-fj a b ns xs):=by
 unfold fj;rw[<- Nr c h];exact Mr a b ns c (by simp[h]) _ (by simp;lia)
def sumTo(f:Nat->Rat):Nat->Rat
 | 0=>0
 | n+1=>sumTo f n+f n
theorem sI{f g:Nat->Rat} : ∀n,(∀k,k<n->f k=g k)->sumTo f n=sumTo g n
 | 0,_=>rfl
 | n+1,h=>by rw[sumTo,sumTo,sI n λk hk=>h k (by lia),h n (by lia)]
theorem FH(c:Rat)(f:Nat->Rat):∀n,sumTo (λk=>c*f k) n=c*sumTo f n
 | 0=>by show(0:Rat)=c*0;grind
 | n+1=>by rw[sumTo,sumTo,FH c f n];grind
theorem Ol(f g:Nat->Rat):∀n,sumTo (λk=>f k+g k) n=sumTo f n+sumTo g n
 | 0=>by show(0:Rat)=0+0;grind
 | n+1=>by rw[sumTo,sumTo,sumTo,Ol f g n];grind
theorem Od(F:Rat):∀n,sumTo (λk=>F^k) n=aD F 1 n
 | 0=>rfl
 | n+1=>by
  rw[sumTo,Od F n]
  have:∀m,aD F 1 m*F+1=aD F 1 m+F^m:=λm=>by
   induction m with
   | zero=>rw[V8];show(0:Rat)*F+1=0+1;grind
   | succ m ih =>
    show(F*aD F 1 m+1)*F+1=(F*aD F 1 m+1)+F^(m+1)
    rw[WL]
    grind
  have:=this n
  show aD F 1 n+F^n=F*aD F 1 n+1
  grind
theorem R3{a b:Rat}{ns:List Int}{L:Nat}(hn:ns.length=L+1)(X:Nat->List Rat)(hX:∀k,(X k).length=L):∀(n:Nat)(M:List Rat),1<=n->M.length=L->(∀i,i<L->M.getD i 0*((n:Int):Rat)=sumTo (λk=>(X k).getD i 0) n)->((n:Int):Rat)*fj a b ns M=sumTo (λk=>fj a b ns (X k)) n
 | 0,M,h,_,_=>by lia
 | n+1,M,_,hM,hs=>by
  have en:(((n+1:Nat):Int):Rat)=((n:Int):Rat)+1:=by push_cast;rfl
  by_cases z:n=0
  ·subst z
   have e1:(((0+1:Nat):Int):Rat)=1:=by decide
   have:M=X 0:=km (by rw[hM,hX]) λi hi=>by
    have:=hs i (by lia);rw[e1]at this;have e2:sumTo (λk=>(X k).getD i 0) (0+1)=(X 0).getD i 0:=by rw[sumTo,sumTo];grind
    rw[e2]at this
    grind
   rw[this,e1]
   show 1*fj a b ns (X 0)=0+fj a b ns (X 0)
   grind
  ·have hn0:((n:Int):Rat)≠0:=λe=>z (by have:=Vn.mp e;lia)
   have hn1:((n:Int):Rat)+1≠0:=λe=>by
    rw[<- en]at e;have:=Vn.mp e
    lia
   let M':List Rat:=(wt L).map λi=>sumTo (λk=>(X k).getD i 0) n / ((n:Int):Rat)
   have hl':M'.length=L:=by simp[M']
   have g':∀i,i<L->M'.getD i 0=sumTo (λk=>(X k).getD i 0) n / ((n:Int):Rat):=λi hi=>by
    show((wt L).map λi=>sumTo (λk=>(X k).getD i 0) n / ((n:Int):Rat)).getD i 0=_
    rw[wa,wu,vM hi];rfl
   have ih:=R3 (a:=a) (b:=b) hn X hX n M' (by lia) hl' λi hi=>by rw[g' i hi];exact W8 hn0
   have eM:M=fi (1 / (((n:Int):Rat)+1)) M' (X n):=km (by rw[hM,nu (by rw[hl',hX]),hl']) λi hi=>by
    rw[kU (by rw[hl',hX]) (by lia),g' i (by lia)];have h1:=hs i (by lia);rw[en,sumTo]at h1;generalize sumTo (λk=>(X k).getD i 0) n=S at *;generalize (X n).getD i 0=y at *;generalize M.getD i 0=m at *;generalize ((n:Int):Rat)=N at *;have k1:S / N*N=S:=W8 hn0;have k2:1 / (N+1)*(N+1)=1:=W8 hn1;generalize S / N=q at *;generalize 1 / (N+1)=r at *;have:(m-(q+r*(y-q)))*(N+1)=0:=by grind
    rcases xC.mp this with h | h
    ·grind
    ·exact absurd h hn1
   rw[eM,zyC _ (by lia) (by rw[hl',hX]),sumTo,<- ih,en];generalize fj a b ns M'=A;generalize fj a b ns (X n)=B;generalize ((n:Int):Rat)=N at *;have k2:1 / (N+1)*(N+1)=1:=W8 hn1;generalize 1 / (N+1)=r at *
   grind
end GM
namespace L2
open PySem PySem.Spec PyProof.Rows GM
section
variable{K:wb}{H H' H2:Hp}{a p:we}{xs ys:List V}{o:HO}
theorem ah.upd(h:H p=none):ah H (upd H p o):=λb u e=>by
 rw[eF (jP e h)];exact e
theorem ah.j9(s:ah H H')(h:aU K H a xs):aU K H' a xs:=by
 rcases h with(h | ⟨o,h⟩) | h
 ·exact .inl (.inl (s _ _ h))
 ·exact .inl (.inr ⟨o,s _ _ h⟩)
 ·exact .inr h
structure bG(H H':Hp):Prop where
 t:∀b xs,H b=some (.tup xs)->H' b=some (.tup xs)
 f:∀b o u,H b=some (.gF o u)->H' b=some (.gF o u)
theorem ah.keep(s:ah H H'):bG H H':=⟨λb xs h=>s _ _ h,λb o u h=>s _ _ h⟩
theorem bG.trans(a:bG H H')(b:bG H' H2):bG H H2:=⟨λc xs h=>b.t _ _ (a.t _ _ h),λc o u h=>b.f _ _ _ (a.f _ _ _ h)⟩
theorem bG.j9(k:bG H H')(h:aU K H a xs):aU K H' a xs:=by
 rcases h with(h | ⟨o,h⟩) | h
 ·exact .inl (.inl (k.t _ _ h))
 ·exact .inl (.inr ⟨o,k.f _ _ _ h⟩)
 ·exact .inr h
def iV(K:wb)(H:Hp)(a:we)(xs:List V):Prop :=
 (∃o,H a=some (.gF o (.lst xs))) \/
  ∃(o:Obj)(its:Array wg)(n:Nat),K.lookup a=some o/\o.cls=.type "list"/\o.dict=none/\o.data=.seq its n/\its.size<=w8/\aT xs its.toList
theorem iV.sq(h:iV K H a xs):aO K H a xs:=by
 rcases h with⟨o,h⟩ | h
 ·exact .inl (.inr ⟨o,h⟩)
 ·exact .inr h
theorem bG.B8(k:bG H H')(h:iV K H a xs):iV K H' a xs:=by
 rcases h with⟨o,h⟩ | h
 ·exact .inl ⟨o,k.f _ _ _ h⟩
 ·exact .inr h
def Exc(p:we)(H H':Hp):Prop:=∀b o,b≠p->H b=some o->H' b=some o
theorem Exc.keep(e:Exc p H H')(h:H p=some (.lst xs)):bG H H' :=
 ⟨λb ys hb=>e b _ (U8 hb h (by intro z;cases z)) hb,λb o u hb=>e b _ (U8 hb h (by intro z;cases z)) hb⟩
theorem ah.exc(s:ah H H'):Exc p H H':=λb o _ h=>s b o h
theorem Exc.refl(p:we)(H:Hp):Exc p H H:=λ_ _ _ h=>h
theorem Exc.trans(a:Exc p H H')(b:Exc p H' H2):Exc p H H2:=λc o n h=>b c o n (a c o n h)
theorem Exc.upd(p:we)(H:Hp)(o:HO):Exc p H (upd H p o):=λb u n h=>by
 rw[eF n];exact h
theorem Exc.at(e:Exc p H H'){q:we}{u:HO}(n:q≠p)(h:H q=some u):H' q=some u:=e q u n h
end
mutual
def Is(K:wb)(H:Hp):V->wC->Prop
 | v,.none=>v=.a_
 | v,.bool b=>v=.bl b
 | v,.int i=>v=.int i
 | v,.str x=>v=.str x
 | v,.tuple ds=>∃a xs,v=.ref a/\aU K H a xs/\ak K H xs ds
 | v,.list ds=>∃a xs,v=.ref a/\aO K H a xs/\ak K H xs ds
 | v,.dict _=>∃a kvs,v=.ref a/\H a=some (.dK kvs)
def ak(K:wb)(H:Hp):List V->List wC->Prop
 | xs,[]=>xs=[]
 | xs,d::ds=>∃x r,xs=x::r/\Is K H x d/\ak K H r ds
end
section
variable{K:wb}{H H':Hp}{v:V}{xs:List V}{ds:List wC}{d:wC}
theorem bW{i:Int} : Is K H v (.int i) ↔ v=.int i:=by rw[Is]
theorem ky{b:Bool} : Is K H v (.bool b) ↔ v=.bl b:=by rw[Is]
theorem eZ{x:Str} : Is K H v (.str x) ↔ v=.str x:=by rw[Is]
theorem mf:Is K H v .none ↔ v=.a_:=by rw[Is]
theorem bX:Is K H v (.tuple ds) ↔ ∃a xs,v=.ref a/\aU K H a xs/\ak K H xs ds:=by rw[Is]
theorem cC:Is K H v (.list ds) ↔ ∃a xs,v=.ref a/\aO K H a xs/\ak K H xs ds:=by rw[Is]
theorem zb{kv:List (wC × wC)} : Is K H v (.dict kv) ↔ ∃a kvs,v=.ref a/\H a=some (.dK kvs):=by rw[Is]
theorem gU:ak K H xs [] ↔ xs=[]:=by rw[ak]
theorem eD:ak K H xs (d::ds) ↔ ∃x r,xs=x::r/\Is K H x d/\ak K H r ds:=by rw[ak]
theorem ak.cons(h:Is K H v d)(t:ak K H xs ds):ak K H (v::xs) (d::ds):=eD.mpr ⟨v,xs,rfl,h,t⟩
theorem ak.nil:ak K H [] []:=gU.mpr rfl
theorem ak.length:∀{ds:List wC}{xs:List V},ak K H xs ds->xs.length=ds.length
 | [],_,h=>by rw[gU.mp h];rfl
 | d::ds,_,h=>by
  obtain⟨x,r,rfl,_,t⟩:=eD.mp h;rw[vo,vo,ak.length t]
theorem ak.get:∀{ds:List wC}{xs:List V}{i:Nat}{d:wC},ak K H xs ds->ds[i]? = some d->∃x,xs[i]? = some x/\Is K H x d
 | [],_,_,_,_,e=>by simp at e
 | d::ds,_,0,_,h,e=>by
  obtain⟨x,r,rfl,q,_⟩:=eD.mp h;simp at e;subst e;exact⟨x,rfl,q⟩
 | d::ds,_,i+1,d',h,e=>by
  obtain⟨x,r,rfl,_,t⟩:=eD.mp h;obtain⟨y,h1,h2⟩:=ak.get (i:=i) t (by simpa using e);exact⟨y,by simpa using h1,h2⟩
theorem ak.append:∀{ds es:List wC}{xs ys:List V},ak K H xs ds->ak K H ys es->ak K H (xs++ys) (ds++es)
 | [],_,_,_,h,t=>by rw[gU.mp h];exact t
 | d::ds,_,_,_,h,t=>by
  obtain⟨x,r,rfl,q,u⟩:=eD.mp h;exact .cons q (ak.append u t)
mutual
theorem Is.same(s:ah H H'):∀(d:wC)(v:V),Is K H v d->Is K H' v d
 | .none,v,h=>by rw[mf]at h ⊢;exact h
 | .bool _,v,h=>by rw[ky]at h ⊢;exact h
 | .int _,v,h=>by rw[bW]at h ⊢;exact h
 | .str _,v,h=>by rw[eZ]at h ⊢;exact h
 | .tuple ds,v,h=>by
  obtain⟨a,xs,e,q,t⟩:=bX.mp h;exact bX.mpr ⟨a,xs,e,s.j9 q,ak.same s ds xs t⟩
 | .list ds,v,h=>by
  obtain⟨a,xs,e,q,t⟩:=cC.mp h;exact cC.mpr ⟨a,xs,e,s.seq q,ak.same s ds xs t⟩
 | .dict _,v,h=>by
  obtain⟨a,kvs,e,q⟩:=zb.mp h;exact zb.mpr ⟨a,kvs,e,s _ _ q⟩
theorem ak.same(s:ah H H'):∀(ds:List wC)(xs:List V),ak K H xs ds->ak K H' xs ds
 | [],xs,h=>by rw[gU]at h ⊢;exact h
 | d::ds,xs,h=>by
  obtain⟨x,r,e,q,t⟩:=eD.mp h;exact eD.mpr ⟨x,r,e,Is.same s d x q,ak.same s ds r t⟩
end
end
mutual
def di:wC->Bool
 | .none=>true
 | .bool _=>true
 | .int _=>true
 | .str _=>true
 | .tuple ds=>ck ds
 | .list _=>false
 | .dict _=>false
def ck:List wC->Bool
 | []=>true
 | d::ds=>di d&&ck ds
end
section
variable{K:wb}{H H':Hp}
mutual
theorem Is.keep(k:bG H H'):∀(d:wC)(v:V),di d=true->Is K H v d->Is K H' v d
 | .none,v,_,h=>by rw[mf]at h ⊢;exact h
 | .bool _,v,_,h=>by rw[ky]at h ⊢;exact h
 | .int _,v,_,h=>by rw[bW]at h ⊢;exact h
 | .str _,v,_,h=>by rw[eZ]at h ⊢;exact h
 | .tuple ds,v,i,h=>by
  obtain⟨a,xs,e,q,t⟩:=bX.mp h;exact bX.mpr ⟨a,xs,e,k.j9 q,ak.keep k ds xs (by rw[di]at i;exact i) t⟩
 | .list ds,v,i,h=>by rw[di]at i;cases i
 | .dict _,v,i,h=>by rw[di]at i;cases i
theorem ak.keep(k:bG H H'):∀(ds:List wC)(xs:List V),ck ds=true->ak K H xs ds->ak K H' xs ds
 | [],xs,_,h=>by rw[gU]at h ⊢;exact h
 | d::ds,xs,i,h=>by
  obtain⟨x,r,e,q,t⟩:=eD.mp h;rw[ck,wZ]at i;exact eD.mpr ⟨x,r,e,Is.keep k d x i.1 q,ak.keep k ds r i.2 t⟩
end
end
def N(r:Rat):wC:=.tuple [.int r.num,.int (r.den:Int)]
theorem kG(r:Rat):di (N r)=true:=by simp[N,di,ck]
section
variable{K:wb}{H H':Hp}{v:V}{r:Rat}
theorem nz:Is K H v (N r) ↔ ∃a,v=.ref a/\aU K H a [.int r.num,.int (r.den:Int)]:=by
 unfold N;rw[bX]
 constructor
 ·rintro ⟨a,xs,e,q,t⟩
  obtain⟨x,r1,rfl,q1,t⟩:=eD.mp t;obtain⟨y,r2,rfl,q2,t⟩:=eD.mp t;rw[gU.mp t,bW.mp q1,bW.mp q2]at q;exact⟨a,e,q⟩
 ·rintro ⟨a,e,q⟩
  exact⟨a,_,e,q,.cons (bW.mpr rfl) (.cons (bW.mpr rfl) .nil)⟩
end
section
variable{X:Cx}{pins:List (we × Obj)}{σ : St}{H:Hp}{s:wl}
mutual
theorem Inv.reads(I:Inv X pins σ H s):∀(d:wC)(v:V)(u:wg),d.canLay0=true->Is X.K H v d->bj v u->∃as,Reads s.heap u d as
 | .none,v,u,_,h,r=>by
  cases mf.mp h;cases (show u=Value.none from r);exact⟨_,.none⟩
 | .bool b,v,u,_,h,r=>by
  cases ky.mp h;cases (show u=Value.bool b from r);exact⟨_,.bool b⟩
 | .int i,v,u,_,h,r=>by
  cases bW.mp h;obtain⟨t,e⟩:=(show ∃t,u=Value.int i t from r);cases e;exact⟨_,.int i t⟩
 | .str x,v,u,_,h,r=>by
  cases eZ.mp h;obtain⟨t,e⟩:=(show ∃t,u=Value.str x t from r);cases e;exact⟨_,.str x t⟩
 | .tuple ds,v,u,c,h,r=>by
  obtain⟨a,xs,e,q,t⟩:=bX.mp h;subst e;cases (show u=Value.ref a from r);obtain⟨its,rv,⟨o,e1,e2,n,e3⟩,_⟩:=I.tuple q;obtain⟨as,ra⟩:=Inv.readsAll I ds xs its (by rw[vU]at c;exact c) t rv;exact⟨_,.tuple e1 e2 e3 (by simpa using ra)⟩
 | .list ds,v,u,c,h,r=>by
  obtain⟨a,xs,e,q,t⟩:=cC.mp h;subst e;cases (show u=Value.ref a from r);obtain⟨its,rv,⟨o,n,e1,e2,_,e3⟩,_⟩:=I.list q;obtain⟨as,ra⟩:=Inv.readsAll I ds xs its (by rw[vU]at c;exact c) t rv;exact⟨_,.list e1 e2 e3 (by simpa using ra)⟩
 | .dict _,v,u,c,h,r=>by rw[vU]at c;cases c
theorem Inv.readsAll(I:Inv X pins σ H s):∀(ds:List wC)(xs:List V)(us:List wg),Wu ds=true->ak X.K H xs ds->aT xs us->∃as,ReadsAll s.heap us ds as
 | [],xs,us,_,h,r=>by
  rw[gU.mp h]at r;cases r;exact⟨_,.nil⟩
 | d::ds,xs,us,c,h,r=>by
  obtain⟨x,l,e,q,t⟩:=eD.mp h;subst e;rw[Wu,wZ]at c;cases r with
  | cons r1 r2 =>
   obtain⟨as,h1⟩:=Inv.reads I d x _ c.1 q r1;obtain⟨bs,h2⟩:=Inv.readsAll I ds l _ c.2 t r2;exact⟨_,.cons h1 h2⟩
end
end
section
variable{X:Cx}
open PySem.SeqAt (shaped)
variable{K:wb}
def cO(K:wb):R2:=λx y H Q=>∃d e,Is K H x d/\Is K H y e/\shaped d=true/\shaped e=true/\Q (.bl (wY d e)) H
def f_(K:wb):R2:=λx y H Q=>∃d e,Is K H x d/\Is K H y e/\shaped d=true/\shaped e=true/\Q (.bl (!PyData.eqv d e)) H
theorem dG(hu:X.A.units+64<WD):aN X (wT .Eq) (cO X.K):=by
 intro pins s σ H x y v u Q I rx ry h;obtain⟨d,e,hd,he,sd,se,q⟩:=h;obtain⟨as,h1⟩:=I.reads d x v (Vq sd) hd rx;obtain⟨bs,h2⟩:=I.reads e y u (Vq se) he ry;exact eq_dataH h1 h2 sd se hu ⟨.bl _,H,I,rfl,q⟩
theorem jO(hu:X.A.units+64<WD):aN X (wT .NotEq) (f_ X.K):=by
 intro pins s σ H x y v u Q I rx ry h;obtain⟨d,e,hd,he,sd,se,q⟩:=h;obtain⟨as,h1⟩:=I.reads d x v (Vq sd) hd rx;obtain⟨bs,h2⟩:=I.reads e y u (Vq se) he ry;exact ne_dataH h1 h2 sd se hu ⟨.bl _,H,I,rfl,q⟩
theorem bj.Jx{x:V}{v:wg}(r:bj x v)(c:Bool):(v == Value.bool c)=decide (x=.bl c):=by
 cases x with
 | a_=>cases (show v=Value.none from r);rfl
 | bl b=>cases (show v=Value.bool b from r);cases b<;>cases c<;>rfl
 | int _=>obtain⟨t,rfl⟩:=r;rfl
 | str _=>obtain⟨t,rfl⟩:=r;rfl
 | byt _=>obtain⟨t,rfl⟩:=r;rfl
 | flt _=>obtain⟨t,rfl⟩:=r;rfl
 | ref _=>cases r;rfl
 | ty _=>cases r;rfl
theorem bj.II{x:V}{v:wg}(r:bj x v)(c:Bool):plainIs v (Value.bool c)=true:=by
 cases x with
 | a_=>cases (show v=Value.none from r);rfl
 | bl b=>cases (show v=Value.bool b from r);rfl
 | int _=>obtain⟨t,rfl⟩:=r;rfl
 | str _=>obtain⟨t,rfl⟩:=r;rfl
 | byt _=>obtain⟨t,rfl⟩:=r;rfl
 | flt _=>obtain⟨t,rfl⟩:=r;rfl
 | ref _=>cases r;rfl
 | ty _=>cases r;rfl
def NZ:R2:=λx y H Q=>(∃c,y=.bl c/\Q (.bl (decide (x=.bl c))) H)\/(y=.a_/\Q (.bl (decide (x=.a_))) H)
def LM:R2:=λx y H Q=>(∃c,y=.bl c/\Q (.bl (!decide (x=.bl c))) H)\/(y=.a_/\Q (.bl (!decide (x=.a_))) H)
theorem tE :aN X (wT .Is) NZ:=by
 intro pins s σ H x y v u Q I rx ry h;rcases h with⟨c,e,q⟩ | h
 ·subst e
  cases (show u=Value.bool c from ry);exact wpAny_is_plain (rx.II c) (zT I q (rx.Jx c).symm)
 ·exact zC2 pins s σ H x y v u Q I rx ry h
theorem RV :aN X (wT .IsNot) LM:=by
 intro pins s σ H x y v u Q I rx ry h;rcases h with⟨c,e,q⟩ | h
 ·subst e
  cases (show u=Value.bool c from ry);exact wpAny_isNot_plain (rx.II c) (zT I q (congrArg not (rx.Jx c).symm))
 ·exact zAv pins s σ H x y v u Q I rx ry h
def kindOf:wC->String
 | .none=>"NoneType"
 | .bool _=>"bool"
 | .int _=>"int"
 | .str _=>"str"
 | .tuple _=>"tuple"
 | .list _=>"list"
 | .dict _=>"dict"
def eJ(K:wb):List V->Hp->VK->Prop:=λxs H Q=>∃x T d b,xs=[x,.ty T]/\Is K H x d/\V0 K (.type (kindOf d)) (.type T)=some b/\Q (.bl b) H
theorem jw :aJ X (.builtin "isinstance") (eJ X.K):=by
 intro pins s σ H xs us Q I r h;obtain⟨x,T,d,b,rfl,hd,e,q⟩:=h;obtain⟨u,w',rfl,rx,rt⟩:=lF r;cases (show w'=Value.type T from rt);have fin:∀tk,EP X pins σ Q (.bool b) {s with toks:=tk}:=λtk=>⟨.bl b,H,I.tok _,rfl,q⟩
 cases d with
 | none =>
  cases mf.mp hd;cases (show u=Value.none from rx);exact VE X2 I.dS True.intro e (λz=>nomatch z) fin
 | bool y =>
  cases ky.mp hd;cases (show u=Value.bool y from rx);exact VE X3 I.dS True.intro e (λz=>nomatch z) fin
 | int i =>
  cases bW.mp hd;obtain⟨t,q⟩:=(show ∃t,u=Value.int i t from rx);cases q;exact VE uu I.dS True.intro e (λz=>nomatch z) fin
 | str y =>
  cases eZ.mp hd;obtain⟨t,q⟩:=(show ∃t,u=Value.str y t from rx);cases q;exact VE uv I.dS True.intro e (λz=>nomatch z) fin
 | tuple ds =>
  obtain⟨a,xs,e1,hq,_⟩:=bX.mp hd;subst e1;cases (show u=Value.ref a from rx);obtain⟨its,_,⟨o,h1,h2,_⟩,_⟩:=I.tuple hq;exact VE XH I.dS ⟨o,h1,h2⟩ e (λz=>nomatch z) fin
 | list ds =>
  obtain⟨a,xs,e1,hq,_⟩:=cC.mp hd;subst e1;cases (show u=Value.ref a from rx);obtain⟨its,_,⟨o,n,h1,h2,_⟩,_⟩:=I.list hq;exact VE X4 I.dS ⟨o,h1,h2⟩ e (λz=>nomatch z) fin
 | dict kv =>
  obtain⟨a,kvs,e1,hq⟩:=zb.mp hd;subst e1;cases (show u=Value.ref a from rx);obtain⟨_,_,vs,_,o,es,ep,h1,h2,_⟩:=(show dN X.prog X.w H s.heap a (.dK kvs)from I.aI a _ hq);exact VE X5 I.dS ⟨o,h1,h2.1⟩ e (λz=>nomatch z) fin
def isA(T:String)(d:wC):Bool:=(kindOf d == T) || (kindOf d == "bool"&&T == "int")
theorem zA8(d:wC):V0 K (.type (kindOf d)) (.type "int")=some (isA "int" d):=by cases d<;>rfl
theorem zzq(d:wC):V0 K (.type (kindOf d)) (.type "bool")=some (isA "bool" d):=by cases d<;>rfl
theorem zwq(d:wC):V0 K (.type (kindOf d)) (.type "tuple")=some (isA "tuple" d):=by cases d<;>rfl
theorem zxP(d:wC):V0 K (.type (kindOf d)) (.type "list")=some (isA "list" d):=by cases d<;>rfl
theorem zAa(d:wC):V0 K (.type (kindOf d)) (.type "str")=some (isA "str" d):=by cases d<;>rfl
theorem Y8{m n:Nat}{i j:Int}(h:Bd m i)(k:Bd n j)(hm:m<=1000000)(hn:n<=1000000):IntMulOk i j:=by
 have f:∀{m:Nat}{i:Int},Bd m i->m<=1000000->Xu i<=2^20:=by
  intro m i h hm;have e:(2:Nat)^20=1048576:=by decide
  have l:=(h.mono (Nat.le_succ m)).log (QE m);unfold Xu
  split<;>lia
 exact .of_bits (f h hm) (f k hn)
theorem cV :aN X (WC .Mult) (rI IntMulOk λi j=>.int (i*j)):=zt λ_ _ _ _ _ _ _ hc q=>mul_int q hc
def oq(_ j:Int):Prop:=j≠0/\Bd 8999 j
theorem fu :aN X (WC .FloorDiv) (rI oq λi j=>.int (i.fdiv j)):=zt λ_ _ _ _ _ _ _ hc q =>
 floordiv_int hc.1 q (.inl (PyProof.noPylong_of_log2 (VO (hc.2.log (by decide)))))
theorem zBl :aN X (WC .Add) (λx y H Q=>(iL λi j=>.int (i+j)) x y H Q\/(F5 x y H Q \/ ∃i j,x=.str i/\y=.str j/\i.length+j.length<=w8/\Q (.str (i++j)) H)):=zDd.or (Z1.or ztz)
end
theorem dU:vN "len"=some (.builtin "len"):=by decide +kernel
theorem mC:vN "abs"=some (.builtin "abs"):=by decide +kernel
theorem iM:vN "isinstance"=some (.builtin "isinstance"):=by decide +kernel
theorem zC1:vN "int"=some (.type "int"):=by decide +kernel
theorem O3:vN "bool"=some (.type "bool"):=by decide +kernel
theorem zDL:vN "str"=some (.type "str"):=by decide +kernel
theorem ee:vN "tuple"=some (.type "tuple"):=by decide +kernel
theorem kH:vN "list"=some (.type "list"):=by decide +kernel
def mi(K:wb)(xs:List V)(H:Hp)(Q:VK):Prop:=xs.length<=w8 /\ ∀p,H p=none->Q (.ref p) (upd H p (.tup xs))
def Cw(K:wb)(xs:List V)(H:Hp)(Q:VK):Prop:=xs.length<=w8 /\ ∀p,H p=none->Q (.ref p) (upd H p (.lst xs))
def rA(K:wb)(t:TA):TE:=λσ H Q=>t σ H λxs H1=>mi K xs H1 Q
def PZ(K:wb)(t:TA):TE:=λσ H Q=>t σ H λxs H1=>Cw K xs H1 Q
def FK:R2:=λx y H Q=>(iL λi j=>.int (i+j)) x y H Q\/(F5 x y H Q \/ ∃i j,x=.str i/\y=.str j/\i.length+j.length<=w8/\Q (.str (i++j)) H)
def M8:List V->Hp->VK->Prop:=λxs H Q=>∃i:Int,xs=[.int i]/\Q (.int (if i<0 then -i else i)) H
def dj(K:wb):List V->Hp->VK->Prop:=λxs H Q=>∃p ys,xs=[.ref p]/\(aO K H p ys\/aU K H p ys)/\Q (.int ys.length) H
section
variable{X:Cx}{e:Expr}{es:List Expr}{te:TE}{t:TA}{pos:Pos}
theorem br{x1}(h:PA X es t):PE X (.Tuple es x1 pos) (rA X.K t):=zDO h
theorem fb(h:PA X es t):PE X (.List es pos) (PZ X.K t):=zDe h
theorem cF:aN X (WC .Add) FK:=zBl
theorem lO:aJ X (.builtin "abs") M8:=zxU
theorem d6:aJ X (.builtin "len") (dj X.K):=zrn
theorem mH{x:Str}{i:Int}{pos:Pos}(hg:Gl X x)(hm:∃t,X.mg x=some (.int i t))(hd:(x == ("__debug__" : Str))=false:=by decide):PE X (.Name x pos) (tC (.int i)):=by
 obtain⟨t,hm⟩:=hm;exact b_ hg hm ⟨t,rfl⟩ hd
end
section
variable{K:wb}{σ : St}{H H':Hp}{Q:VK}{QA:List V->Hp->Prop}{QB:Bool->Hp->Prop}{QS:St->Hp->Prop}{QH:Hp->Prop}{D:cv}{ta tb te:TE}{tt tu:TT}{t tr:TA}{s1 s2:TS}{g:TG}{gs:kr}{r:R2}{v w:V}{xs ys:List V}{i:Nat}{m n:Int}
variable{j:Nat}{p:we}{ds:List wC}{A B:Prop}
theorem zCy(h : σ[i]? = some (some v))(q:Q v H):rM i σ H Q:=⟨v,h,q⟩
theorem zEX(q:Q v H):tC v σ H Q:=q
theorem zES(h:ta σ H λx H1=>tb σ H1 λy H2=>r x y H2 Q):lK r ta tb σ H Q:=h
theorem zEh{u:V->Hp->VK->Prop}(h:ta σ H λx H1=>u x H1 Q):Lx u ta σ H Q:=h
theorem zDw(h:t σ H λxs H1=>mi K xs H1 Q):rA K t σ H Q:=h
theorem zDI(h:t σ H λxs H1=>Cw K xs H1 Q):PZ K t σ H Q:=h
theorem Zx(q:QA [] H):y_ σ H QA:=q
theorem zA3(h:te σ H λx H1=>tr σ H1 λxs H2=>QA (x::xs) H2):yU te tr σ H QA:=h
theorem zA1{sp:Sp}{E:XK}(h:t σ H λvs H1=>sp vs H1 Q E):pX sp [] E t σ H Q:=by
 simpa only[pX,Wh] using h
theorem zEm{u:List V->Hp->VK->Prop}(h:t σ H λvs H1=>u vs H1 Q):Gs u t σ H Q:=h
theorem zBj(h:te σ H λx H'=>∃k,x=.bl k/\QB k H'):BB te σ H QB:=h
theorem ZP(h:te σ H λx H'=>∃k,x=.bl k/\QB k H'):tB te σ H QB:=h
theorem zDB(h:tt σ H λc H1=>if c=true then tu σ H1 QB else QB false H1):M_ tt tu σ H QB:=h
theorem zEP(h:tt σ H λc H1=>if c=true then QB true H1 else tu σ H1 QB):Ry tt tu σ H QB:=h
theorem zDb(h:tt σ H λc H1=>QB (!c) H1):TM tt σ H QB:=h
theorem zAu(h:ta σ H λx H1=>∃c,x=.bl c/\if c=true then tb σ H1 Q else Q (.bl false) H1):Tv ta tb σ H Q:=h
theorem zAe(h:ta σ H λx H1=>∃c,x=.bl c/\Q (.bl (!c)) H1):L_ ta σ H Q:=h
theorem zCC(h:tt σ H λc H1=>if c=true then ta σ H1 Q else tb σ H1 Q):L4 tt ta tb σ H Q:=h
theorem zDD(h:s1 {D with nx:=s2 D} σ H):DG s1 s2 D σ H:=h
theorem zBd(h:D.nx σ H):K0 D σ H:=h
theorem zCU(h:te σ H D.rt):Yd te D σ H:=h
theorem zC8(h:tt σ H λb H1=>if b=true then s1 D σ H1 else s2 D σ H1):KY tt s1 s2 D σ H:=h
theorem zDo(h:te σ H λx H1=>g x σ H1 D.nx):jS te g D σ H:=h
theorem zzX(h:te σ H λ_ H1=>D.nx σ H1):Sy te D σ H:=h
theorem zCS(h:t σ H λvs H1=>∃v w,vs=[v,w]/\D.nx ((σ.set i (some v)).set j (some w)) H1):YF i j t D σ H:=h
theorem zAq(q:QS ((σ.set i (some v)).set j (some w)) H):∃v' w',[v,w]=[v',w']/\QS ((σ.set i (some v')).set j (some w')) H:=⟨v,w,rfl,q⟩
theorem zyy(q:QS (σ.set i (some v)) H):iB i v σ H QS:=q
theorem zAz(q:QS σ H):OJ [] σ H QS:=⟨rfl,q⟩
theorem zxE(q:g v σ H λσ' H'=>gs xs σ' H' QS):SS g gs (v::xs) σ H QS:=⟨v,xs,rfl,q⟩
theorem mm{a:we}{n:Nat}(h:aU K H a xs)(e:xs.length=n)(q:gs xs σ H QS):lZ K n gs (.ref a) σ H QS:=⟨a,xs,rfl,h,e,q⟩
theorem zBu{tset:AH}(h:ta σ H λo H1=>tb σ H1 λi H2=>tset o i v H2 λH3=>QS σ H3):SV ta tb tset v σ H QS:=h
theorem As{k:Int}(h:H p=some (.lst xs))(e:h_ xs.length k=some j)(q:∀H',Exc p H H'->H' p=some (.lst (xs.set j v))->QH H'):Lm (.ref p) (.int k) v H QH :=
 ⟨p,xs,k,j,rfl,rfl,h,e,q _ (Exc.upd p H _) cZ⟩
theorem zDl{f:Int->Int->V}(q:Q (f m n) H):iL f (.int m) (.int n) H Q:=⟨m,n,rfl,rfl,q⟩
theorem pS{C:Int->Int->Prop}{f:Int->Int->V}(c:C m n)(q:Q (f m n) H):rI C f (.int m) (.int n) H Q:=⟨m,n,rfl,rfl,c,q⟩
theorem zD4{f:Int->V}(q:Q (f m) H):rU f (.int m) H Q:=⟨m,rfl,q⟩
theorem zAC(q:Q (.int (m+n)) H):FK (.int m) (.int n) H Q:=.inl ⟨m,n,rfl,rfl,q⟩
theorem kn{b:we}(h:H p=some (.lst xs))(k:H b=some (.lst ys))(z:xs.length+ys.length<=w8)
  (q:∀c H',H c=none->ah H H'->H' c=some (.lst (xs++ys))->Q (.ref c) H'):FK (.ref p) (.ref b) H Q :=
 .inr (.inl ⟨p,b,xs,ys,rfl,rfl,h,k,z,λc hc=>q c _ hc (ah.upd hc) cZ⟩)
theorem zDK(q:Q (.int (if m<0 then -m else m)) H):M8 [.int m] H Q:=⟨m,rfl,q⟩
theorem UW(h:aU K H p xs)(q:Q (.int xs.length) H):dj K [.ref p] H Q:=⟨p,xs,rfl,.inr h,q⟩
theorem jf(h:aO K H p xs)(q:Q (.int xs.length) H):dj K [.ref p] H Q:=⟨p,xs,rfl,.inl h,q⟩
theorem zCR(q:Q (.bl (decide (v=.a_))) H):NZ v .a_ H Q:=.inr ⟨rfl,q⟩
theorem zBa(q:Q (.bl (!decide (v=.a_))) H):LM v .a_ H Q:=.inr ⟨rfl,q⟩
theorem zDn(q:Q (.bl (decide (m=n))) H):cO K (.int m) (.int n) H Q :=
 ⟨.int m,.int n,bW.mpr rfl,bW.mpr rfl,rfl,rfl,by
  have e:wY (.int m) (.int n)=decide (m=n):=by
   rw[wY,Qy]
  rw[e];exact q⟩
theorem zCL(q:Q (.bl (!decide (m=n))) H):f_ K (.int m) (.int n) H Q :=
 ⟨.int m,.int n,bW.mpr rfl,bW.mpr rfl,rfl,rfl,by
  have e:wY (.int m) (.int n)=decide (m=n):=by
   rw[wY,Qy]
  rw[e];exact q⟩
theorem mV{d e:wC}(h:Is K H v d)(k:Is K H w e)(sd:Wb d=true)(se:Wb e=true)(q:Q (.bl (wY d e)) H):cO K v w H Q:=⟨d,e,h,k,sd,se,q⟩
theorem Et{d e:wC}(h:Is K H v d)(k:Is K H w e)(sd:Wb d=true)(se:Wb e=true)(q:Q (.bl (!PyData.eqv d e)) H):f_ K v w H Q:=⟨d,e,h,k,sd,se,q⟩
theorem oW{T:String}{d:wC}(h:Is K H v d)(e:V0 K (.type (kindOf d)) (.type T)=some (isA T d))(q:Q (.bl (isA T d)) H):eJ K [v,.ty T] H Q:=⟨v,T,d,_,rfl,h,e,q⟩
def iW:wC->Bool
 | .tuple _=>true
 | _=>false
def Cz:wC->Bool
 | .int _=>true
 | .bool _=>true
 | _=>false
def EC:wC->Bool
 | .bool _=>true
 | _=>false
def k_:wC->Bool
 | .list _=>true
 | _=>false
def CY:wC->Bool
 | .str _=>true
 | _=>false
theorem UA{d:wC} : iW d=true ↔ ∃ds,d=.tuple ds:=by cases d<;>simp[iW]
theorem Kr{d:wC}(h:Is K H v d)(q:Q (.bl (iW d)) H):eJ K [v,.ty "tuple"] H Q:=oW h (zwq d) (by have e:isA "tuple" d=iW d:=(by cases d<;>rfl);rw[e];exact q)
theorem zxV{d:wC}(h:Is K H v d)(q:Q (.bl (Cz d)) H):eJ K [v,.ty "int"] H Q:=oW h (zA8 d) (by have e:isA "int" d=Cz d:=(by cases d<;>rfl);rw[e];exact q)
theorem UG{d:wC}(h:Is K H v d)(q:Q (.bl (EC d)) H):eJ K [v,.ty "bool"] H Q:=oW h (zzq d) (by have e:isA "bool" d=EC d:=(by cases d<;>rfl);rw[e];exact q)
theorem zy3{d:wC}(h:Is K H v d)(q:Q (.bl (k_ d)) H):eJ K [v,.ty "list"] H Q:=oW h (zxP d) (by have e:isA "list" d=k_ d:=(by cases d<;>rfl);rw[e];exact q)
theorem zyO{d:wC}(h:Is K H v d)(q:Q (.bl (CY d)) H):eJ K [v,.ty "str"] H Q:=oW h (zAa d) (by have e:isA "str" d=CY d:=(by cases d<;>rfl);rw[e];exact q)
theorem t9(h:aU K H p xs)(e:iE xs m=some v)(q:Q v H):dw K (.ref p) (.int m) H Q:=.inr (.inl ⟨p,xs,m,v,rfl,rfl,h,e,q⟩)
theorem jb(h:aO K H p xs)(e:iE xs m=some v)(q:Q v H):dw K (.ref p) (.int m) H Q:=.inl ⟨p,xs,m,v,rfl,rfl,h,e,q⟩
theorem zCA{α : Type}{xs:List α}(h0:0<=m)(h1:m<xs.length):∃v,iE xs m=some v/\v∈xs:=by
 obtain⟨k,rfl⟩:∃k:Nat,m=(k:Int):=⟨m.toNat,by lia⟩;have l:k<xs.length:=by lia
 exact⟨xs[k],kO (by simp[l]),vK l⟩
theorem O8(P:V->Prop)(h:aO K H p xs)(h0:0<=m)(h1:m<xs.length)(hP:∀x∈xs,P x)(q:∀x,P x->Q x H):dw K (.ref p) (.int m) H Q:=by
 obtain⟨x,e,hx⟩:=zCA h0 h1;exact jb h e (q x (hP x hx))
theorem zBc{r:Rat}(h:Is K H v (N r))(q:Q (.int r.num) H):dw K v (.int 0) H Q:=by
 obtain⟨a,rfl,h'⟩:=nz.mp h;exact t9 h' rfl q
theorem zBC{r:Rat}(h:Is K H v (N r))(q:Q (.int (r.den:Int)) H):dw K v (.int 1) H Q:=by
 obtain⟨a,rfl,h'⟩:=nz.mp h;exact t9 h' rfl q
theorem aA{d:wC}(h:Is K H v (.tuple ds))(e:ds[j]? = some d)(q:∀x,Is K H x d->Q x H):dw K v (.int (j:Int)) H Q:=by
 obtain⟨a,xs,rfl,h,t⟩:=bX.mp h;obtain⟨x,e1,hx⟩:=t.get e;exact t9 h (kO e1) (q x hx)
theorem lg(h:Is K H v (.tuple ds))(q:Q (.int ds.length) H):dj K [v] H Q:=by
 obtain⟨a,xs,rfl,h,t⟩:=bX.mp h;exact UW h (by rw[t.length];exact q)
theorem zyY{n:Nat}(h:Is K H v (.tuple ds))(e:ds.length=n)(q:∀xs,ak K H xs ds->gs xs σ H QS):lZ K n gs v σ H QS:=by
 obtain⟨a,xs,rfl,h,t⟩:=bX.mp h;exact mm h (by rw[t.length];exact e) (q xs t)
theorem n_{α : Type}{l:List α}(h:l.length<=1000):l.length<=w8:=Ve (jI h)
theorem ou(z:xs.length<=1000)(q:∀p H',H p=none->ah H H'->H' p=some (.tup xs)->Q (.ref p) H'):mi K xs H Q:=⟨n_ z,λp hp=>q p _ hp (ah.upd hp) cZ⟩
theorem fB(z:xs.length<=1000)(q:∀p H',H p=none->ah H H'->H' p=some (.lst xs)->Q (.ref p) H'):Cw K xs H Q:=⟨n_ z,λp hp=>q p _ hp (ah.upd hp) cZ⟩
theorem cB(z:xs.length<=1000)(h:ak K H xs ds)(q:∀v H',ah H H'->Is K H' v (.tuple ds)->Q v H'):mi K xs H Q :=
 ou z λp H' _ s e=>q _ H' s (bX.mpr ⟨p,xs,rfl,.of e,ak.same s ds xs h⟩)
theorem eY{r:Rat}(e1:m=r.num)(e2:n=(r.den:Int))(q:∀v H',ah H H'->Is K H' v (N r)->Q v H'):mi K [.int m,.int n] H Q:=by
 subst e1 e2;exact ou (by show 2<=1000;decide) λp H' _ s e=>q _ H' s (nz.mpr ⟨p,rfl,.of e⟩)
theorem zAg{p:Prop}[Decidable p](h1:p->A)(h2:¬ p->B):if decide p=true then A else B:=by
 by_cases h:p
 ·rw[decide_eq_true h,if_pos rfl];exact h1 h
 ·rw[decide_eq_false h,if_neg vF];exact h2 h
theorem zyr{p:Prop}[Decidable p](h1:¬ p->A)(h2:p->B):if(!decide p)=true then A else B:=by
 by_cases h:p
 ·rw[decide_eq_true h];exact nR (h2 h)
 ·rw[decide_eq_false h];exact nv (h1 h)
theorem zzY{b:Bool}(h1:b=true->A)(h2:b=false->B):if b=true then A else B:=by
 cases b
 ·exact nR (h2 rfl)
 ·exact nv (h1 rfl)
theorem zyd{b:Bool}(h1:b=false->A)(h2:b=true->B):if(!b)=true then A else B:=by
 cases b
 ·exact nv (h1 rfl)
 ·exact nR (h2 rfl)
end
section
variable{c:TT}{tb:TS}{D:cv}{σ : St}{H:Hp}
def Mo(σ : St)(i:Nat):Int:=match σ[i]? with
 | some (some (.int y))=>y
 | _=>0
def So(Pv:St->Hp->Prop)(μ : St->Nat)(tb:TS)(D:cv)(σ':St)(H1:Hp):Prop :=
 ∃M:St->Hp->Prop,(∀σ2 H2,M σ2 H2->∃m',m' < μ σ'/\(m' = μ σ2/\Pv σ2 H2))/\tb {D with nx:=M,ct:=M,bk:=D.nx} σ' H1
theorem RW(Pv:St->Hp->Prop)(μ : St->Nat)(h0:Pv σ H)
  (hs:∀σ' H',Pv σ' H'->c σ' H' λb H1=>if b=true then So Pv μ tb D σ' H1 else D.nx σ' H1):BG c tb D σ H:=by
 refine⟨λm σ H=>m = μ σ /\ Pv σ H,⟨_,rfl,h0⟩,?_⟩;rintro m σ H ⟨rfl,p⟩;exact hs σ H p
theorem Me{Pv:St->Hp->Prop}{μ : St->Nat}{σ':St}{H1:Hp}(h:tb {D with nx:=λσ2 H2=>μ σ2 < μ σ'/\Pv σ2 H2,ct:=λσ2 H2=>μ σ2 < μ σ'/\Pv σ2 H2,bk:=D.nx} σ' H1):So Pv μ tb D σ' H1 :=
 ⟨_,λσ2 H2 q=>⟨_,q.1,rfl,q.2⟩,h⟩
def LS(g:TG)(tb:TS)(D:cv)(σ : St)(vs:List V)(H1:Hp):Prop:=∃j:Int,vs=[.int j] /\ -(2^62)<=j/\j<2^62 /\
 ∃W:Nat->Nat->St->Hp->Prop,(∃m,W 0 m σ H1) /\ ∀i m σ H,W i m σ H ->
  ((gG 0 j.toNat).stop i H/\D.nx σ H)\/((gG 0 j.toNat).go i H /\ ∃M:St->Hp->Prop,(∀σ' H',M σ' H'->∃m',m'<m/\W (i+1) m' σ' H') /\ ∀x H',(gG 0 j.toNat).fD i H x H'->g x σ H' λσ2 H2=>tb {D with nx:=M,ct:=M,bk:=D.nx} σ2 H2)
theorem zAR{ta:TA}{g:TG}(h:ta σ H λvs H1=>LS g tb D σ vs H1):lW (En ta) g tb D σ H:=h
theorem lD{g:TG}{n:Int}(h0 : -1000000000<=n)(h1:n<1000000000)(Pv:Nat->St->Hp->Prop)(p:Pv 0 σ H)
  (hs:∀(i:Nat) σ H,i<n.toNat->Pv i σ H->g (.int (i:Int)) σ H λσ2 H2=>tb {D with nx:=Pv (i+1),ct:=Pv (i+1),bk:=D.nx} σ2 H2)
  (hd:∀σ H,Pv n.toNat σ H->D.nx σ H):LS g tb D σ [.int n] H:=by
 refine⟨n,rfl,by lia,by lia,Oe (lo:=0) Pv p (λi σ H hi q=>?_) hd⟩;have e:(0:Int)+(i:Int)=(i:Int):=by lia
 rw[e];exact hs i σ H hi q
end
def Gp(K:wb)(g:TG)(tb:TS)(D:cv)(σ : St)(x:V)(H1:Hp):Prop:=∃a,x=.ref a/\(∃xs,aO K H1 a xs) /\
 ∃W:Nat->Nat->St->Hp->Prop,(∃m,W 0 m σ H1) /\ ∀i m σ H,W i m σ H ->
  ((jg K a).stop i H/\D.nx σ H)\/((jg K a).go i H /\ ∃M:St->Hp->Prop,(∀σ' H',M σ' H'->∃m',m'<m/\W (i+1) m' σ' H') /\ ∀x H',(jg K a).fD i H x H'->g x σ H' λσ2 H2=>tb {D with nx:=M,ct:=M,bk:=D.nx} σ2 H2)
def Yy(K:wb)(g:TG)(tb:TS)(D:cv)(σ : St)(x:V)(H1:Hp):Prop:=∃a,x=.ref a/\(∃xs,aU K H1 a xs) /\
 ∃W:Nat->Nat->St->Hp->Prop,(∃m,W 0 m σ H1) /\ ∀i m σ H,W i m σ H ->
  ((je K a).stop i H/\D.nx σ H)\/((je K a).go i H /\ ∃M:St->Hp->Prop,(∀σ' H',M σ' H'->∃m',m'<m/\W (i+1) m' σ' H') /\ ∀x H',(je K a).fD i H x H'->g x σ H' λσ2 H2=>tb {D with nx:=M,ct:=M,bk:=D.nx} σ2 H2)
section
variable{K:wb}{te:TE}{g:TG}{tb:TS}{D:cv}{σ : St}{H:Hp}{a:we}{xs:List V}
theorem zAF(h:te σ H λx H1=>Gp K g tb D σ x H1):lW (B0 K te) g tb D σ H:=h
theorem Fn(hx:aO K H a xs)(Pv:Nat->St->Hp->Prop)(h0:Pv 0 σ H)(hl:∀i σ H,i<=xs.length->Pv i σ H->aO K H a xs)
  (hs:∀i x σ H,xs[i]? = some x->Pv i σ H->g x σ H λσ2 H2=>tb {D with nx:=Pv (i+1),ct:=Pv (i+1),bk:=D.nx} σ2 H2) (hd:∀σ H,Pv xs.length σ H->D.nx σ H):Gp K g tb D σ (.ref a) H :=
 ⟨a,rfl,⟨xs,hx⟩,zzS Pv h0 hl hs hd⟩
theorem ZM(hx:aU K H a xs)(Pv:Nat->St->Hp->Prop)(h0:Pv 0 σ H)(hl:∀i σ H,i<=xs.length->Pv i σ H->aU K H a xs)
  (hs:∀i x σ H,xs[i]? = some x->Pv i σ H->g x σ H λσ2 H2=>tb {D with nx:=Pv (i+1),ct:=Pv (i+1),bk:=D.nx} σ2 H2) (hd:∀σ H,Pv xs.length σ H->D.nx σ H):Yy K g tb D σ (.ref a) H :=
 ⟨a,rfl,⟨xs,hx⟩,zAw Pv h0 hl hs hd⟩
end
theorem zCq{K:wb}{H:Hp}{a:we}{xs:List V}(hO:Az H)(h:aO K H a xs):iV K H a xs:=by
 rcases h with(h | ⟨o,h⟩) | h
 ·rcases hO a with z | ⟨ob,ys,z⟩
  ·rw[h]at z;cases z
  ·rw[h]at z;cases z
 ·exact .inl ⟨o,h⟩
 ·exact .inr h
theorem My{K:wb}{H:Hp}{Q:VK}{a:we}{ns:List Int}{m:Int}(h:iV K H a (ns.map V.int))(h0:0<=m)(h1:m<((ns.map V.int).length:Int))(q:∀z,Q (.int z) H):dw K (.ref a) (.int m) H Q:=by
 refine O8 (λv=>∃z,v=.int z) h.sq h0 h1 (λx hx=>?_) (λx hx=>?_)
 ·obtain⟨z,_,rfl⟩:=wU.mp hx
  exact⟨z,rfl⟩
 ·obtain⟨z,rfl⟩:=hx
  exact q z
section
variable{K:wb}{H H':Hp}{v:V}{d:wC}{a:we}{xs:List V}{o:HO}
theorem ah.back{H2:Hp}(b:ah H' H2)(s:ah H H'):ah H H2:=s.trans b
theorem bG.back{H2:Hp}(b:bG H' H2)(s:bG H H'):bG H H2:=s.trans b
theorem Is.by(s:ah H H')(h:Is K H v d):Is K H' v d:=Is.same s d v h
theorem Is.Zi(h:Is K H v d)(s:ah H H'):Is K H' v d:=Is.same s d v h
theorem Is.Y_{r:Rat}(h:Is K H v (N r))(s:bG H H'):Is K H' v (N r):=Is.keep s _ v (kG r) h
theorem Is.gg{r:Rat}(s:bG H H')(h:Is K H v (N r)):Is K H' v (N r):=Is.keep s _ v (kG r) h
theorem Is.jm(s:bG H H')(i:di d=true)(h:Is K H v d):Is K H' v d:=Is.keep s _ v i h
end
def fm(X:Cx)(N':List Str)(scope:Scope)(cl:List (Str × we))(C:we)(s₀ : wl)(H₀ : Hp)(fp:List we)(pins:List (we × Obj)):Cx where
 prog:=X.prog
 w:=X.w
 K:=X.K
 mg:=X.mg
 base:=X.base
 A:=X.A
 N:=N'
 s₀:=s₀
 H₀:=H₀
 env:=compEnvC scope cl C X.env
 outer:=X.stack
 stack:=X.stack
 ex:=fp
 fn:=λ_=>false
 calm:=X.calm
 pn:=X.pn++pins
 xe:=λ_ _=>False
structure K9(X:Cx)(scope:Scope)(cl:List (Str × we)):Prop where
 lC:closureFor scope X.env=pure cl
 sub:∀x c,cl.lookup x=some c->X.env.cells.lookup x=some c
 has:∀x,((relabel scope X.env).names.lookup x=some .cell\/(relabel scope X.env).names.lookup x=some .free)->∃c,cl.lookup x=some c
def dR(src:List (Option Nat))(σ : St):St:=src.map λo=>match o with
 | none=>none
 | some j=>(σ[j]?).join
def KH(X:Cx)(N':List Str)(src:List (Option Nat)):Prop :=
 N'.length=src.length /\ ∀(i j:Nat)(x:Str),N'[i]? = some x->src[i]? = some (some j)->X.N[j]? = some x/\X.env.scope.names.lookup x=some .cell
section
variable{X:Cx}{pins:List (we × Obj)}{σ : St}{H:Hp}{s:wl}{N':List Str}{scope:Scope}{cl:List (Str × we)}{src:List (Option Nat)}{fp:List we}
theorem Inv.block{h₁ : wG}{tk:Nat}(I:Inv X pins σ H s)(hk:scope.kind=.function)(cok:K9 X scope cl)(sok:KH X N' src)(hf:∀b∈fp,eK X pins H b)(hlt:∀b∈fp,b<s.heap.objs.size)
  (hns:h₁.Ns s.heap.objs.size λ_=>none) (old:∀b o,s.heap.get? b=some o->h₁.get? b=some o)
  (hvis:∀(i:Nat) x,N'[i]? = some x->src[i]? ≠ some none->(relabel scope X.env).names.lookup x=some .cell\/(relabel scope X.env).names.lookup x=some .free) :
  Inv (fm X N' scope cl s.heap.objs.size s H fp pins) [] (dR src σ) H {s with heap:=h₁,toks:=tk}:=by
 have hfr:H s.heap.objs.size=none:=I.aI.fresh (wo _)
 have kR:∀x c,cl.lookup x=some c->c<s.heap.objs.size:=λx c e=>by
  obtain⟨v,q⟩:=I.cell x c (cok.sub x c e);exact q.lt
 have fplt:∀b∈fp,b ∉ dX X.stack:=λb hb z=>by
  obtain⟨_,f1,f2,_⟩:=hf b hb;exact(wF.mp (I.mO b z)).elim f1 f2
 refine⟨⟨I.ok.mod,?_,I.ok.glob,I.ok.blt,wo _,λx y c h1 h2=>?_,λx hx=>?_,λx c hx=>?_,I.ok.hd,I.ok.frames,.inl rfl,λb hb=>⟨?_,λx c e=>?_⟩,I.bs,Wa I.ok.iX I.sz,λb o e=>?_,fplt,I.stack,I.sr⟩,
  rfl,I.bare,Un.kept old,⟨_,hns,λi x v h1 h2 h3=>?_⟩,λx c e=>?_,hfr,λx c e=>?_,λp hp=>?_,I.aI.kept old,?_⟩
 ·show(relabel scope X.env).kind=.function
  exact hk
 ·exact I.ok.inj x y c (cok.sub x c h1) (cok.sub y c h2)
 ·exact cok.has x hx
 ·exact absurd (show false=true from hx) vF
 ·exact wQ (hlt b hb)
 ·exact(hf b hb).2.2.2.2.1 x c (cok.sub x c e)
 ·intro hb
  obtain⟨_,_,_,f3,_⟩:=hf b hb;rcases f3 with z | z
  ·exact I.ok.kD b o e z
  ·exact absurd (wV (wD e) (Wa I.ok.iX z)) (Vj _)
 ·-- a name of the frame around
  have hsrc:∃j,src[i]? = some (some j) /\ σ[j]? = some (some v):=by
   unfold dR at h2;rw[wu]at h2;cases q:src[i]? with
   | none=>rw[q]at h2;cases h2
   | some o =>
    rw[q]at h2;cases o with
    | none=>cases h2
    | some j =>
     refine⟨j,rfl,?_⟩;have h2':(σ[j]?).join=some v:=wM h2;cases q2 : σ[j]? with
     | none=>rw[q2]at h2';cases h2'
     | some z=>rw[q2]at h2';exact congrArg some h2'
  obtain⟨j,hj,hv⟩:=hsrc;obtain⟨hN,hc⟩:=sok.2 i j x h1 hj;obtain⟨m,_,hl⟩:=I.loc;obtain⟨u,ru,lk⟩:=hl j x v hN hv (.inr (.inl hc));refine⟨u,ru,.inr ⟨hvis i x h1 (by rw[hj];intro z;cases z),?_⟩⟩;rcases lk with⟨k,_⟩ | ⟨_,c,ec,hcell⟩
  ·have k':X.env.scope.names.lookup x=some .local:=k
   rw[hc]at k';cases k'
  ·obtain⟨c',ec'⟩:=cok.has x (hvis i x h1 (by rw[hj];intro z;cases z))
   have:=cok.sub x c' ec';rw[ec]at this;cases this;obtain⟨o,ho,hd⟩:=hcell;exact⟨c,ec',o,old c o ho,hd⟩
 ·obtain⟨v,o,ho,hd⟩:=I.cell x c (cok.sub x c e)
  exact⟨v,o,old c o ho,hd⟩
 ·exact I.gn x c (cok.sub x c e)
 ·have hp':p∈(X.pn++pins)++[]:=hp
  rw[Wh]at hp';obtain⟨e,n,ne,nf,d⟩:=I.pin p hp';refine⟨old _ _ e,n,wQ (wD e),λz=>?_,d⟩;exact(wF.mp (I.mO p.1 z)).elim ne nf
 ·show(dR src σ).length=N'.length
  unfold dR;rw[wm,sok.1]
end
def UY:TT:=λ_ H Q=>Q true H
def rD(X:Cx)(ifs:List Expr)(t:TT):Prop :=
 ∀(pins:List (we × Obj))(s:wl)(σ : St)(H:Hp)(Q:Bool->Hp->Prop),Inv X pins σ H s->t σ H Q ->
  wx (model X.prog X.w) X.A (forIn ifs true λc r=>if r=true then do let ok <- isTrue c X.env (eval c X.env);pure (ForInStep.yield ok)else pure (ForInStep.yield r)) (TP X pins σ Q) X.xe s
theorem dM{X:Cx} : rD X [] UY:=λ_ _ _ H _ I h=>wpAny_tests_nil ⟨H,I,h⟩
theorem tX{X:Cx}{c:Expr}{t:TT}(hc:PT X c t):rD X [c] t:=λpins s σ H Q I h=>wpAny_tests_one (hc pins s σ H Q I h)
section
variable{prog:wI}{w:wJ}{A:vb}{R:Result->wl->Prop}{s:wl}
theorem Z2{elt target iter:Expr}{ifs:List Expr}{scope:Scope}{pos:Pos}{it acc:wg}{env:Env}(I:Nat->wl->Prop)
   (turn:∀n s,I n s->wx (model prog w) A (VR it) (λr s₁=>match r with
     | none=>R (.ok .next) s₁
     | some v=>wx (model prog w) A (qT target it v) (λ_ s₁'=>wx (model prog w) A (assign target env v) (λ_ s₂ =>
         wx (model prog w) A (forIn ifs true λc r=>if r=true then do let ok <- isTrue c env (eval c env);pure (ForInStep.yield ok)else pure (ForInStep.yield r)) (λok s₃ =>
           if ok=true then wx (model prog w) A (eval elt env) (λx s₄ =>
             wx (model prog w) A (call (.builtin "list.append") [acc,x]) (λ_ s₅=>∃m,m<n/\I m s₅) (λ_ _=>False) s₄) (λ_ _=>False) s₃
           else ∃m,m<n/\I m s₃) (λ_ _=>False) s₂) (λ_ _=>False) s₁') (λ_ _=>False) s₁) (λ_ _=>False) s)
   (n:Nat) (h:I n s):codeAny (model prog w) A (.compLoop (.ListComp elt [⟨target,iter,ifs,0⟩] scope pos) 0 it acc env) R s:=by
 refine codeAny_loop rfl I (λn s hI=>?_) n h
 show wx _ A ((compTurn (.ListComp elt [⟨target,iter,ifs,0⟩] scope pos) 0 it acc env).onRaise (λx=>do noteFrame x env;theTreesLotGoes x)) _ _ s
 refine wpAny_noted ?_;rw[compTurn_list];refine wf (wpAny_standAt (wf (WB (turn n s hI) (λr s₁ h₁=>?_) λ_ _ h'=>h'.elim)));cases r with
 | none=>exact wp h₁
 | some v =>
   refine wf (WB h₁ (λ_ s₁' h₁'=>?_) λ_ _ h'=>h'.elim);refine wf (WB h₁' (λ_ s₂ h₂=>wf (WB h₂ (λok s₃ h₃=>?_) λ_ _ h'=>h'.elim)) λ_ _ h'=>h'.elim);cases ok with
   | false=>exact wp ⟨rfl,h₃⟩
   | true=>exact wf (wf (WB h₃ (λx s₄ h₄=>wf (WB h₄ (λ_ s₅ h₅=>wp (wp ⟨rfl,h₅⟩)) λ_ _ h'=>h'.elim)) λ_ _ h'=>h'.elim))
end
def ki(g:TG)(tt:TT)(te:TE)(J:It)(D:we)(σ0:St)(H0:Hp)(Q:Hp->Prop):Prop :=
 ∃W:Nat->Nat->St->Hp->Prop,(∃m,W 0 m σ0 H0) /\ ∀i m σ' H',W i m σ' H' ->
  (J.stop i H'/\Q H')\/(J.go i H' /\ ∃M:St->Hp->Prop,(∀σ2 H2,M σ2 H2->∃m',m'<m/\W (i+1) m' σ2 H2) /\
   ∀x H2,J.fD i H' x H2->g x σ' H2 λσ3 H3=>tt σ3 H3 λok H4=>if ok=true then te σ3 H4 λy H5=>∃ys,H5 D=some (.lst ys)/\ys.length<w8/\M σ3 (upd H5 D (.lst (ys++[y])))else M σ3 H4)
def jQ(src:List (Option Nat))(wi:TI)(g:TG)(tt:TT)(te:TE):TE:=λσ H Q=>wi σ H λJ H1=>∀D,H1 D=none->ki g tt te J D (dR src σ) (upd H1 D (.lst [])) (λH'=>Q (.ref D) H')
structure Lu(Y:Cx)(tg:Expr)(J:It)(fp:List we)(it:we)(tn:Nat->wG->Prop):Prop where
 item:∀(i:Nat)(pins:List (we × Obj))(s:wl)(σ : St)(H:Hp)(E:wg->wl->Prop),Inv Y pins σ H s->(∀b∈fp,eK Y pins H b)->tn i s.heap->J.go i H ->
   wx (model Y.prog Y.w) Y.A (VR (.ref it)) (λr s1=>∃u,r=some u/\wx (model Y.prog Y.w) Y.A (qT tg (.ref it) u) (λ_ s2=>∃x H',Inv Y pins σ H' s2/\bj x u/\J.fD i H x H'/\tn (i+1) s2.heap /\ ∀b∈fp,H' b=none) E s1) E s
 done:∀(i:Nat)(pins:List (we × Obj))(s:wl)(σ : St)(H:Hp)(E:wg->wl->Prop),Inv Y pins σ H s->(∀b∈fp,eK Y pins H b)->tn i s.heap->J.stop i H ->
   wx (model Y.prog Y.w) Y.A (VR (.ref it)) (λr s1=>r=none/\Inv Y pins σ H s1) E s
theorem jK.OB{P:wI}{w:wJ}{K:wb}{tg:Expr}{J:It}{fp:List we}{it:we}{tn:Nat->wG->Prop}(T:jK P w K tg J fp it tn){Y:Cx}(h1:Y.prog=P)(h2:Y.w=w)(h3:Y.K=K)(hc:Y.calm=true):Lu Y tg J fp it tn:=by
 subst h1 h2 h3;exact⟨T.item Y rfl rfl rfl hc,T.done Y rfl rfl rfl hc⟩
section
variable{X:Cx}{pins:List (we × Obj)}{σ : St}{H:Hp}{s:wl}{N':List Str}{scope:Scope}{cl:List (Str × we)}{src:List (Option Nat)}{elt tgt iter:Expr}{ifs:List Expr}{pos:Pos}{wi:TI}{g:TG}{tt:TT}{te:TE}
structure cR(X:Cx)(N':List Str)(scope:Scope)(cl:List (Str × we))(src:List (Option Nat)):Prop where
 kind:scope.kind=.function
 cell:∀y∈scope.names,y.2≠.cell
 names:∀y∈scope.names,y.2=.local->scope.names.lookup y.1=some .local
 lC:K9 X scope cl
 Ze:KH X N' src
 BI:∀(i:Nat) x,N'[i]? = some x->src[i]? ≠ some none->(relabel scope X.env).names.lookup x=some .cell\/(relabel scope X.env).names.lookup x=some .free
theorem UZ{it:we}{fp:List we}{tn:Nat->wG->Prop}{J:It}{RQ:we->Hp->Prop}{E:wg->wl->Prop}{RR:wg->we->Result->wl->Prop}
   (TC:∀C s₀ H₀,Lu (fm X N' scope cl C s₀ H₀ fp pins) tgt J fp it tn) (ok:cR X N' scope cl src)
   (hg:∀C s₀ H₀ fp pins,PG (fm X N' scope cl C s₀ H₀ fp pins) tgt g) (ht:∀C s₀ H₀ fp pins,rD (fm X N' scope cl C s₀ H₀ fp pins) ifs tt) (he:∀C s₀ H₀ fp pins,PE (fm X N' scope cl C s₀ H₀ fp pins) elt te)
   (I:Inv X pins σ H s) (T:jK X.prog X.w X.K tgt J fp it tn) (st:tn 0 s.heap) (hf:∀b∈fp,eK X pins H b)
   (rd:∀D,H D=none->ki g tt te J D (dR src σ) (upd H D (.lst [])) (λH'=>RQ D H'))
   (hRR:∀D C H' s' m,Inv X pins σ H' s'->s'.heap.Ns C m->eK X pins H' C->RQ D H'->RR (.ref D) C (.ok .next) s') :
   wx (model X.prog X.w) X.A (newList []) (λacc s₃=>wx (model X.prog X.w) X.A (newFunctionEnv scope X.env.globals cl [] X.env.qual none .none (some X.env)) (λcenv s₄ =>
     codeAny (model X.prog X.w) X.A (.compStart (.ListComp elt [⟨tgt,iter,ifs,0⟩] scope pos) 0 (.ref it) acc {cenv with scope:=relabel scope X.env}) (RR acc cenv.locals) s₄) E s₃) E s:=by
 refine WH ?_ (by show 0<=w8;exact Wm _);have hD:H s.heap.objs.size=none:=I.aI.fresh (wo _)
 have I3:Inv X pins σ (upd H s.heap.objs.size (.lst [])) {s with heap:=s.heap.push {cls:=.type "list",data:=.seq ([]:List wg).toArray}} :=
   I.Bc (ys:=[]) (its:=[]) (t':=s.toks) .nil (Wm _)
 have old3:∀b o,s.heap.get? b=some o->(s.heap.push {cls:=.type "list",data:=.seq ([]:List wg).toArray}).get? b=some o:=λb o e=>wn _ e
 have lt0:∀b∈fp,b<s.heap.objs.size:=λb hb=>by
   obtain⟨o,e,_⟩:=T.obj 0 _ st b hb;exact wD e
 have hf3:∀b∈fp,eK X pins (upd H s.heap.objs.size (.lst [])) b:=λb hb=>⟨by rw[eF (wQ (lt0 b hb))];exact(hf b hb).1,(hf b hb).2⟩
 have lt3:∀b∈fp,b<(s.heap.push {cls:=.type "list",data:=.seq ([]:List wg).toArray}).objs.size:=λb hb=>by
   rw[V1];exact VO (lt0 b hb)
 have st3:tn 0 (s.heap.push {cls:=.type "list",data:=.seq ([]:List wg).toArray}):=T.keep _ _ _ st λb _ o e=>old3 b o e
 obtain⟨W,⟨m0,w0⟩,turn⟩:=rd _ hD;generalize hs3:({s with heap:=s.heap.push {cls:=.type "list",data:=.seq ([]:List wg).toArray}} : wl)=s3 at I3 ⊢;have hh3:s3.heap=s.heap.push {cls:=.type "list",data:=.seq ([]:List wg).toArray}:=by rw[<- hs3]
 rw[<- hh3]at lt3 st3;clear old3 hs3 hh3;generalize hD':s.heap.objs.size=D at *
 refine wpAny_newFunctionEnv ok.cell (by intro y hy;cases hy) (λh₁ hns₁ hsb₁=>?_) ok.kind;have old:∀b o,s3.heap.get? b=some o->h₁.get? b=some o:=λb o e=>hsb₁.extBut b o (wQ (wD e)) (wn _ e)
 have hC:eK X pins (upd H D (.lst [])) s3.heap.objs.size:=I3.jM (wo _) (I3.aI.fresh (wo _))
 have IB:∀tk,Inv (fm X N' scope cl s3.heap.objs.size s3 (upd H D (.lst [])) fp pins) [] (dR src σ) (upd H D (.lst [])) {s3 with heap:=h₁,toks:=tk}:=λtk =>
   I3.block ok.kind ok.lC ok.Ze hf3 lt3 hns₁ old ok.BI
 have stB:tn 0 h₁:=T.keep _ _ _ st3 λb _ o e=>old b o e
 have stat:∀{H':Hp} ,(∀b∈fp,H' b=none)->∀b∈fp,eK (fm X N' scope cl s3.heap.objs.size s3 (upd H D (.lst [])) fp pins) [] H' b:=λhn b hb=>by
   obtain⟨_,f1,f2,f3,f4,f5⟩:=hf3 b hb;refine⟨hn b hb,wQ (lt3 b hb),λz=>(wF.mp (I3.mO b z)).elim f1 f2,.inl hb,λx c e=>f4 x c (ok.lC.sub x c e),λp hp=>?_⟩;have hp':p∈(X.pn++pins)++[]:=hp;rw[Wh]at hp';exact f5 p hp'
 have back:∀{σ':St}{H':Hp}{s':wl},Inv (fm X N' scope cl s3.heap.objs.size s3 (upd H D (.lst [])) fp pins) [] σ' H' s'->Inv X pins σ H' s'/\(∃m,s'.heap.Ns s3.heap.objs.size m)/\eK X pins H' s3.heap.objs.size:=λ{σ' H' s'} J=>by
   obtain⟨m,hn,_⟩:=J.loc;refine⟨I3.J9 (ch:=fp) J.os J.base J.aI J.bare (λb hb=>?_),⟨m,hn⟩,⟨J.free,hC.2⟩⟩;obtain⟨_,f1,_,f3,f4,f5⟩:=hf3 b hb;exact⟨f3,f1,f4,f5⟩
 have loop:∀tk,codeAny (model X.prog X.w) X.A (.compLoop (.ListComp elt [⟨tgt,iter,ifs,0⟩] scope pos) 0 (.ref it) (.ref D) (compEnvC scope cl s3.heap.objs.size X.env)) (RR (.ref D) s3.heap.objs.size) {s3 with heap:=h₁,toks:=tk}:=by
   intro tk
   refine Z2 (λn s'=>∃i σ' H',Inv (fm X N' scope cl s3.heap.objs.size s3 (upd H D (.lst [])) fp pins) [] σ' H' s'/\tn i s'.heap/\(∀b∈fp,H' b=none)/\W i n σ' H') ?_ m0
     ⟨0,_,_,IB tk,stB,λb hb=>(hf3 b hb).1,w0⟩
   rintro n s4 ⟨i,σ4,H4,I4,st4,fr4,w4⟩;rcases turn i n σ4 H4 w4 with⟨stop,q⟩ | ⟨go,M,hM,step⟩
   . refine aK ((TC _ _ _).done i [] s4 σ4 H4 (λ_ _=>False) I4 (stat fr4) st4 stop) λr s5 ⟨hr,I5⟩=>?_
     subst hr;obtain⟨J,⟨m,hn⟩,hCf⟩:=back I5;exact hRR D _ H4 s5 m J hn hCf q
   . refine aK ((TC _ _ _).item i [] s4 σ4 H4 (λ_ _=>False) I4 (stat fr4) st4 go) λr s5 ⟨u,hr,h5⟩=>?_
     subst hr;refine aK h5 λ_ s6 ⟨x,H6,I6,r6,y6,st6,fr6⟩=>?_
     have I6':=I6.pinned (stat fr6) (T.obj _ _ st6)
     have again:∀{σ7:St}{H7:Hp}{s7:wl},Inv (fm X N' scope cl s3.heap.objs.size s3 (upd H D (.lst [])) fp pins) ([]++pV fp s6.heap) σ7 H7 s7->M σ7 H7 ->
         ∃m,m<n /\ ∃i σ' H',Inv (fm X N' scope cl s3.heap.objs.size s3 (upd H D (.lst [])) fp pins) [] σ' H' s7/\tn i s7.heap/\(∀b∈fp,H' b=none)/\W i m σ' H':=λ{σ7 H7 s7} I7 n7=>by
       obtain⟨m',hm,w7⟩:=hM σ7 H7 n7;refine⟨m',hm,i+1,σ7,H7,I7.sj,T.keep _ _ _ st6 λb hb o e=>(I7.pin (b,o) (Wc _ (Wc _ (z8 hb e)))).1,λb hb=>?_,w7⟩;obtain⟨o,e,d⟩:=T.obj _ _ st6 b hb;exact(I7.pin (b,o) (Wc _ (Wc _ (z8 hb e)))).2.1
     refine aK (hg _ _ _ _ _ _ s6 σ4 H6 x u _ I6' r6 (step x H6 y6)) λ_ s7 ⟨σ7,H7,I7,q7⟩=>?_
     refine aK (ht _ _ _ _ _ _ s7 σ7 H7 _ I7 q7) λk s8 ⟨H8,I8,q8⟩=>?_
     cases k with
     | false=>exact again I8 q8
     | true =>
       rw[if_pos rfl]at q8 ⊢;refine aK (he _ _ _ _ _ _ s8 σ7 H8 _ I8 q8) λy s9 ⟨yv,H9,I9,r9,ys,hys,hz,q9⟩=>?_
       exact aK (lH _ s9 σ7 H9 (.ref D) [yv] (.ref D) [y] (λ_ H'=>M σ7 H') I9 rfl (.cons r9 .nil) ⟨D,ys,yv,rfl,rfl,hys,hz,q9⟩) λ_ s10 ⟨_,H10,I10,_,q10⟩=>again I10 q10
 exact codeAny_compStart_list (loop _) (T.self _ _ _ _ _ stB (loop _))
theorem d7(hc:X.calm=true)(ok:cR X N' scope cl src)(hi:PI X tgt iter wi)
  (hg:∀C s₀ H₀ fp pins,PG (fm X N' scope cl C s₀ H₀ fp pins) tgt g) (ht:∀C s₀ H₀ fp pins,rD (fm X N' scope cl C s₀ H₀ fp pins) ifs tt) (he:∀C s₀ H₀ fp pins,PE (fm X N' scope cl C s₀ H₀ fp pins) elt te)
  (hs:∀x,foldedSetIterable iter X.env x=pure x:=by intro _;rfl):PE X (.ListComp elt [⟨tgt,iter,ifs,0⟩] scope pos) (jQ src wi g tt te):=by
 intro pins s σ H Q I h;rw[eval_ListComp];refine wpAny_comprehension_free (use:=none) rfl hs ok.lC.lC ok.kind ok.names (aK (hi pins s σ H _ I h) λv s1 h1=>aK h1 λitv s2 h2=>?_);obtain⟨it,fp,tn,J,H2,e,I2,T,st2,f2,rd⟩:=h2;subst e;refine UZ (RQ:=λD H'=>Q (.ref D) H') (RR:=λacc C=>compPost (model X.prog X.w) X.A X.xe none (EP X pins σ Q) acc C) (λ_ _ _=>T.OB rfl rfl rfl hc) ok hg ht he I2 T st2 f2 rd ?_;intro D C H' s' m J hn hC q;obtain⟨c0,c1,_,c3,c4,c5⟩:=hC;exact⟨m,hn,λh' sb=>⟨.ref D,H',J.turned (t':=s'.toks) (λb o hb e=>(sb.2 b hb).trans e) c0 c1 c3 c4 c5,rfl,q⟩⟩
theorem mF{i:Nat}{y:Str}{py spos:Pos}(hN:X.N.Nodup)(hy:X.N[i]? = some y)(hly:Loc X.env.scope y)(hc:X.calm=true)(ok:cR X N' scope cl src)(hi:PI X tgt iter wi)
  (hg:∀C s₀ H₀ fp pins,PG (fm X N' scope cl C s₀ H₀ fp pins) tgt g) (ht:∀C s₀ H₀ fp pins,rD (fm X N' scope cl C s₀ H₀ fp pins) ifs tt) (he:∀C s₀ H₀ fp pins,PE (fm X N' scope cl C s₀ H₀ fp pins) elt te)
  (hsw:swapsWith (.ListComp elt [⟨tgt,iter,ifs,0⟩] scope pos) (some (.Name y py)) spos.line X.env=pure true:=by rfl)
  (hs:∀x,foldedSetIterable iter X.env x=pure x:=by intro _;rfl) (hf:X.fn y=true\/X.env.scope.names.lookup y=some .local:=by first | exact .inl rfl | exact .inr rfl | assumption) :
  PS X (.Assign [.Name y py] (.ListComp elt [⟨tgt,iter,ifs,0⟩] scope pos) spos) (jS (jQ src wi g tt te) (iB i)):=by
 intro pins s σ H D0 I h;rw[exec_Assign_Name_used _ _ _ _ hsw];refine wf (wpAny_standAt (wf ?_))
 show wx _ X.A (do let _ <- comprehension (.ListComp elt [⟨tgt,iter,ifs,0⟩] scope pos) scope X.env _ (newList []) false (eval iter X.env) (some (assign (.Name y py) X.env))) _ _ s
 refine wf (WB (wpAny_comprehension_free (Q:=λ_ s'=>SP X pins D0 .next s') rfl hs ok.lC.lC ok.kind ok.names (aK (hi pins s σ H _ I h) λv s1 h1=>aK h1 λitv s2 h2=>?_))
  (λ_ s' hq=>wp (wp hq)) λ_ _ e=>e)
 obtain⟨it,fp,tn,J,H2,e,I2,T,st2,f2,rd⟩:=h2;subst e;refine UZ (RQ:=λD H'=>iB i (.ref D) σ H' D0.nx) (RR:=λacc C=>compPost (model X.prog X.w) X.A X.xe (some (assign (.Name y py) X.env)) (λ_ s'=>SP X pins D0 .next s') acc C) (λ_ _ _=>T.OB rfl rfl rfl hc) ok hg ht he I2 T st2 f2 rd ?_;intro D C H' s' m J hn hC q;obtain⟨c0,c1,_,c3,c4,c5⟩:=hC
 show wx _ _ (assign (.Name y py) X.env (.ref D)) _ _ s'
 refine wpAny_assign_Name (U9 J hN hy hly (v:=.ref D) rfl (λs'' J2 ⟨a,sb,ha⟩=>?_) hf)
 have hCa:C≠a:=by
  rcases ha with z | z
  ·rw[z];exact c1
  ·exact(c4 y a z).symm
 exact⟨m,hn.sameBut sb hCa,λh' sb'=>⟨_,H',J2.turned (t':=s''.toks) (λb o hb e=>(sb'.2 b hb).trans e) c0 c1 c3 c4 c5,q⟩⟩
end
variable{T b:we}
abbrev Rv(h B:wG)(e:we)(cls:wg):Prop :=
 ∃oe vs,h.get? e=some oe/\oe.cls=cls/\oe.data=.fields vs/\vs[1]? = some .none/\vs[2]? = some .none/\oe.dict=none/\B.get? e=none
abbrev Rt(h B:wG)(e:we)(cls fl:wg):Prop :=
 ∃oe vs T oT ts,h.get? e=some oe/\oe.cls=cls/\oe.data=.fields vs/\vs[1]? = some (.ref T)/\vs[2]? = some .none/\oe.dict=none/\B.get? e=none/\B.get? T=none/\T≠e/\h.get? T=some oT/\oT.data=.fields ts/\ts[3]? = some fl
structure fv(B:wG)(l:List Env)(e:we)(cls fl:wg)(h:wG):Prop where
 st:B.StaysIn h
 fr:h.FunFrames B l
 tr:Rt h B e cls fl
theorem zrE{f:Array wg->Array wg}(o:Obj):(Qu f o).dict=o.dict:=by
 obtain⟨c,d,dt,sl⟩:=o;cases dt<;>rfl
theorem ma{h:wG}{f:Obj->Obj}(n:b≠T):(h.update T f).get? b=h.get? b:=Qs _ _ (WE n)
theorem nM{h:wG}{oT o:Obj}{ts:Array wg}(hT:h.get? T=some oT)(dT:oT.data=.fields ts)(hb:h.get? b=some o)(hn:∀vs,o.data≠.fields vs):b≠T:=by
 rintro rfl;rw[hT]at hb;cases hb;exact hn _ dT
theorem FN{B:wG}{o:Obj}(n:B.get? T=none)(q:B.get? b=some o):b≠T:=by
 rintro rfl;rw[n]at q;cases q
section
variable{M:Model}{A:vb}{E:wg->wl->Prop}{s:wl}{B:wG}{l outer:List Env}{env:Env}{L e:we}{cls fl:wg}{Q:Unit->wl->Prop}
theorem fv.land(F:fv B l e cls fl s.heap)(k:∀h',fv B l e cls .none h'->s.heap.UpToSlots h'->Q () {s with heap:=h'}):wx M A (setFlight (.ref e) none) Q E s:=by
 obtain⟨st,fr,oe,vs,T,oT,ts,he,hc,hd,h1,h2,hdi,be,bT,ne,hT,dT,h3⟩:=F;have sz:3<ts.size:=(W2.mp h3).1;unfold setFlight;refine wf (vD he hd h1 ?_);rw[if_pos (by simp)];have at3:∀b,b≠T->(s.heap.update T (Qu (·.setIfInBounds 3 Value.none))).get? b=s.heap.get? b:=λb n=>ma n
 have tr:Rt (s.heap.update T (Qu (·.setIfInBounds 3 Value.none))) B e cls .none :=
  ⟨oe,vs,T,Qu (·.setIfInBounds 3 Value.none) oT,ts.setIfInBounds 3 Value.none,(at3 e ne.symm).trans he,hc,hd,h1,h2,hdi,be,bT,ne,
   VB _ hT (qD (qp dT _)),qp dT _,by simp[sz]⟩
 refine wpAny_setField hT dT sz (k _ ⟨λb o q=>(at3 b (FN bT q)).trans (st b o q),fr.of_keeps λb o hb hn=>⟨o,(at3 b (nM hT dT hb hn)).trans hb,rfl⟩,tr⟩ λb o hb hn=>⟨o.slots,(at3 b (nM hT dT hb hn)).trans hb⟩)
theorem UM{oe:Obj}{vs:Array wg}{head:wg}{had:Bool}(hfr:A.frames=some (env::outer))(hf:env.frame=some L)(st:B.StaysIn s.heap)(fr:s.heap.FunFrames B (env::outer))(he:s.heap.get? e=some oe)
  (hd:oe.data=.fields vs) (sz:1<vs.size) (h2:vs[2]? = some .none) (hdi:oe.dict=none) (be:B.get? e=none) (k:∀h',fv B (env::outer) e oe.cls (VS L) h'->s.heap.UpToSlots h'->Q () {s with heap:=h'}) :
  wx M A (do let a <- frameOf env;let pl <- entryPlaceOf L had;let b <- Xv head a .none (VS L) .none pl;setField (.ref e) 1 b) Q E s:=by
 have nfr:e ∉ (env::outer).filterMap (·.frame):=λz=>by
  obtain⟨_,o,ho,hnf⟩:=fr.mem z;rw[he]at ho;cases ho;exact hnf vs hd
 refine wf (wpAny_frameOf_fun hfr fr hf λg sg=>wf (wpAny_entryPlaceOf λpl hpl=>?_));unfold Xv newFields;refine wf (WH ?_ (hpl.sizeOk5 _ _ _ _ _));have eg:g.get? e=some oe:=(sg.2.1 e nfr).trans he
 have stg:B.StaysIn g:=λb o q=>by
  rw[sg.2.1 b λz=>?_]
  ·exact st b o q
  ·rw[(fr.mem z).1]at q;cases q
 generalize hob:({cls:=.type "traceback",data:=.fields ([head,.ref L,.none,VS L,.none]++(if pl.isEmpty then vc 6 Value.none else pl)).toArray} : Obj)=tb;have dtb:tb.data=.fields ([head,.ref L,.none,VS L,.none]++(if pl.isEmpty then vc 6 Value.none else pl)).toArray:=by rw[<- hob]
 have ftb:tb.isFreed=false:=qD dtb;have e2:=wn (h:=g) tb eg;have neT:g.objs.size≠e:=vn (wD eg)
 have at3:∀b o,b≠e->g.get? b=some o->((g.push tb).update e (Qu (·.setIfInBounds 1 (.ref g.objs.size)))).get? b=some o:=λb o n q=>by
  rw[ma n];exact wn _ q
 refine wpAny_setField e2 hd sz (k _ ?_ ?_)
 ·have d3:=qp hd (·.setIfInBounds 1 (Value.ref g.objs.size))
  refine⟨λb o q=>at3 b o (FN be q) (stg b o q),fr.of_keeps λb o hb hn=>?_,_,_,g.objs.size,tb,_,VB _ e2 (qD d3),X6 _ _,d3,by simp[sz],?_,?_,be,stg.fresh,neT,?_,dtb,?_⟩
  ·obtain⟨sl,q⟩:=sg.2.2 b o hb
   exact⟨_,at3 b _ (nM he hd hb hn) q,rfl⟩
  ·rw[Array.getElem?_setIfInBounds_ne (by decide)];exact h2
  ·exact(zrE oe).trans hdi
  ·rw[ma neT];exact wN _ ftb
  ·first | (simp;done) | (rcases hpl with rfl | ⟨_,_,_,_,_,_,_,rfl⟩<;>simp)
 ·exact λb o hb hn=>by
   obtain⟨sl,q⟩:=sg.2.2 b o hb;exact⟨sl,at3 b _ (nM he hd hb hn) q⟩
theorem zw8(hfr:A.frames=some (env::outer))(hf:env.frame=some L)(st:B.StaysIn s.heap)(fr:s.heap.FunFrames B (env::outer))(t:Rv s.heap B e cls)
  (k:∀h',fv B (env::outer) e cls (VS L) h'->s.heap.UpToSlots h'->Q () {s with heap:=h'}):wx M A (noteFrame (.ref e) env) Q E s:=by
 obtain⟨oe,vs,he,hc,hd,h1,h2,hdi,be⟩:=t;subst hc;unfold noteFrame;simp only[hf];refine wf (vD he hd h1 ?_);rw[if_neg (by decide)];exact UM hfr hf st fr he hd (W2.mp h1).1 h2 hdi be k
theorem fv.note(F:fv B (env::outer) e cls .none s.heap)(hfr:A.frames=some (env::outer))(hf:env.frame=some L)
  (k:∀h',fv B (env::outer) e cls (VS L) h'->s.heap.UpToSlots h'->Q () {s with heap:=h'}):wx M A (noteFrame (.ref e) env) Q E s:=by
 obtain⟨st,fr,oe,vs,T,oT,ts,he,hc,hd,h1,h2,hdi,be,bT,ne,hT,dT,h3⟩:=F;subst hc;unfold noteFrame;simp only[hf];refine wf (vD he hd h1 ?_);rw[if_pos (by simp)];refine wf (vD hT dT h3 ?_);rw[if_neg (by simp[VS])];refine wf (wpAny_setField hT dT (W2.mp h3).1 ?_);refine UM hfr hf (λb o q=>?_) (fr.of_keeps λb o hb hn=>⟨o,?_,rfl⟩) ?_ hd (W2.mp h1).1 h2 hdi be λh' F' sm=>k h' F' λb o hb hn=>sm b o ?_ hn
 ·show(xR _ _ _).get? b=_
  rw[ma (FN bT q)];exact st b o q
 ·show(xR _ _ _).get? b=_
  rw[ma (nM hT dT hb hn)];exact hb
 ·show(xR _ _ _).get? e=_
  rw[ma ne.symm];exact he
 ·show(xR _ _ _).get? b=_
  rw[ma (nM hT dT hb hn)];exact hb
theorem zug(hfr:A.frames=some (env::outer))(hf:env.frame=some L)(st:B.StaysIn s.heap)(fr:s.heap.FunFrames B (env::outer))(t:Rv s.heap B e cls)
  (k:∀h',fv B outer e cls .none h'->s.heap.UpToSlots h'->Q () {s with heap:=h'}):wx M A (leaving env (.ref e)) Q E s:=by
 unfold leaving;refine wf (zw8 hfr hf st fr t λh1 F1 s1=>fv.land F1 λh2 F2 s2=>k h2 ⟨F2.st,F2.fr.2.2,F2.tr⟩ (s1.trans s2))
theorem fv.leave(F:fv B (env::outer) e cls .none s.heap)(hfr:A.frames=some (env::outer))(hf:env.frame=some L)
  (k:∀h',fv B outer e cls .none h'->s.heap.UpToSlots h'->Q () {s with heap:=h'}):wx M A (leaving env (.ref e)) Q E s:=by
 unfold leaving;refine wf (F.note hfr hf λh1 F1 s1=>fv.land F1 λh2 F2 s2=>k h2 ⟨F2.st,F2.fr.2.2,F2.tr⟩ (s1.trans s2))
end
theorem dN.there{P:wI}{w:wJ}{H:Hp}{h:wG}{a:we}{o:HO}(x:dN P w H h a o):∃u,h.get? a=some u:=by
 cases o with
 | lst xs=>obtain⟨_,_,_,_,e⟩:=x;exact⟨_,e⟩
 | tup xs=>obtain⟨_,_,_,_,e,_⟩:=x;exact⟨_,e⟩
 | dK kvs=>obtain⟨_,_,_,_,o,_,_,e,_⟩:=x;exact⟨_,e⟩
 | dT kvs=>obtain⟨_,_,_,_,o,_,_,e,_⟩:=x;exact⟨_,e⟩
 | set S n=>obtain⟨o,_,_,_,e,_⟩:=x;exact⟨_,e⟩
 | ins C dx fs=>obtain⟨_,_,_,e,_⟩:=x;exact⟨_,e⟩
 | own y=>exact x
 | xd fs=>obtain⟨_,⟨_,_,_,e,_⟩,_⟩:=x;exact⟨_,e⟩
 | tG lo hi=>obtain⟨_,_,_,e⟩:=x;exact⟨_,e⟩
 | gF ob u=>obtain⟨e,_⟩:=x;exact⟨_,e⟩
 | kT ps=>exact⟨_,x⟩
 | met f y=>exact⟨_,x⟩
 | ext φ=>obtain⟨_,e,_⟩:=x;exact e
structure oF(B:wG)(fs:List we)(H H':Hp)(h:wG):Prop where
 ja:∀a o,H' a=some o->∃u,B.get? a=some u
 old:∀b o,h.get? b=some o->H b=none->b ∉ fs->B.get? b=some o
 rp:∀b o,h.get? b=some o->b ∉ fs->∃u,B.get? b=some u
def eW(P:wI)(w:wJ):gf:=λouter H s E e s'=>∃(ex:we)(C:wg)(H':Hp)(B:wG),e=.ref ex/\s'.os=s.os/\AllBare s'.gens/\Un (dX outer) [] H H' s.heap s'.heap/\dB P w H' s'.heap /\
 fv B outer ex C .none s'.heap/\oF B (dX outer) H H' s.heap/\E C none H'
section
variable{B h h1 h':wG}{fs:List we}{H H':Hp}{P:wI}{w:wJ}
theorem oF.un(ov:oF B fs H H' h)(un:Un fs [] H H' h h1)(hfs:∀b∈fs,H b=none /\ ∃o,h.get? b=some o /\ ∀vs,o.data≠.fields vs)(st:B.StaysIn h')(sm:h1.UpToSlots h'):Un fs [] H H' h h':=by
 have slot:∀b o,h.get? b=some o->b∈fs->∃sl,h'.get? b=some {o with slots:=sl}:=λb o e hb=>by
  obtain⟨n,o',ho',nr⟩:=hfs b hb;rw[e]at ho';cases ho';obtain⟨sl,e1⟩:=un.any e n (by simp);obtain⟨sl2,e2⟩:=sm b _ e1 nr;exact⟨sl2,e2⟩
 refine⟨λb o e n nf _=>st b o (ov.old b o e n nf),λb o e _ hb _=>slot b o e hb,un.free,λb o e _=>?_,un.iJ,un.g_,un.iH⟩
 by_cases hb:b∈fs
 ·obtain⟨sl,e1⟩:=slot b o e hb
  exact⟨_,e1⟩
 ·obtain⟨u,e1⟩:=ov.rp b o e hb
  exact⟨u,st b u e1⟩
theorem oF.aI(ov:oF B fs H H' h)(aI:dB P w H' h1)(st1:B.StaysIn h1)(st:B.StaysIn h'):dB P w H' h':=λa o e=>by
 refine(aI a o e).kE (λb u hb r=>?_) (λ_ z=>z) λ_ _ z=>z
 have:∃v,B.get? b=some v:=by
  rcases hb with rfl | hb
  ·exact ov.ja _ _ e
  ·exact ov.ja _ _ hb
 obtain⟨v,ev⟩:=this;have e2:=st1 b v ev;rw[r]at e2;cases e2;exact st b u ev
end
section
variable{X:Cx}{pins:List (we × Obj)}{σ : St}{H H':Hp}{s s':wl}{B:wG}{ex:we}{C:wg}{E:XK}{E':wg->wl->Prop}
theorem NA(I:Inv X pins σ H s)(hx:X.ex=[])(os:s'.os=s.os)(bare:AllBare s'.gens)(un:Un (dX X.stack) [] H H' s.heap s'.heap)(aI:dB X.prog X.w H' s'.heap)(stB:B.StaysIn s'.heap)(ov:oF B (dX X.stack) H H' s.heap)
  (q:E C none H') (fly:∀(Q:Unit->wl->Prop),(∀h',fv B X.outer ex C .none h'->s'.heap.UpToSlots h'->Q () {s' with heap:=h'})->wx (model X.prog X.w) X.A (leaving X.env (.ref ex)) Q E' s') :
  wx (model X.prog X.w) X.A (leaving X.env (.ref ex)) (λ_ s''=>eW X.prog X.w X.outer X.H₀ X.s₀ E (.ref ex) s'') E' s':=by
 have base:Un X.fs [] X.H₀ H X.s₀.heap s.heap:=by have:=I.base;rwa[hx]at this
 have nL:∀b o,X.s₀.heap.get? b=some o->b ∉ X.fs->b ∉ dX X.stack:=λb o e n z=>by
  rcases wF.mp (I.mO b z)with r | r
  ·exact wQ (wV (wD e) I.ok.above) r
  ·exact n r
 have old:∀b o,X.s₀.heap.get? b=some o->X.H₀ b=none->b ∉ X.fs->B.get? b=some o:=λb o e n nf =>
  ov.old b o (base.keep b o e n nf (by simp)) (base.free b o e n (by simp)) (nL b o e nf)
 have rp:∀b o,X.s₀.heap.get? b=some o->b ∉ X.fs->∃u,B.get? b=some u:=λb o e nf=>by
  obtain⟨o',e1⟩:=base.there b o e (by simp);exact ov.rp b o' e1 (nL b o e nf)
 refine fly _ λh' F sm=>⟨ex,C,H',B,rfl,os.trans I.os,bare,⟨λb o e n nf _=>F.st b o (old b o e n nf),λb o e n hb _=>?_,λb o e n _=>?_,λb o e _=>?_,λb xs e=>un.iJ b xs (base.iJ b xs e),
  λb o u e=>un.g_ b o u (base.g_ b o u e),λb ps e=>?_⟩,λa o e=>?_,F,⟨ov.ja,old,rp⟩,q⟩
 ·obtain⟨sl,e1⟩:=base.slot b o e n hb (by simp)
  obtain⟨sl',e2⟩:=un.any e1 (base.free b o e n (by simp)) (by simp);obtain⟨_,o',ho',nr⟩:=I.ok.fh.mem hb;rw[e]at ho';cases ho';obtain⟨sl2,e3⟩:=sm b _ e2 nr;exact⟨sl2,e3⟩
 ·obtain⟨o',e1⟩:=base.there b o e (by simp)
  exact un.free b o' e1 (base.free b o e n (by simp)) (by simp)
 ·by_cases hb:b∈X.fs
  ·obtain⟨_,o',ho',nr⟩:=I.ok.fh.mem hb
   rw[e]at ho';cases ho';have n:X.H₀ b=none:=I.ok.jr b hb;obtain⟨sl,e1⟩:=base.slot b o e n hb (by simp);obtain⟨sl',e2⟩:=un.any e1 (base.free b o e n (by simp)) (by simp);obtain⟨sl2,e3⟩:=sm b _ e2 nr;exact⟨_,e3⟩
  ·obtain⟨u,e1⟩:=rp b o e hb
   exact⟨u,F.st b u e1⟩
 ·obtain⟨m1,e1⟩:=base.iH b ps e
  obtain⟨m2,e2⟩:=un.iH b _ e1;exact⟨m1++m2,by rw[e2,XC]⟩
 ·refine(aI a o e).kE (λb u hb r=>?_) (λ_ z=>z) λ_ _ z=>z
  have:∃v,B.get? b=some v:=by
   rcases hb with rfl | hb
   ·exact ov.ja _ _ e
   ·exact ov.ja _ _ hb
  obtain⟨v,ev⟩:=this;have e2:=stB b v ev;rw[r]at e2;cases e2;exact F.st b u ev
theorem zw5{e:wg}(I:Inv X pins σ H s)(hx:X.ex=[])(hs:X.stack=X.env::X.outer)(hf:X.env.frame=some X.env.locals)(h:eW X.prog X.w X.stack H s E e s') :
  wx (model X.prog X.w) X.A (leaving X.env e) (λ_ s''=>eW X.prog X.w X.outer X.H₀ X.s₀ E e s'') E' s':=by
 obtain⟨ex,C,H',B,rfl,os,bare,un,aI,F,ov,q⟩:=h;rw[hs]at F;exact NA I hx os bare un aI F.st ov q λQ k=>F.leave (I.ok.frames.trans (congrArg some hs)) hf k
theorem zub{h':wG}{vs:List wg}(I:Inv X pins σ H s)(hx:X.ex=[])(hs:X.stack=X.env::X.outer)(hf:X.env.frame=some X.env.locals)(m:u5 s.heap h' ex C vs)(q:E C none H) :
  wx (model X.prog X.w) X.A (leaving X.env (.ref ex)) (λ_ s''=>eW X.prog X.w X.outer X.H₀ X.s₀ E (.ref ex) s'') E' {s with heap:=h'}:=by
 obtain⟨B,hB⟩:∃B,B=uD s.heap (dX X.stack):=⟨_,rfl⟩;have hin:∀env∈X.stack,∀b,env.frame=some b->b∈dX X.stack:=λenv he b hb=>qV.mpr ⟨env,he,hb⟩
 have frB:s.heap.FunFrames B X.stack:=by rw[hB];exact PySem.W.funFrames_hide I.stack hin
 have getB:∀{b o},s.heap.get? b=some o->b ∉ dX X.stack->B.get? b=some o:=λe n=>by rw[hB];exact Xr _ e n
 have ofB:∀{b o},B.get? b=some o->s.heap.get? b=some o:=λr=>by rw[hB]at r;exact XB _ r
 have nfr:∀a o,H a=some o->a ∉ dX X.stack:=λa o e z=>by
  have:=I.sr a z;rw[e]at this;cases this
 obtain⟨t,he,_,_⟩:=m.there
 refine NA (B:=B) (s':={s with heap:=h'}) I hx rfl I.bare (Un.kept m.keeps) (I.aI.kept m.keeps) (λb o r=>m.keeps b o (ofB r))
  ⟨λa o e=>?_,λb o e _ nf=>getB e nf,λb o e nf=>⟨o,getB e nf⟩⟩ q λQ k=>?_
 ·obtain⟨u,e1⟩:=(I.aI a o e).there
  exact⟨u,getB e1 (nfr a o e)⟩
 ·rw[hs]at frB
  refine zug (s:={s with heap:=h'}) (I.ok.frames.trans (congrArg some hs)) hf (λb o r=>m.keeps b o (ofB r)) (frB.of_keeps λb o hb _=>⟨o,m.keeps b o hb,rfl⟩) ⟨_,_,he,rfl,rfl,rfl,rfl,rfl,?_⟩ k;cases z:B.get? ex with
  | none=>rfl
  | some o =>
   have:=ofB z;rw[m.new]at this;cases this
end
variable{K:wb}{base:wG}{qual:Str}
theorem zq{P:wI}{w:wJ}{mg:Str->Option wg}{N:List Str}{scope:Scope}{f:we}{cd:wg}{A:vb}{outer:List Env}{s:wl}{H:Hp}{E:XK} :
  ng (eW P w) (iU (eW P w) P w K mg base N qual scope f cd A outer s H E) E:=λpins σ H1 s1 e s' I h=>zw5 I rfl rfl rfl h
def KZ(X:Cx)(C:wg)(E:XK):Prop:=∀(pins:List (we × Obj))(σ : St)(H:Hp)(s:wl)(h':wG)(ex:we)(vs:List wg),Inv X pins σ H s->u5 s.heap h' ex C vs->E C none H->X.xe (.ref ex) {s with heap:=h'}
theorem NS{P:wI}{w:wJ}{mg:Str->Option wg}{N:List Str}{scope:Scope}{f:we}{cd C:wg}{A:vb}{outer:List Env}{s:wl}{H:Hp}{E:XK} :
  KZ (iU (eW P w) P w K mg base N qual scope f cd A outer s H E) C E:=λpins σ H1 s1 h' ex vs I m q=>zub I rfl rfl rfl m q
def rV:List wg:=[.type "ValueError",.type "Exception",.type "BaseException",.type "object"]
theorem zBJ{h:wG}{C:we}{bmB:List wg}{newId:String}(X:K.In h)(q:qk K C bmB newId=true) :
  ∃bm N nm qn bs hd sn sub ab col dd k0 k1 k2 k3 k5 mN,h.get? C=some (excClassObj nm qn C N bs bm hd sn sub ab col dd k0 k1 k2 k3 k5 newId)/\h.Ns N mN/\mN "__init__"=none/\OwnTail h bmB bm:=by
 unfold qk at q
 split at q
 case h_2=>cases q
 rename_i dd cd sl ho
 split at q
 case h_2=>cases q
 rename_i C' bm k0 k1 k2 k3 n k5 hm hs;simp only[wZ,beq_iff_eq,WV]at q;obtain⟨⟨⟨⟨⟨rfl,rfl⟩,hdel⟩,ht⟩,aI⟩,hni⟩:=q;obtain⟨nm,bs,mro,ns,qn,hd,sn,sub,ab,col,del⟩:=cd;dsimp only at hm hdel aI hni;subst hm hdel
 have e:sl = #[k0,k1,k2,k3,some (.builtin n),k5]:=by
  cases sl;simp only at hs;rw[hs]
 subst e;exact⟨bm,ns,nm,qn,bs,hd,sn,sub,ab,col,dd,k0,k1,k2,k3,k5,_,X _ _ ho,.of_isNs (PySem.W.isNs_of_in X aI),PySem.W.nsMap_none_of_in X aI hni,PySem.W.tail_of_in X ht⟩
section
variable{X:Cx}{x:Str}{C:we}{E:XK}{e:Expr}{es:List Expr}{t:TA}{np cpos pos:Pos}
def Ku(C:wg)(E:XK)(t:TA):TS:=λ_ σ H=>t σ H λvs H1=>vs.length<=w8/\E C none H1
theorem Lc(q:qk X.K C rV "ValueError.__new__"=true)(hc:X.calm=true)(hg:Gl X x)(hm:X.mg x=some (.ref C))(Z:KZ X (.ref C) E)(ha:PA X (e::es) t)(hdb:(x == ("__debug__" : Str))=false:=by decide)
  (he:w5 (e::es) X.env=(false,eval e X.env)::w5 es X.env:=by rfl) (hpl:(backTo cpos (w5 es X.env)).any (·.1)=false:=by rfl) :
  PS X (.Raise (some (.Call (.Name x np) (e::es) [] cpos)) none pos) (Ku (.ref C) E t):=by
 intro pins s σ H D I h;obtain⟨bm,N,nm,qn,bs,hd,sn,sub,ab,col,dd,k0,k1,k2,k3,k5,mN,hC,hN,hni,T⟩:=zBJ I.ok.mod.pL q
 refine wpAny_Raise_call_subU (C:=C) (nm:=nm) (q:=qn) (N:=N) (bs:=bs) (bm:=bm) (hdct:=hd) (sn:=sn) (sub:=sub) (ab:=ab) (col:=col) (dd:=dd) (k0:=k0) (k1:=k1) (k2:=k2) (k3:=k3) (k5:=k5)
  Xj (by decide) Xj (mN:=mN) (T.hasType (by decide)) (I.ok.hd hc) (by rw[he];show(false || (backTo cpos (w5 es X.env)).any (·.1))=false;rw[hpl];rfl) hni (rP I hg hm ⟨rfl,?_⟩ hdb)
 have ha':=ha cpos pins s σ H _ I h;rw[he]at ha' ⊢;refine Xf (WB ha' (λus s2 ⟨vs,H2,I2,r,z,q2⟩=>⟨rfl,by rw[<- r.length];exact z,I2.bk _ _ hC,hN.keeps I2.bk,T.keeps I2.bk,λh' ex m=>Z pins σ H2 s2 h' ex us I2 m q2⟩) λ_ _ y=>y)
end
abbrev Cx.at(X:Cx)(pn:List (we × Obj))(E:wg->wl->Prop):Cx:={X with pn:=pn,xe:=E}
abbrev Cx.sF(X:Cx)(pn:List (we × Obj))(ex:we)(oe:Obj):Cx:={X with pn:=pn++[(ex,oe)],xe:=λ_ _=>False,A:=X.A.mark (some (.ref ex)),calm:=false}
section
variable{X:Cx}{pins pins':List (we × Obj)}{σ : St}{H:Hp}{s:wl}{ex:we}{oe:Obj}
theorem Inv.Zg(I:Inv X pins σ H s)(E:wg->wl->Prop):Inv (X.at (X.pn++pins) E) [] σ H s :=
 ⟨⟨I.ok.mod,I.ok.kind,I.ok.glob,I.ok.blt,I.ok.above,I.ok.inj,I.ok.has,I.ok.lq,I.ok.hd,I.ok.frames,I.ok.ml,I.ok.rO,I.ok.bs,I.ok.iX,I.ok.kD,I.ok.lB,I.ok.fh,I.ok.jr⟩,I.os,I.bare,I.base,I.loc,I.cell,I.free,I.gn,
  λp hp=>I.pin p (by rw[Wh]at hp;exact hp),I.aI,I.len⟩
theorem Inv.oR{E:wg->wl->Prop}(I:Inv (X.at (X.pn++pins) E) pins' σ H s):Inv X pins σ H s :=
 ⟨⟨I.ok.mod,I.ok.kind,I.ok.glob,I.ok.blt,I.ok.above,I.ok.inj,I.ok.has,I.ok.lq,I.ok.hd,I.ok.frames,I.ok.ml,I.ok.rO,I.ok.bs,I.ok.iX,I.ok.kD,I.ok.lB,I.ok.fh,I.ok.jr⟩,I.os,I.bare,I.base,I.loc,I.cell,I.free,I.gn,
  λp hp=>I.pin p (VU _ hp),I.aI,I.len⟩
theorem Inv.Za(I:Inv X pins σ H s)(he:s.heap.get? ex=some oe)(hn:H ex=none)(nl:ex≠X.env.locals)(nf:ex ∉ X.fs)(nc:∀v,oe.data≠.cell v):Inv (X.sF (X.pn++pins) ex oe) [] σ H s :=
 ⟨⟨I.ok.mod,I.ok.kind,I.ok.glob,I.ok.blt,I.ok.above,I.ok.inj,I.ok.has,I.ok.lq,λz=>Bool.noConfusion z,I.ok.frames,I.ok.ml,I.ok.rO,I.ok.bs,I.ok.iX,I.ok.kD,I.ok.lB,I.ok.fh,I.ok.jr⟩,I.os,I.bare,I.base,I.loc,I.cell,I.free,I.gn,
  λp hp=>by
   rw[Wh]at hp;rcases vX.mp hp with z | z
   ·exact I.pin p z
   ·cases w6.mp z
    exact⟨he,hn,nl,nf,nc⟩,I.aI,I.len⟩
theorem Inv.sD(ok:X.Ok)(I:Inv (X.sF (X.pn++pins) ex oe) pins' σ H s):Inv X pins σ H s :=
 ⟨ok,I.os,I.bare,I.base,I.loc,I.cell,I.free,I.gn,λp hp=>I.pin p (VU _ (VU _ hp)),I.aI,I.len⟩
end
def Rj(CX:gf)(X:Cx)(W:St->XK):Prop:=∀(pins:List (we × Obj))(σ : St)(H:Hp)(s:wl)(e:wg)(s':wl),Inv X pins σ H s->CX X.stack H s (W σ) e s'->X.xe e s'
def yq(sp:Sp)(W:St->XK)(t:TA):TE:=λσ H Q=>t σ H λvs H1=>sp vs H1 Q (W σ)
section
variable{X:Cx}{CX:gf}{k:Nat}{f:we}{fd:wE}{ps:List Str}{sp:Sp}{W:St->XK}{x:Str}{p pos:Pos}{e:Expr}{es:List Expr}{t:TA}
theorem Nc(F:aG X.prog X.w X.K X.mg X.base CX k f fd ps sp)(hr:eA k X.A)(hg:Gl X x)(hm:X.mg x=some (.ref f))(hk:Qh X.K (.ref f)=true)(hb:lT X.K fd ps [])(hx:Rj CX X W)
  (ha:PA X (e::es) t) (hdb:(x == ("__debug__" : Str))=false:=by decide) (he:w5 (e::es) X.env=(false,eval e X.env)::w5 es X.env:=by rfl) (hpl:(backTo pos (w5 es X.env)).any (·.1)=false:=by rfl) :
  PE X (.Call (.Name x p) (e::es) [] pos) (yq sp W t):=by
 intro pins s σ H Q I h;refine Qg (rP I hg hm ?_ hdb);refine XD (h₀:=X.base) I.ok.mod.pL hk (aK (ha pos pins s σ H _ I h) λus s1 ⟨vs,H1,I1,r,q⟩=>⟨I1.dS,?_⟩) he hpl;have hl:us.length=ps.length:=by rw[<- r.length];exact F.len _ _ _ _ q
 have hbd:BindsTo s1 fd ⟨us,[]⟩ (ps.zip us):=by simpa using hb s1 us I1.dS (by simpa using hl)
 refine wpAny_call (codeAny_mono (F.run X.A X.stack s1 H1 ⟨us,[]⟩ us vs Q (W σ) hr I1.Kk hbd r q) λr s' hq=>?_);cases r with
 | error e=>exact hx pins σ H1 s1 e s' I1 hq
 | ok fl =>
  cases fl with
  | ret u=>exact I1.after hq
  | next=>exact W1 hq
  | brk=>exact W1 hq
  | cont=>exact W1 hq
end
structure Sb(C:wg)(oe:Obj):Prop where
 cls:oe.cls=C
 fld:∃vs,oe.data=.fields vs/\vs[2]? = some .none
 dict:oe.dict=none
section
variable{X:Cx}{x n:Str}{G:wg}{i:Nat}{b₀ : w9}{body suite:List w9}{np hpos pos:Pos}{tb:(St->XK)->TS}{th:we->wg->TS}
end
structure Hd(X:Cx)(ex:we)(C:wg)(oe:Obj):Prop where
 hd:X.A.handled=some (.ref ex)
 pn:(ex,oe)∈X.pn
 ob:Sb C oe
section
variable{P:wI}{w:wJ}{K:wb}{mg:Str->Option wg}{base:wG}
end
section
variable{X:Cx}{k:Nat}{f:we}{fd:wE}{ps:List Str}{sp:we->wg->Sp}{x:Str}{p pos:Pos}{e:Expr}{es:List Expr}{t:TA}{ex:we}{C:wg}{oe:Obj}
end
variable{scope:Scope}
def ie(cells:List (Str × we)):List (Str × W6)->List (Str × we)->List (Str × we)
 | [],acc=>acc
 | (n,k)::r,acc=>ie cells r (if(k == NameKind.free)=true then(n,(cells.lookup n).getD 0)::acc else acc)
theorem zk5{env:Env}(h:∀y∈scope.names,y.2=.free->∃c,env.cells.lookup y.1=some c):closureFor scope env=pure (ie env.cells scope.names []):=by
 unfold closureFor;generalize scope.names=names at h
 suffices g:∀(names:List (Str × W6))(acc:List (Str × we)),(∀y∈names,y.2=.free->∃c,env.cells.lookup y.1=some c) ->
     (forIn names acc λ(x:Str × W6)(r:List (Str × we))=>if(x.2 == NameKind.free)=true then do let c <- cellOf env x.1;pure (ForInStep.yield ((x.1,c)::r))else pure (ForInStep.yield r):Sem (List (Str × we)))=pure (ie env.cells names acc) by
   have:=g names [] h
   show(_ >>= pure)=_
   rw[bind_pure];exact this
 intro names
 induction names with
 | nil=>intro acc _;rfl
 | cons y r ih =>
   intro acc hy;obtain⟨n,k⟩:=y;rw[qR]
   by_cases e:(k == NameKind.free)=true
   . obtain⟨c,hc⟩:=hy (n,k) wz (beq_iff_eq.mp e)
     have hcell:cellOf env n=pure c:=by
       unfold cellOf;rw[hc]
     simp only[e,if_true,hcell,pure_bind];rw[ih _ λz hz=>hy z (wy _ hz)]
     show _=pure (ie env.cells r _)
     simp only[e,if_true,hc,Qw]
   . simp only[e,pure_bind]
     rw[if_neg (by simp),pure_bind];dsimp only;rw[ih _ λz hz=>hy z (wy _ hz)]
     show _=pure (ie env.cells r _)
     rw[if_neg e]
theorem L7{cells:List (Str × we)} : ∀(names:List (Str × W6))(acc:List (Str × we))(x:Str)(c:we),(∀y∈names,y.2=.free->∃c,cells.lookup y.1=some c)->(∀x c,acc.lookup x=some c->cells.lookup x=some c) ->
  (ie cells names acc).lookup x=some c->cells.lookup x=some c
 | [],acc,x,c,_,ha,h=>ha x c h
 | (n,k)::r,acc,x,c,hy,ha,h=>by
  unfold ie at h;refine L7 r _ x c (λz hz=>hy z (wy _ hz)) (λx' c' h'=>?_) h
  split at h'
  ·rename_i e
   obtain⟨c0,hc0⟩:=hy (n,k) wz (beq_iff_eq.mp e);rw[qI]at h'
   split at h'
   ·rename_i e2
    rw[beq_iff_eq.mp e2,hc0];rw[hc0]at h';exact h'
   ·exact ha x' c' h'
  ·exact ha x' c' h'
theorem Mn{cells:List (Str × we)} : ∀(names:List (Str × W6))(acc:List (Str × we))(x:Str),(∃c,acc.lookup x=some c)->∃c,(ie cells names acc).lookup x=some c
 | [],acc,x,h=>h
 | (n,k)::r,acc,x,h=>by
  unfold ie;refine Mn r _ x ?_
  split
  ·rw[qI]
   split
   ·exact⟨_,rfl⟩
   ·exact h
  ·exact h
theorem MJ{cells:List (Str × we)} : ∀(names:List (Str × W6))(acc:List (Str × we))(x:Str),(x,NameKind.free)∈names->∃c,(ie cells names acc).lookup x=some c
 | [],acc,x,h=>nomatch h
 | (n,k)::r,acc,x,h=>by
  unfold ie;rcases wF.mp h with e | e
  ·cases e
   rw[if_pos (by decide)];refine Mn r _ _ ?_;rw[qI];simp
  ·exact MJ r _ x e
theorem Ye(g:Str->W6->W6):∀(names:List (Str × W6))(x:Str),(names.map λy=>(y.1,g y.1 y.2)).lookup x=(names.lookup x).map (g x)
 | [],x=>rfl
 | (n,k)::r,x=>by
  rw[vd,qI,qI];dsimp only
  by_cases e:(x == n)=true
  ·have e':=beq_iff_eq.mp e
   subst e';simp
  ·rw[uw]at e
   simp only[e];exact Ye g r x
def t_(env:Env)(x:Str)(k:W6):W6:=if(k == .free&&env.scope.kind == .function&&env.kindOf x == some .cell)=true then .cell else k
theorem LF{env:Env}(x:Str):(relabel scope env).names.lookup x=(scope.names.lookup x).map (t_ env x):=by
 rw[<- Ye]
 show(scope.names.map _).lookup x=_
 congr 2
 funext ⟨n,k⟩
 dsimp only[t_]
 split<;>rfl
def Pu(inner outer:List (Str × W6))(N N':List Str)(src:List (Option Nat)):Bool :=
 (inner.all λy=>(y.2 != .cell)&&(y.2 != .local || inner.lookup y.1 == some .local)&&(y.2 != .free || outer.lookup y.1 == some .cell)) &&
 (N'.length == src.length)&&((N'.zip src).all λp=>match p.2 with
  | none=>true
  | some j=>N[j]? == some p.1&&outer.lookup p.1 == some .cell&&inner.lookup p.1 == some .free)
theorem cR.by{X:Cx}{N':List Str}{src:List (Option Nat)}(hk:scope.kind=.function)(hc:Pu scope.names X.env.scope.names X.N N' src=true)(hf:∀x,X.env.scope.names.lookup x=some .cell->∃c,X.env.cells.lookup x=some c:=by exact λx h=>BP h) :
  cR X N' scope (ie X.env.cells scope.names []) src:=by
 unfold Pu at hc;simp only[wZ,WO,beq_iff_eq,uM,bne_iff_ne,ne_eq]at hc;obtain⟨⟨h1,h2⟩,h3⟩:=hc;have fr:∀y∈scope.names,y.2=.free->∃c,X.env.cells.lookup y.1=some c:=λy hy e=>hf _ (((h1 y hy).2).elim (λz=>absurd e z) id)
 have at3:∀(i:Nat)(x:Str)(j:Nat),N'[i]? = some x->src[i]? = some (some j)->X.N[j]? = some x/\X.env.scope.names.lookup x=some .cell/\scope.names.lookup x=some .free:=λi x j e1 e2=>by
  have m:(x,some j)∈N'.zip src:=by
   rw[x5];exact⟨i,by rw[List.getElem?_zip_eq_some];exact⟨e1,e2⟩⟩
  have:=h3 _ m;simp only[wZ,beq_iff_eq]at this;exact⟨this.1.1,this.1.2,this.2⟩
 refine⟨hk,λy hy=>((h1 y hy).1).1,λy hy e=>(((h1 y hy).1).2).elim (λz=>absurd e z) id,⟨zk5 fr,λx c e=>L7 _ _ x c fr (λ_ _ z=>by simp at z) e,λx e=>?_⟩,⟨h2,λi j x e1 e2=>⟨(at3 i x j e1 e2).1,(at3 i x j e1 e2).2.1⟩⟩,λi x e1 e2=>?_⟩
 ·rw[LF]at e
  cases q:scope.names.lookup x with
  | none=>rw[q]at e;simp at e
  | some k =>
   have hm:=Vo q
   have hk:k=.free:=by
    rw[q]at e;simp only[uN,Qp,t_]at e;have nc:k≠.cell:=((h1 _ hm).1).1;rcases e with e | e
    ·split at e
     ·rename_i z;simp only[wZ,beq_iff_eq]at z;exact z.1.1
     ·exact absurd e nc
    ·split at e
     ·cases e
     ·exact e
   subst hk;exact MJ _ _ x hm
 ·obtain⟨o,ho⟩:∃o,src[i]? = some o:=by
   have:i<src.length:=by rw[<- h2];exact(Wt.mp e1).1
   exact⟨src[i],by simp[this]⟩
  cases o with
  | none=>exact absurd ho e2
  | some j =>
   have:=(at3 i x j e1 ho).2.2;rw[LF,this];simp only[uN,Qp,t_]
   split
   ·exact .inl rfl
   ·exact .inr rfl
section
variable{prog:wI}{w:wJ}{A:vb}{E:wg->wl->Prop}{s:wl}
end
section
variable{X:Cx}{ex:we}{C:wg}{oe:Obj}{pins:List (we × Obj)}{σ : St}{H:Hp}{s:wl}{pos:Pos}
variable{tg l:Expr}{tl:TE}
variable{N':List Str}{scope:Scope}{cl:List (Str × we)}{src:List (Option Nat)}{elt tgt iter:Expr}{ifs:List Expr}{wi:TI}{g:TG}{tt:TT}{te:TE}
end
def tM(K:wb)(g:TG)(tt:TT)(te:TE)(src:List (Option Nat))(σ : St)(x:V)(H1:Hp)(Q:VK):Prop :=
 ∃a,x=.ref a/\(∃xs,aO K H1 a xs) /\ ∀D,H1 D=none->ki g tt te (jg K a) D (dR src σ) (upd H1 D (.lst [])) (λH'=>Q (.ref D) H')
def yD(K:wb)(g:TG)(tt:TT)(te:TE)(src:List (Option Nat))(σ : St)(x:V)(H1:Hp)(Q:VK):Prop :=
 ∃a,x=.ref a/\(∃xs,aU K H1 a xs) /\ ∀D,H1 D=none->ki g tt te (je K a) D (dR src σ) (upd H1 D (.lst [])) (λH'=>Q (.ref D) H')
def DQ(g:TG)(tt:TT)(te:TE)(src:List (Option Nat))(σ : St)(vs:List V)(H1:Hp)(Q:VK):Prop :=
 ∃j:Int,vs=[.int j] /\ -(2^62)<=j/\j<2^62 /\ ∀D,H1 D=none->ki g tt te (gG 0 j.toNat) D (dR src σ) (upd H1 D (.lst [])) (λH'=>Q (.ref D) H')
section
variable{K:wb}{g:TG}{tt:TT}{te ta:TE}{tA:TA}{src:List (Option Nat)}{σ : St}{H:Hp}{Q:VK}{a:we}{xs:List V}{n:Int}
theorem zxA(h:ta σ H λx H1=>tM K g tt te src σ x H1 Q):jQ src (B0 K ta) g tt te σ H Q:=h
theorem zza(h:ta σ H λx H1=>yD K g tt te src σ x H1 Q):jQ src (MK K ta) g tt te σ H Q:=h
theorem zxH(h:tA σ H λvs H1=>DQ g tt te src σ vs H1 Q):jQ src (En tA) g tt te σ H Q:=h
def rS(Pv:we->Nat->List V->St->Hp->Prop)(D:we)(i:Nat)(σ3:St)(y:V)(H5:Hp):Prop :=
 ∃ys,H5 D=some (.lst ys)/\ys.length<w8 /\ ∃ys',Pv D (i+1) ys' σ3 (upd H5 D (.lst (ys++[y])))
def ig(Pv:we->Nat->List V->St->Hp->Prop)(g:TG)(tt:TT)(te:TE)(D:we)(i:Nat)(x:V)(σ':St)(H':Hp):Prop :=
 g x σ' H' λσ3 H3=>tt σ3 H3 λok H4=>if ok=true then te σ3 H4 λy H5=>rS Pv D i σ3 y H5 else ∃ys',Pv D (i+1) ys' σ3 H4
theorem lJ{Pv:we->Nat->List V->St->Hp->Prop}{D:we}{i:Nat}{σ3:St}{y:V}{H5:Hp}{ys:List V}(h:H5 D=some (.lst ys))(z:ys.length<=1000)(q:∀H6,Exc D H5 H6->H6 D=some (.lst (ys++[y]))->Pv D (i+1) (ys++[y]) σ3 H6):rS Pv D i σ3 y H5 :=
 ⟨ys,h,jI z,_,q _ (Exc.upd D H5 _) cZ⟩
theorem Dt{J:It}{N:Nat}{D:we}{σ0:St}{H0:Hp}{R:Hp->Prop}(Pv:we->Nat->List V->St->Hp->Prop)(item:Nat->V->Prop)(h0:Pv D 0 [] σ0 H0)
  (stop:∀i ys σ' H',Pv D i ys σ' H'->N<=i->J.stop i H') (go:∀i ys σ' H',Pv D i ys σ' H'->i<N->J.go i H') (fD:∀i ys σ' H' x H2,Pv D i ys σ' H'->J.fD i H' x H2->H2=H'/\item i x)
  (hs:∀i x ys σ' H',i<N->item i x->Pv D i ys σ' H'->ig Pv g tt te D i x σ' H') (hd:∀ys σ' H',Pv D N ys σ' H'->R H'):ki g tt te J D σ0 H0 R:=by
 refine⟨λi m σ' H'=>i+m=N /\ ∃ys,Pv D i ys σ' H',⟨N,by lia,[],h0⟩,?_⟩;rintro i m σ' H' ⟨him,ys,hp⟩
 by_cases hm:m=0
 ·subst hm
  have e:i=N:=by lia
  subst e;exact .inl ⟨stop _ _ _ _ hp (wo _),hd _ _ _ hp⟩
 ·refine .inr ⟨go _ _ _ _ hp (by lia),λσ2 H2=>∃ys,Pv D (i+1) ys σ2 H2,λσ2 H2 h=>⟨m-1,by lia,by lia,h⟩,λx H2 hy2=>?_⟩
  obtain⟨e,hit⟩:=fD _ _ _ _ _ _ hp hy2;subst e;exact hs i x ys σ' H2 (by lia) hit hp
theorem zX(hx:aO K H a xs)(Pv:we->Nat->List V->St->Hp->Prop)(h0:∀D H',H D=none->ah H H'->H' D=some (.lst [])->Pv D 0 [] (dR src σ) H')(hl:∀D i ys σ' H',Pv D i ys σ' H'->aO K H' a xs)
  (hs:∀D i x ys σ' H',xs[i]? = some x->Pv D i ys σ' H'->ig Pv g tt te D i x σ' H') (hd:∀D ys σ' H',Pv D xs.length ys σ' H'->Q (.ref D) H'):tM K g tt te src σ (.ref a) H Q:=by
 refine⟨a,rfl,⟨xs,hx⟩,λD hD=>Dt (N:=xs.length) Pv (λi x=>xs[i]? = some x) (h0 D _ hD (ah.upd hD) cZ) (λi ys σ' H' hp hi=>⟨xs,hl _ _ _ _ _ hp,hi⟩) (λi ys σ' H' hp hi=>?_) (λi ys σ' H' x H2 hp hy=>?_)
  (λi x ys σ' H' _ hit hp=>hs D i x ys σ' H' hit hp) (hd D)⟩
 ·exact⟨xs,xs[i],hl _ _ _ _ _ hp,by simp[hi]⟩
 ·obtain⟨e,hy⟩:=hy
  exact⟨e,hy xs (hl _ _ _ _ _ hp)⟩
theorem zun(hx:aU K H a xs)(Pv:we->Nat->List V->St->Hp->Prop)(h0:∀D H',H D=none->ah H H'->H' D=some (.lst [])->Pv D 0 [] (dR src σ) H')(hl:∀D i ys σ' H',Pv D i ys σ' H'->aU K H' a xs)
  (hs:∀D i x ys σ' H',xs[i]? = some x->Pv D i ys σ' H'->ig Pv g tt te D i x σ' H') (hd:∀D ys σ' H',Pv D xs.length ys σ' H'->Q (.ref D) H'):yD K g tt te src σ (.ref a) H Q:=by
 refine⟨a,rfl,⟨xs,hx⟩,λD hD=>Dt (N:=xs.length) Pv (λi x=>xs[i]? = some x) (h0 D _ hD (ah.upd hD) cZ) (λi ys σ' H' hp hi=>⟨xs,hl _ _ _ _ _ hp,hi⟩) (λi ys σ' H' hp hi=>?_) (λi ys σ' H' x H2 hp hy=>?_)
  (λi x ys σ' H' _ hit hp=>hs D i x ys σ' H' hit hp) (hd D)⟩
 ·exact⟨xs,xs[i],hl _ _ _ _ _ hp,by simp[hi]⟩
 ·obtain⟨e,hy⟩:=hy
  exact⟨e,hy xs (hl _ _ _ _ _ hp)⟩
theorem Tu(h0' : -1000000000<=n)(h1:n<1000000000)(Pv:we->Nat->List V->St->Hp->Prop)(h0:∀D H',H D=none->ah H H'->H' D=some (.lst [])->Pv D 0 [] (dR src σ) H')
  (hs:∀D (i:Nat) ys σ' H',i<n.toNat->Pv D i ys σ' H'->ig Pv g tt te D i (.int (i:Int)) σ' H') (hd:∀D ys σ' H',Pv D n.toNat ys σ' H'->Q (.ref D) H'):DQ g tt te src σ [.int n] H Q:=by
 refine⟨n,rfl,by lia,by lia,λD hD=>Dt (N:=n.toNat) Pv (λi x=>x=.int (i:Int)) (h0 D _ hD (ah.upd hD) cZ) (λi ys σ' H' hp hi=>hi) (λi ys σ' H' hp hi=>hi) (λi ys σ' H' x H2 hp hy=>?_)
  (λi x ys σ' H' hi hit hp=>?_) (hd D)⟩
 ·obtain⟨e,hy⟩:=hy
  exact⟨e,by rw[hy,Int.zero_add]⟩
 ·subst hit
  exact hs D i ys σ' H' hi hp
end
structure zo(u' u:TS):Prop where
 e:u'=u
theorem zAU{t u:TS}{D:cv}{σ : St}{H:Hp}(h:∀u',zo u' u->t {D with nx:=u' D} σ H):DG t u D σ H:=h u ⟨rfl⟩
theorem zo.go{u' u:TS}{D:cv}{σ : St}{H:Hp}(e:zo u' u)(h:u D σ H):u' D σ H:=by rw[e.e];exact h
theorem DI{P:wI}{w:wJ}{X:Cx} : ng (eW P w) X E0:=λ_ _ _ _ _ _ _ h=>by
 obtain⟨_,_,_,_,_,_,_,_,_,_,_,q⟩:=h;exact q.elim
theorem lz.oV{P:wI}{w:wJ}{K:wb}{mg:Str->Option wg}{base:wG}{x qual:Str}{st:w9}{f:we}{fd:wE}{N ps:List Str}{k:Nat}{sp:Sp}(F:lz K x qual st f fd)(S:aQ N ps (aH st))(len:∀vs H Q E,sp vs H Q E->vs.length=ps.length)
  (hbody:∀(cdv:wg)(A:vb)(outer:List Env)(s:wl)(H:Hp)(vs:List V)(Q:VK)(E:XK),eA k (A.deeper (envOfC qual (aH st) s.heap.objs.size f cdv))->sp vs H Q E ->
   ∃t,fL (iU (eW P w) P w K mg base N qual (aH st) f cdv A outer s H E) (lu st) t/\t {nx:=λ_ H'=>Q .a_ H',rt:=Q} (start N vs) H):aG P w K mg base (eW P w) (k+1) f fd ps sp:=by
 obtain⟨oc,od,kV,doc,pm,an,cdv,ct,osl,rfl,lk,hcd⟩:=F.ex;exact Lf lk hcd S len λA outer s H vs Q E hr hsp=>hbody cdv A outer s H vs Q E hr hsp
theorem Exc.back{p:we}{H H' H2:Hp}(b:Exc p H' H2)(s:Exc p H H'):Exc p H H2:=s.trans b
theorem RL{X:Cx}{i j v:Int}{k1 k2:Nat}{p1 p2 pos:Pos}(hc:PR i j)(hv:i^j.toNat=v):PE X (.BinOp (.Constant (.int i) k1 p1) .Pow (.Constant (.int j) k2 p2) pos) (tC (.int v)):=by
 subst hv;exact λpins s σ H Q I h=>(aC zDC ay ay:PE X _ _) pins s σ H Q I ⟨i,j,rfl,rfl,hc,h⟩
theorem zwN{α : Type}[DecidableEq α]{x : α}{A B:Prop}(h:B):if(!decide (x=x))=true then A else B:=by simpa using h
theorem zwI{α : Type}[DecidableEq α]{x : α}{A B:Prop}(h:A):if decide (x=x)=true then A else B:=by simpa using h
section
variable{K:wb}{σ : St}{H H':Hp}{Q:VK}{QB:Bool->Hp->Prop}{D:cv}{t:TA}{v w:V}{xs ys:List V}{m n:Int}{r:Rat}{p:we}
variable{x y:Rat}
theorem Zq{A B:Prop}(h:B):if(!true)=true then A else B:=by simpa using h
theorem zEg{A B:Prop}(h:A):if(!false)=true then A else B:=by simpa using h
theorem zxb{b:Bool}(q:Q (.bl true) H):eJ K [.bl b,.ty "bool"] H Q:=UG (ky.mpr rfl) q
theorem zA5{a b:V}(h:H p=some (.lst [a,b]))(h0:0<=m)(h1:m<2)(q:∀z,z=a\/z=b->Q z H):dw K (.ref p) (.int m) H Q :=
 O8 (λz=>z=a\/z=b) (aO.of h) h0 (by simpa using h1) (by simp) q
theorem zAP{a b:Int}(h:H p=some (.lst [.int a,.int b]))(h0:0<=m)(h1:m<2)(q:∀z,z=a\/z=b->Q (.int z) H):dw K (.ref p) (.int m) H Q :=
 zA5 h h0 h1 λz hz=>by rcases hz with rfl | rfl;exact q _ (.inl rfl);exact q _ (.inr rfl)
theorem zqw(h1:x.num=y.num)(h2:(x.den:Int)=y.den):x=y:=by
 have h2':x.den=y.den:=by lia
 exact u6 h1 h2'
theorem rN(x y:Rat):wY (N x) (N y)=decide (x=y):=by
 have e:wY (N x) (N y)=(decide (x.num=y.num)&&decide ((x.den:Int)=y.den)):=by
  simp only[N,wY,Vl,Xq,Qy]
 rw[e,vL,wZ,decide_eq_true_eq,decide_eq_true_eq,decide_eq_true_eq]
 constructor
 ·rintro ⟨h1,h2⟩;exact zqw h1 h2
 ·rintro rfl;exact⟨rfl,rfl⟩
theorem tQ(x:Rat):Wb (N x)=true:=by simp[N,Wb,vU,Wu,Vg,WX]
theorem Na(h:Is K H v (N x))(k:Is K H w (N y))(q:Q (.bl (decide (x=y))) H):cO K v w H Q:=mV h k (tQ x) (tQ y) (by rw[rN];exact q)
theorem Zj(h:Is K H v (N x))(k:Is K H w (N y))(q:Q (.bl (!decide (x=y))) H):f_ K v w H Q:=Et h k (tQ x) (tQ y) (by rw[rN];exact q)
end
theorem zDr{X:Cx} : aN X (wT .In) (kJ X.K false):=zxs
theorem zwZ{X:Cx} : aN X (wT .NotIn) (kJ X.K true):=zqj
def R(a b:Rat):wC:=.tuple [N a,N b]
theorem C3(a b:Rat):di (R a b)=true:=by simp[R,di,ck,kG]
structure aR(a b:Rat):Prop where
 a0:0<a
 a4:a<=4
 ad:a.den<=8
 b0:0<=b
 b1:b<=1
 bd:b.den<=12
 ab:1<=a+b
theorem aR.ba{a b:Rat}(h:aR a b):ag 10 a:=ag.small (c:=4) (d:=8) (vT h.a0) h.a4 h.ad (by decide) (by decide)
theorem aR.bb{a b:Rat}(h:aR a b):ag 10 b:=ag.small (c:=1) (d:=12) h.b0 h.b1 h.bd (by decide) (by decide)
section
variable{K:wb}{H:Hp}{Q:VK}{v:V}{a b:Rat}{σ : St}{gs:kr}{QS:St->Hp->Prop}
theorem zBD(h:Is K H v (R a b))(q:∀x,Is K H x (N a)->Q x H):dw K v (.int 0) H Q:=aA (j:=0) h rfl q
theorem zBg(h:Is K H v (R a b))(q:∀x,Is K H x (N b)->Q x H):dw K v (.int 1) H Q:=aA (j:=1) h rfl q
theorem Is.oQ{H':Hp}(h:Is K H v (R a b))(s:bG H H'):Is K H' v (R a b):=Is.keep s _ v (C3 a b) h
theorem EU{x y:V}(h1:Is K H x (N a))(h2:Is K H y (N b))(q:∀v H',ah H H'->Is K H' v (R a b)->Q v H'):mi K [x,y] H Q :=
 cB (by show 2<=1000;decide) (.cons h1 (.cons h2 .nil)) q
end
section
variable{K:wb}{H H' H2:Hp}{Q:VK}{v w:V}{a b c d:Rat}{D:we}
theorem zwx(h:Is K H v (R a b))(q:Q (.bl true) H):eJ K [v,.ty "tuple"] H Q:=Kr h q
theorem zAr(h:Is K H v (R a b))(q:Q (.int 2) H):dj K [v] H Q:=lg h q
theorem ah.grow(s:ah H H')(n:H D=none)(e:Exc D H' H2):ah H H2:=λb o h=>e b o (jP h n) (s b o h)
end
theorem zzt{σ : St}{H:Hp}{Q:Bool->Hp->Prop}(q:Q true H):UY σ H Q:=q
theorem UP{Pv:we->Nat->List V->St->Hp->Prop}{g:TG}{tt:TT}{te:TE}{D:we}{i:Nat}{x:V}{σ':St}{H':Hp}(h:g x σ' H' λσ3 H3=>tt σ3 H3 λok H4=>if ok=true then te σ3 H4 λy H5=>rS Pv D i σ3 y H5 else ∃ys',Pv D (i+1) ys' σ3 H4) :
  ig Pv g tt te D i x σ' H':=h
section
variable{K:wb}{σ : St}{H:Hp}{Q:VK}{E:XK}{D:cv}{t:TA}{C G:wg}{i:Nat}{tb:(St->XK)->TS}{th:we->wg->TS}{sp:Sp}{W:St->XK}{ex C':we}{b:Bool}
theorem zzV(h:t σ H λvs H1=>vs.length<=w8/\E C none H1):Ku C E t D σ H:=h
theorem zyR(h:t σ H λvs H1=>sp vs H1 Q (W σ)):yq sp W t σ H Q:=h
end
variable{p:Pos}{es:List Expr}{env:Env}
theorem rJ(s:String):XI (vW s)=true:=by
 rw[Str.ofString_eq_toList,XI];simp only[List.all_toArray,XJ,WO,Function.comp,decide_eq_true_eq];intro c _;have:=c.valid;simp only[Char.toNat];rcases this with h | h
 ·have:c.val.toNat<0xd800:=h
  lia
 ·exact h.2
theorem d9{K:wb}{H:Hp}{c:we}{p q:Int}(r:Rat)(h:aU K H c [.int p,.int q])(e1:r.num=p)(e2:(r.den:Int)=q):Is K H (.ref c) (N r):=by
 subst e1 e2;exact bX.mpr ⟨c,_,rfl,h,eD.mpr ⟨_,_,rfl,bW.mpr rfl,eD.mpr ⟨_,_,rfl,bW.mpr rfl,gU.mpr rfl⟩⟩⟩
theorem DT(s:String):Wb (.str (vW s))=true:=by
 simp[Wb,vU,Vg,rJ]
theorem lG{c:Const}{k:Nat} : w5 ((.Constant c k p)::es) env=(false,eval (.Constant c k p) env)::w5 es env:=rfl
theorem Om{xs:List Expr}{k:Nat} : w5 ((.Tuple xs k p)::es) env=(false,eval (.Tuple xs k p) env)::w5 es env:=rfl
theorem zuP{o:Operator}{x y:Expr} : w5 ((.BinOp x o y p)::es) env=(false,eval (.BinOp x o y p) env)::w5 es env:=rfl
theorem fO{x:Str} : w5 ((.Name x p)::es) env=(false,eval (.Name x p) env)::w5 es env:=rfl
theorem eX{x y:Expr} : w5 ((.Subscript x y p)::es) env=(false,eval (.Subscript x y p) env)::w5 es env:=rfl
section
variable{K:wb}{H H' H2:Hp}{Q:VK}{R:Prop}{v w y:V}{p l:we}{xs ys zs:List V}{ns:List Int}{m:Int}{σ : St}
end
section
variable{K:wb}{H H' H2:Hp}{Q:VK}{R:Prop}{v w y:V}{p l:we}{xs ys zs:List V}{ns:List Int}{m:Int}{σ : St}{to:TE}{t:TA}{T:String}{r:V->List V->Hp->VK->Prop}
theorem zEi(h:to σ H λx H1=>Al K T x H1/\t σ H1 λxs H2=>r x xs H2 Q):Ru K T r to t σ H Q:=h
theorem mr(h:aO K H p xs)(q:R):Al K "list" (.ref p) H/\R:=⟨.inl ⟨rfl,xs,h⟩,q⟩
theorem lR(h:H l=some (.lst xs))(z:xs.length<=1000)(q:∀H',Exc l H H'->H' l=some (.lst (xs++[y]))->Q .a_ H'):P0 (.ref l) [y] H Q:=⟨l,xs,y,rfl,rfl,h,jI z,q _ (Exc.upd l H _) cZ⟩
end
variable{X:Cx}
def eQ(K:wb):List V->Hp->VK->Prop:=λxs H Q=>∃p ys,xs=[.ref p]/\((aO K H p ys /\ ∀l,H l=none->Q (.ref l) (upd H l (.tup ys)))\/(aU K H p ys/\Q (.ref p) H))
def kz(K:wb):List V->Hp->VK->Prop:=λxs H Q=>∃p ys,xs=[.ref p]/\(aO K H p ys\/aU K H p ys) /\ ∀l,H l=none->Q (.ref l) (upd H l (.lst ys))
theorem fX : aJ X (.type "tuple") (eQ X.K):=zox
theorem pk : aJ X (.type "list") (kz X.K):=zp6
def oU(K:wb):V->Option Int->Option Int->Hp->VK->Prop:=λx lo hi H Q=>Kx K x lo hi H Q\/Ti K x lo hi H Q
theorem j4 : kf X (oU X.K):=Z5.or Zl
section
variable{K:wb}{H H' H2:Hp}{Q:VK}{QO:Option Int->Hp->Prop}{R:Prop}{v w y:V}{p l:we}{xs ys zs:List V}{ds es:List wC}{m:Int}{σ : St}{te:TE}{tl th:TO}{r:V->Option Int->Option Int->Hp->VK->Prop}{lo hi:Option Int}
theorem sR(h:aO K H p ys)(q:∀l H',H l=none->ah H H'->H' l=some (.tup ys)->Q (.ref l) H'):eQ K [.ref p] H Q:=⟨p,ys,rfl,.inl ⟨h,λl hl=>q l _ hl (ah.upd hl) cZ⟩⟩
theorem iQ(h:Is K H v (.list ds))(q:∀w H',ah H H'->Is K H' w (.tuple ds)->Q w H'):eQ K [v] H Q:=by
 obtain⟨a,xs,rfl,hs,t⟩:=cC.mp h;exact sR hs λl H' _ s e=>q _ H' s (bX.mpr ⟨l,xs,rfl,.of e,ak.same s ds xs t⟩)
theorem N3(h:Is K H v (.tuple ds))(q:Q v H):eQ K [v] H Q:=by
 obtain⟨a,xs,rfl,hs,t⟩:=bX.mp h;exact⟨a,xs,rfl,.inr ⟨hs,q⟩⟩
theorem yc(h:Is K H v (.tuple ds))(q:∀l H' ys,H l=none->ah H H'->H' l=some (.lst ys)->ak K H' ys ds->Q (.ref l) H'):kz K [v] H Q:=by
 obtain⟨a,xs,rfl,hs,t⟩:=bX.mp h;exact⟨a,xs,rfl,.inr hs,λl hl=>q l _ xs hl (ah.upd hl) cZ (ak.same (ah.upd hl) ds xs t)⟩
theorem Sz(h:Is K H v (.list ds))(q:∀l H' ys,H l=none->ah H H'->H' l=some (.lst ys)->ak K H' ys ds->Q (.ref l) H'):kz K [v] H Q:=by
 obtain⟨a,xs,rfl,hs,t⟩:=cC.mp h;exact⟨a,xs,rfl,.inl hs,λl hl=>q l _ xs hl (ah.upd hl) cZ (ak.same (ah.upd hl) ds xs t)⟩
theorem zyJ(h:te σ H λx H1=>tl σ H1 λl H2=>th σ H2 λu H3=>r x l u H3 Q):OV r te tl th σ H Q:=h
theorem zwW(q:QO none H):U7 σ H QO:=q
theorem zAV(h:te σ H λx H1=>∃i,x=.int i/\QO (some i) H1):L8 te σ H QO:=h
theorem zx3{RI:Int->Prop}(q:RI m):∃i,V.int m=V.int i/\RI i:=⟨m,rfl,q⟩
def cutD{α : Type}(xs:List α)(lo hi:Option Int):List α:=(xs.drop (HT.aX xs.length 0 lo)).take (HT.aX xs.length xs.length hi-HT.aX xs.length 0 lo)
theorem ak.take:∀{ds:List wC}{xs:List V}(n:Nat),ak K H xs ds->ak K H (xs.take n) (ds.take n)
 | _,_,0,h=>by simp[ak.nil]
 | [],_,n+1,h=>by rw[gU.mp h];simp[ak.nil]
 | d::ds,_,n+1,h=>by
  obtain⟨x,r,rfl,q,t⟩:=eD.mp h;rw[Xw,Xw];exact .cons q (ak.take n t)
theorem ak.drop:∀{ds:List wC}{xs:List V}(n:Nat),ak K H xs ds->ak K H (xs.drop n) (ds.drop n)
 | _,_,0,h=>by simpa using h
 | [],_,n+1,h=>by rw[gU.mp h];simp[ak.nil]
 | d::ds,_,n+1,h=>by
  obtain⟨x,r,rfl,q,t⟩:=eD.mp h;rw[QL,QL];exact ak.drop n t
theorem ak.cut(h:ak K H xs ds):ak K H (kg xs lo hi) (cutD ds lo hi):=by
 unfold kg cutD;rw[h.length];exact(h.drop _).take _
theorem zCs(h:aO K H p xs)(q:∀l H',H l=none->ah H H'->H' l=some (.lst (kg xs lo hi))->Q (.ref l) H'):oU K (.ref p) lo hi H Q:=.inl ⟨p,xs,rfl,h,λl hl=>q l _ hl (ah.upd hl) cZ⟩
theorem lQ(h:Is K H v (.list ds))(q:∀l H' ys,H l=none->ah H H'->H' l=some (.lst ys)->ak K H' ys (cutD ds lo hi)->Q (.ref l) H'):oU K v lo hi H Q:=by
 obtain⟨a,xs,rfl,hs,t⟩:=cC.mp h;exact zCs hs λl H' hl s e=>q l H' _ hl s e (ak.same s _ _ t.cut)
theorem P_(h:Is K H v (.tuple ds))(hw:¬ (HT.aX ds.length 0 lo=0/\HT.aX ds.length ds.length hi=ds.length))(q:∀w H',ah H H'->Is K H' w (.tuple (cutD ds lo hi))->Q w H'):oU K v lo hi H Q:=by
 obtain⟨a,xs,rfl,hs,t⟩:=bX.mp h;refine .inr ⟨a,xs,rfl,hs,by rw[t.length];exact hw,λl hl=>q _ _ (ah.upd hl) (bX.mpr ⟨l,_,rfl,.of cZ,ak.same (ah.upd hl) _ _ t.cut⟩)⟩
theorem DR{α : Type}(xs:List α):cutD xs none (some (-1))=xs.dropLast:=by
 unfold cutD
 show(xs.drop 0).take (((-1:Int)+(xs.length:Int)).toNat-0)=_
 rw[x6,xZ]
 congr 1
 lia
theorem Cn{α : Type}(xs:List α):cutD xs (some 1) none=xs.tail:=by
 unfold cutD
 show(xs.drop (min 1 xs.length)).take (xs.length-min 1 xs.length)=_
 cases xs with
 | nil=>rfl
 | cons x xs =>
  have e:min 1 (x::xs).length=1:=by rw[vo];lia
  rw[e,QL,x6,vo,qZ,Wr,u4]
end
def TN(xs:List Rat):wC:=.tuple (xs.map N)
def LN(xs:List Rat):wC:=.list (xs.map N)
theorem gq:∀xs:List Rat,ck (xs.map N)=true
 | []=>by simp[ck]
 | x::xs=>by rw[vd,ck,kG,gq xs];rfl
theorem zG(xs:List Rat):di (TN xs)=true:=by rw[TN,di];exact gq xs
theorem zyp(x:Rat):(N x).canLay0=true:=by simp[N,vU,Wu]
theorem zz9(x:Rat):(N x).depth=1:=by simp[N,Vg,WX]
theorem Dm:∀xs:List Rat,Wu (xs.map N)=true
 | []=>by simp[Wu]
 | x::xs=>by rw[vd,Wu,zyp,Dm xs];rfl
theorem Mi:∀xs:List Rat,WX (xs.map N)<=1
 | []=>by simp[WX]
 | x::xs=>by
  have:=Mi xs;rw[vd,WX,zz9];lia
theorem zE(xs:List Rat):Wb (TN xs)=true:=by
 unfold Wb TN;rw[vU,Dm,Vg,ql];have:=Mi xs;exact decide_eq_true (by lia)
theorem R5:∀xs ys:List Rat,Vl (xs.map N) (ys.map N)=decide (xs=ys)
 | [],[]=>by simp[Vl]
 | [],y::ys=>by simp[Vl]
 | x::xs,[]=>by simp[Vl]
 | x::xs,y::ys=>by
  rw[vd,vd,Vl,rN,R5 xs ys,vL,wZ,decide_eq_true_eq,decide_eq_true_eq,decide_eq_true_eq,uO]
theorem CK(xs ys:List Rat):wY (TN xs) (TN ys)=decide (xs=ys):=by
 unfold TN;rw[wY,R5]
section
variable{K:wb}{H H' H2:Hp}{Q:VK}{v w y:V}{p l:we}{vs:List V}{xs ys:List Rat}{m:Int}{σ : St}
theorem Eg(h:Is K H v (TN xs))(k:Is K H w (TN ys))(q:Q (.bl (decide (xs=ys))) H):cO K v w H Q:=mV h k (zE xs) (zE ys) (by rw[CK];exact q)
theorem zAN(h:Is K H v (TN xs))(k:Is K H w (TN ys))(q:Q (.bl (!decide (xs=ys))) H):f_ K v w H Q:=Et h k (zE xs) (zE ys) (by rw[CK];exact q)
theorem BO{i:Nat}(t:ak K H vs (xs.map N))(h:i<xs.length):∃x,vs[i]? = some x/\Is K H x (N (xs.getD i 0)):=by
 refine t.get ?_;rw[wu,wa,wc h]
 rfl
theorem dC{i:Nat}{x:V}(t:ak K H vs (xs.map N))(h:vs[i]? = some x):i<xs.length/\Is K H x (N (xs.getD i 0)):=by
 have hl:=t.length;rw[wm]at hl
 have hi:i<xs.length:=by
  rcases wA i vs.length with z | z
  ·lia
  ·rw[wL z]at h;cases h
 obtain⟨x',e,hx⟩:=BO t hi;rw[h]at e;cases e;exact⟨hi,hx⟩
theorem zAD(h:Is K H v (TN xs))(h0:0<=m)(h1:m<xs.length)(q:∀x,Is K H x (N (xs.getD m.toNat 0))->Q x H):dw K v (.int m) H Q:=by
 obtain⟨a,vs,rfl,hs,t⟩:=bX.mp h;obtain⟨n,rfl⟩:∃n:Nat,m=(n:Int):=⟨m.toNat,by lia⟩;obtain⟨x,e,hx⟩:=BO (i:=n) t (by lia);exact t9 hs (kO e) (q x hx)
theorem kW(h:Is K H v (LN xs))(h0:0<=m)(h1:m<xs.length)(q:∀x,Is K H x (N (xs.getD m.toNat 0))->Q x H):dw K v (.int m) H Q:=by
 obtain⟨a,vs,rfl,hs,t⟩:=cC.mp h;obtain⟨n,rfl⟩:∃n:Nat,m=(n:Int):=⟨m.toNat,by lia⟩;obtain⟨x,e,hx⟩:=BO (i:=n) t (by lia);exact jb hs (kO e) (q x hx)
theorem RA(h:Is K H v (TN xs))(q:Q (.int xs.length) H):dj K [v] H Q:=lg h (by rw[wm];exact q)
theorem Z9(h:Is K H v (LN xs))(q:Q (.int xs.length) H):dj K [v] H Q:=by
 obtain⟨a,vs,rfl,hs,t⟩:=cC.mp h;have:=t.length;rw[wm]at this;exact jf hs (by rw[this];exact q)
theorem dE(h:H l=some (.lst vs))(t:ak K H vs (xs.map N)):Is K H (.ref l) (LN xs):=cC.mpr ⟨l,vs,rfl,.of h,t⟩
theorem gc:∀{xs:List Rat}{vs:List V},vs.length=xs.length->(∀i x,vs[i]? = some x->Is K H x (N (xs.getD i 0)))->ak K H vs (xs.map N)
 | [],vs,hl,_=>by
  have:vs=[]:=Vm hl;subst this;exact .nil
 | x::xs,[],hl,_=>by cases hl
 | x::xs,u::vs,hl,h=>by
  rw[vd];exact .cons (h 0 u rfl) (gc (by simpa using hl) λi y e=>h (i+1) y e)
end
section
variable{K:wb}{g:TG}{tt:TT}{te:TE}{src:List (Option Nat)}{σ : St}{H:Hp}{Q:VK}{a:we}{vs:List V}{n:Int}{tl:St}{o0:Option V}
def gL(H:Hp)(tl:St)(Rel:Nat->V->Hp->Prop)(D:we)(i:Nat)(ys:List V)(σ':St)(H':Hp):Prop :=
 (∃o,σ'=o::tl)/\H D=none/\ah H H'/\H' D=some (.lst ys)/\ys.length=i /\ ∀j y,ys[j]? = some y->Rel j y H'
theorem gL.same{Rel:Nat->V->Hp->Prop}{D:we}{i:Nat}{ys:List V}{σ':St}{H':Hp}(h:gL H tl Rel D i ys σ' H'):ah H H':=h.2.2.1
theorem d5{Rel:Nat->V->Hp->Prop}{D:we}{i:Nat}{ys:List V}{σ' σ3:St}{H1 H5:Hp}{y:V}(inv:gL H tl Rel D i ys σ' H1)(hi:i<=1000)(hk:∀i v H1 H2,bG H1 H2->Rel i v H1->Rel i v H2)(hσ : ∃o,σ3=o::tl)(s:ah H1 H5)(r:Rel i y H5):rS (gL H tl Rel) D i σ3 y H5:=by
 obtain⟨_,hn,s1,hD,hl,hr⟩:=inv;have hD5:=s _ _ hD;refine lJ hD5 (by lia) λH6 E6 e6=>⟨hσ,hn,(s1.trans s).grow hn E6,e6,by simp[hl],λj z hz=>?_⟩
 have k6:bG H5 H6:=E6.keep hD5;rcases wA j ys.length with hj | hj
 ·rw[vI hj]at hz
  exact hk _ _ _ _ (s.keep.trans k6) (hr j z hz)
 ·have hj':j=ys.length:=by
   rcases wA ys.length j with q | q
   ·rw[wL (by simp;lia)]at hz;cases hz
   ·lia
  subst hj';rw[vi (wo _),Vf]at hz;cases hz;rw[hl];exact hk _ _ _ _ k6 r
theorem ju(hx:aO K H a vs)(hsrc:dR src σ = o0::tl)(Rel:Nat->V->Hp->Prop)(hs:∀D i x ys o H1,vs[i]? = some x->gL H tl Rel D i ys (o::tl) H1->ig (gL H tl Rel) g tt te D i x (o::tl) H1)
  (hd:∀D ys H',H D=none->ah H H'->H' D=some (.lst ys)->ys.length=vs.length->(∀j y,ys[j]? = some y->Rel j y H')->Q (.ref D) H'):tM K g tt te src σ (.ref a) H Q:=by
 refine zX hx (gL H tl Rel) (λD H' n s e=>⟨⟨o0,hsrc⟩,n,s,e,rfl,λj y z=>by simp at z⟩) (λD i ys σ' H' h=>h.same.seq hx) ?_ λD ys σ' H' ⟨_,n,s,e,hl,r⟩=>hd D ys H' n s e hl r
 rintro D i x ys σ' H' hx' h;obtain⟨⟨o,rfl⟩,_⟩:=id h;exact hs D i x ys o H' hx' h
theorem jo(hx:aU K H a vs)(hsrc:dR src σ = o0::tl)(Rel:Nat->V->Hp->Prop)(hs:∀D i x ys o H1,vs[i]? = some x->gL H tl Rel D i ys (o::tl) H1->ig (gL H tl Rel) g tt te D i x (o::tl) H1)
  (hd:∀D ys H',H D=none->ah H H'->H' D=some (.lst ys)->ys.length=vs.length->(∀j y,ys[j]? = some y->Rel j y H')->Q (.ref D) H'):yD K g tt te src σ (.ref a) H Q:=by
 refine zun hx (gL H tl Rel) (λD H' n s e=>⟨⟨o0,hsrc⟩,n,s,e,rfl,λj y z=>by simp at z⟩) (λD i ys σ' H' h=>h.same.j9 hx) ?_ λD ys σ' H' ⟨_,n,s,e,hl,r⟩=>hd D ys H' n s e hl r
 rintro D i x ys σ' H' hx' h;obtain⟨⟨o,rfl⟩,_⟩:=id h;exact hs D i x ys o H' hx' h
theorem zA2(h0:0<=n)(h1:n<1000000000)(hsrc:dR src σ = o0::tl)(Rel:Nat->V->Hp->Prop)(hs:∀D (i:Nat) ys o H1,i<n.toNat->gL H tl Rel D i ys (o::tl) H1->ig (gL H tl Rel) g tt te D i (.int (i:Int)) (o::tl) H1)
  (hd:∀D ys H',H D=none->ah H H'->H' D=some (.lst ys)->ys.length=n.toNat->(∀j y,ys[j]? = some y->Rel j y H')->Q (.ref D) H'):DQ g tt te src σ [.int n] H Q:=by
 refine Tu (by lia) h1 (gL H tl Rel) (λD H' n s e=>⟨⟨o0,hsrc⟩,n,s,e,rfl,λj y z=>by simp at z⟩) ?_ λD ys σ' H' ⟨_,n,s,e,hl,r⟩=>hd D ys H' n s e hl r
 rintro D i ys σ' H' hi h;obtain⟨⟨o,rfl⟩,_⟩:=id h;exact hs D i ys o H' hi h
theorem fK{xs:List Rat} : ∀(i:Nat)(v:V)(H1 H2:Hp),bG H1 H2->Is K H1 v (N (xs.getD i 0))->Is K H2 v (N (xs.getD i 0)):=λi v H1 H2 k h=>h.gg k
end
theorem jt{H H':Hp}{l:we}(s:ah H H')(h:H' l=none):H l=none:=by
 cases e:H l with
 | none=>rfl
 | some o=>rw[s _ _ e]at h;cases h
def TZ(ns:List Int):wC:=.tuple (ns.map PyData.int)
def LL(rss:List (List Rat)):wC:=.list (rss.map LN)
theorem OK:∀ns:List Int,ck (ns.map PyData.int)=true
 | []=>by simp[ck]
 | n::ns=>by rw[vd,ck,OK ns];rfl
theorem zCM(ns:List Int):di (TZ ns)=true:=by rw[TZ,di];exact OK ns
section
variable{K:wb}{H H' H2:Hp}{Q:VK}{v w y:V}{p l:we}{vs:List V}{ns:List Int}{rss:List (List Rat)}{m:Int}{σ : St}
theorem u_:∀{ns:List Int}{vs:List V},ak K H vs (ns.map PyData.int) ↔ vs=ns.map V.int
 | [],vs=>by rw[xl,gU];rfl
 | n::ns,vs=>by
  rw[vd,eD,vd]
  constructor
  ·rintro ⟨x,r,rfl,h,t⟩
   rw[bW.mp h,u_.mp t]
  ·rintro rfl
   exact⟨_,_,rfl,bW.mpr rfl,u_.mpr rfl⟩
theorem rL:Is K H v (TZ ns) ↔ ∃a,v=.ref a/\aU K H a (ns.map V.int):=by
 unfold TZ;rw[bX]
 constructor
 ·rintro ⟨a,xs,e,h,t⟩
  rw[u_.mp t]at h;exact⟨a,e,h⟩
 ·rintro ⟨a,e,h⟩
  exact⟨a,_,e,h,u_.mpr rfl⟩
theorem FW(h:Is K H v (TZ ns))(q:Q (.int ns.length) H):dj K [v] H Q:=lg h (by rw[wm];exact q)
theorem R8{i:Nat}(t:ak K H vs (rss.map LN))(h:i<rss.length):∃x,vs[i]? = some x/\Is K H x (LN (rss.getD i [])):=by
 refine t.get ?_;rw[wu,wa,wc h]
 rfl
theorem L6(h:Is K H v (LL rss))(h0:0<=m)(h1:m<rss.length)(q:∀x,Is K H x (LN (rss.getD m.toNat []))->Q x H):dw K v (.int m) H Q:=by
 obtain⟨a,vs,rfl,hs,t⟩:=cC.mp h;obtain⟨n,rfl⟩:∃n:Nat,m=(n:Int):=⟨m.toNat,by lia⟩;obtain⟨x,e,hx⟩:=R8 (i:=n) t (by lia);exact jb hs (kO e) (q x hx)
theorem ED{α : Type}{xs:List α}{x : α}(h:xs[xs.length-1]? = some x):iE xs (-1)=some x:=by
 have hl:0<xs.length:=by
  cases xs with
  | nil=>cases h
  | cons _ _=>simp
 unfold iE h_;rw[if_neg (by lia),if_pos (by lia)]
 show xs[((-1:Int)+(xs.length:Int)).toNat]? = some x
 rw[show((-1:Int)+(xs.length:Int)).toNat=xs.length-1 by lia];exact h
theorem zwr(h:Is K H v (LL rss))(h0:0<rss.length)(q:∀x,Is K H x (LN (rss.getD (rss.length-1) []))->Q x H):dw K v (.int (-1)) H Q:=by
 obtain⟨a,vs,rfl,hs,t⟩:=cC.mp h;have hl:=t.length;rw[wm]at hl;obtain⟨x,e,hx⟩:=R8 (i:=rss.length-1) t (by lia);rw[<- hl]at e;exact jb hs (ED e) (q x hx)
theorem Nq:∀{rss:List (List Rat)}{vs:List V},vs.length=rss.length->(∀i x,vs[i]? = some x->Is K H x (LN (rss.getD i [])))->ak K H vs (rss.map LN)
 | [],vs,hl,_=>by
  have:vs=[]:=Vm hl;subst this;exact .nil
 | x::xs,[],hl,_=>by cases hl
 | x::xs,u::vs,hl,h=>by
  rw[vd];exact .cons (h 0 u rfl) (Nq (by simpa using hl) λi y e=>h (i+1) y e)
end
def pf(K:wb):R2:=λx y H Q=>Rl K x y H Q \/ ∃a b ys,x=.ref a/\y=.ref b/\aU K H a []/\aU K H b ys/\Q (.ref b) H
theorem F6{X:Cx} : aN X (WC .Add) (pf X.K):=by
 intro pins s σ H x y v u Q I rx ry h;rcases h with h | ⟨a,b,ys,rfl,rfl,ha,hb,q⟩
 ·exact zBt pins s σ H x y v u Q I rx ry h
 ·cases rx
  cases ry;obtain⟨its,r1,p1,_⟩:=I.tuple ha;cases r1;obtain⟨its2,r2,p2,_⟩:=I.tuple hb;obtain⟨⟨cls,dd,data,sl⟩,ho,hc,n,hd⟩:=id p1;obtain⟨⟨cls2,dd2,data2,sl2⟩,ho2,hc2,n2,hd2⟩:=id p2;simp only at hc hd hc2 hd2;subst hc hd hc2 hd2;exact concat_meets ⟨_,ho,rfl⟩ ⟨_,ho2,rfl⟩ noFill_tuple_add seq_tuple_add Qr Qk (qW _ _) (tuple_addW0 a b _ its2.toArray n n2 dd dd2 sl sl2 rfl) ⟨ho,ho2,⟨.ref b,H,I,rfl,q⟩⟩
theorem CL{K:wb}{H:Hp}{Q:VK}{v w:V}{ds es:List wC}(h1:Is K H v (.tuple ds))(h2:Is K H w (.tuple es))(z:ds.length+es.length<=1000)(q:∀u H',ah H H'->Is K H' u (.tuple (ds++es))->Q u H'):pf K v w H Q:=by
 obtain⟨a,xs,rfl,ha,ta⟩:=bX.mp h1;obtain⟨b,ys,rfl,hb,tb⟩:=bX.mp h2;have la:=ta.length;have lb:=tb.length;cases xs with
 | nil =>
  obtain rfl:ds=[]:=Vm (by simpa using la.symm);exact .inr ⟨a,b,ys,rfl,rfl,ha,hb,q _ H (ah.refl _) h2⟩
 | cons x xs =>
  refine .inl ⟨a,b,x::xs,ys,rfl,rfl,ha,hb,by simp,Ve (jI (by lia)),λhy=>?_,λhy p hp=>?_⟩
  ·obtain rfl:es=[]:=Vm (by rw[hy]at lb;simpa using lb.symm)
   exact q _ H (ah.refl _) (by rw[Wh];exact h1)
  ·exact q _ _ (ah.upd hp) (bX.mpr ⟨p,_,rfl,.of cZ,(ak.same (ah.upd hp) _ _ ta).append (ak.same (ah.upd hp) _ _ tb)⟩)
theorem Inv.sv{X:Cx}{pins:List (we × Obj)}{σ : St}{H:Hp}{s:wl}{h':wG}{t':Nat}{ch:List we}(I:Inv X pins σ H s)(k:∀b o,b ∉ ch->s.heap.get? b=some o->h'.get? b=some o)(hf:∀b∈ch,eK X pins H b):Inv X pins σ H {s with heap:=h',toks:=t'}:=by
 have nit:∀b u,H b=some u->b ∉ ch:=λb u e z=>by rw[(hf b z).1]at e;cases e
 refine I.step (g':=s.gens) (d':=s.drawn) (ch:=ch) (λb hb=>⟨(hf b hb).2.2.2.1,(hf b hb).2.1,(hf b hb).2.2.2.2.1,(hf b hb).2.2.2.2.2⟩) (λb o _ _ hc e _=>k b o hc e)
  (λb o _ _ hc e _=>⟨o.slots,k b o hc e⟩) (λ_ _ _ _ n=>n) (λb o hc e=>⟨o,k b o hc e⟩) (λ_ _ e=>e) (λ_ _ _ e=>e) (λb ps e=>⟨#[],by rw[e];simp⟩) (λm hm=>?_) (λb u e=>?_) I.bare
 ·obtain⟨o,es,ep,ho,r⟩:=hm
  exact⟨o,es,ep,k _ o (λz=>(hf _ z).2.1 rfl) ho,r⟩
 ·refine(I.aI b u e).kE (λc v hc q=>k c v ?_ q) (λ_ q=>q) λ_ _ q=>q
  rcases hc with z | z
  ·rw[z];exact nit b u e
  ·exact nit c _ z
section
variable{prog:wI}{w:wJ}{A:vb}{E:wg->wl->Prop}{s:wl}
theorem zr1{it tu:we}{i:Nat}{its:Array wg}{x:wg}{Q:wg->wl->Prop}(ei:s.heap.IsTupleIter it tu i)(et:s.heap.IsTuple tu its)(ex:its[i]? = some x)
  (fin:∀h',h'.IsTupleIter it tu (i+1)->vv it s.heap h'->Q x {s with heap:=h'}):wx (model prog w) A (vJ (.ref it)) Q E s:=by
 obtain⟨ob,eo,ec,ed⟩:=id ei;obtain⟨ot,eot,_,nt,edt⟩:=et;unfold vJ;refine wf (wpAny_callSpecial?_slot (name:=vW "__next__") ei.typeIs VJ (Wd VJ ei.typeIs Q1 ?_ (QQ _)))
 show wx _ _ (field (.ref it) 0 >>= _) _ _ s;refine wf (vD eo ed (x:=.ref tu) rfl ?_)
 show wx _ _ (if(Value.ref tu == Value.none)=true then _ else _) _ _ s;rw[if_neg (show ¬ ((Value.ref tu == Value.none)=true)from vF)]
 show wx _ _ (field (.ref it) 1 >>= _) _ _ s;refine wf (vD eo ed (x:=.int i 0) rfl ?_)
 show wx _ _ (seqItems? (.ref tu) >>= _) _ _ s;refine wf (Wg eot edt ?_)
 simp only[wP,ex];refine wf (wpAny_setField eo ed (by simp) (wp ⟨x,rfl,wp (fin _ ?_ (qL ..))⟩));exact⟨_,VB _ eo (qD (qp ed _)),(X6 ..).trans ec,by rw[qp ed];simp[VS]⟩
theorem SX{it tu:we}{i:Nat}{its:Array wg}{Q:wg->wl->Prop}(hh:A.handled=none)(ei:s.heap.IsTupleIter it tu i)(et:s.heap.IsTuple tu its)(ex:its[i]? = none)
  (fin:∀h' e,Heap.ExtBut it s.heap h'->(∃o,h'.get? e=some o/\o.cls=.type "StopIteration")->E (.ref e) {s with heap:=h'}):wx (model prog w) A (vJ (.ref it)) Q E s:=by
 obtain⟨ob,eo,ec,ed⟩:=id ei;obtain⟨ot,eot,_,nt,edt⟩:=et;unfold vJ;refine wf (wpAny_callSpecial?_slot (name:=vW "__next__") ei.typeIs VJ (Wd VJ ei.typeIs Q1 ?_ (QQ _)))
 show wx _ _ (field (.ref it) 0 >>= _) _ _ s;refine wf (vD eo ed (x:=.ref tu) rfl ?_)
 show wx _ _ (if(Value.ref tu == Value.none)=true then _ else _) _ _ s;rw[if_neg (show ¬ ((Value.ref tu == Value.none)=true)from vF)]
 show wx _ _ (field (.ref it) 1 >>= _) _ _ s;refine wf (vD eo ed (x:=.int i 0) rfl ?_)
 show wx _ _ (seqItems? (.ref tu) >>= _) _ _ s;refine wf (Wg eot edt ?_)
 simp only[wP,ex];refine wf (wpAny_rule (wf (wpAny_setField eo ed (by simp) ?_)))
 show wx _ _ (newExc (.type "StopIteration") [] >>= _) _ _ _;refine wf ?_;simp only[newExc,newTuple]
 refine wf (WH ?_ (by size_fits));refine wf (m:=firstArgMember _ _) (wpAny_of_eq (a:=Value.none) (by first | rfl | (simp only[firstArgMember];rfl)) ?_);refine WH ?_ (by size_fits);simp only[raiseNew];refine wf (wpAny_handled ?_)
 first | rw[hh] | rw[show A.in1.handled=none from hh]
 exact wf (wp (wpAny_throw (fin _ _ (((qL ..).extBut.push _).push _) ⟨_,wN _ rfl,rfl⟩)))
theorem jA(hh:A.handled=none)(it tu:we)(hne:tu≠it)(its:Array wg):Draws prog w A it [it,tu] its.size (λi v=>its[i]? = some v) (λi h=>h.IsTupleIter it tu i/\h.IsTuple tu its) where
 live:=λ_ _ st=>let ⟨o,ho,_⟩:=st.1;⟨o,ho⟩
 frame:=λ_ _ _ st hk=>⟨st.1.at λo e=>hk it (by simp) o e,st.2.at λo e=>hk tu (by simp) o e⟩
 item:=λi s Q E hi st hQ=>zr1 st.1 st.2 (x:=its[i]) (by simp[hi]) λh' hit' hs'=>hQ _ h' s.toks (by simp[hi]) ⟨hit',st.2.extBut hs'.extBut hne⟩ hs'
 done:=λs Q E st hE=>SX hh st.1 st.2 (by simp) hE
open AutoSeq1 (wpAny_loadPart') in
theorem Z0(tu:we)(its:Array wg)(n:Nat)(dct:Option we)(sl:Array (Option wg)):Meets (Builtin.«enumerate.__new__» ⟨[.type "enumerate",.ref tu],[]⟩) (λ_ R s=>s.heap.get? tu=some {cls:=.type "tuple",dict:=dct,data:=.seq its n,slots:=sl} /\
  R (.ok (.ret (.ref (s.heap.push {cls:=.type "tuple_iterator",data:=.fields #[.ref tu,.int 0 0]}).objs.size))) {s with heap:=(s.heap.push {cls:=.type "tuple_iterator",data:=.fields #[.ref tu,.int 0 0]}).push {cls:=.type "enumerate",data:=.fields #[.none,.bool false,.ref s.heap.objs.size,VS 0,.none,.none]}}) :=
 .of_wp λprog w A R s h=>by
  obtain⟨hp,g,d,tk,os⟩:=s;obtain⟨et,h⟩:=h;have hsub:=sub_enumerate;have hT:XM (uf ⟨hp,g,d,tk,os⟩) tu its:=⟨_,et,rfl,n,rfl⟩
  wp_walk using wpAny_loadPart' et
  refine wpAny_stack_any λst=>wp ?_
  split
  ·rename_i c _ _ _ _ _
   cases (c == Value.type "enumerate")<;>(wp_walk using wpAny_loadPart' et,Vc hT;exact⟨_,rfl,h⟩)
  ·wp_walk using wpAny_loadPart' et,Vc hT
   exact⟨_,rfl,h⟩
theorem ztF{tu:we}{its:Array wg}{Q:wg->wl->Prop}(hT:s.heap.IsTuple tu its)(fin:∀h',IsEnum h' (s.heap.objs.size+1) s.heap.objs.size 0 .none->h'.IsTupleIter s.heap.objs.size tu 0->(∀b o,s.heap.get? b=some o->h'.get? b=some o)->Q (.ref (s.heap.objs.size+1)) {s with heap:=h'}) :
  wx (model prog w) A (call (.type "enumerate") [.ref tu]) Q E s:=by
 obtain⟨⟨c,dct,dt,sl⟩,et,hc,n,hd⟩:=hT;obtain rfl:c=.type "tuple":=hc;obtain rfl:dt=.seq its n:=hd;refine callType_new F.called_enumerate (by decide) (F.typeCall_enumerate_1 _) (F.newCall_enumerate_1 _) (λobj=>F.args_object_init_2 obj _) F.entry_enumerate_new (Z0 tu its n dct sl) ⟨et,?_⟩;have hz:(s.heap.push {cls:=.type "tuple_iterator",data:=.fields #[.ref tu,.int 0 0]}).objs.size=s.heap.objs.size+1:=V1 ..
 show _/\_
 rw[hz]
 have he:IsEnum ((s.heap.push {cls:=.type "tuple_iterator",data:=.fields #[.ref tu,.int 0 0]}).push {cls:=.type "enumerate",data:=.fields #[.none,.bool false,.ref s.heap.objs.size,VS 0,.none,.none]}) (s.heap.objs.size+1) s.heap.objs.size 0 .none:=by
  rw[<- hz];exact wN _ rfl
 exact⟨⟨_,he,rfl⟩,fin _ he ⟨_,wn _ (wN _ rfl),rfl,rfl⟩ λb o x=>wn _ (wn _ x)⟩
end
def oE(K:wb)(a:we):It :=
 ⟨λi H=>∃xs x,aU K H a xs/\xs[i]? = some x,λi H y H'=>∃t x,y=.ref t/\H t=none/\(∀xs,aU K H a xs->xs[i]? = some x)/\H'=upd H t (.tup [.int (i:Int),x]),λi H=>∃xs,aU K H a xs/\xs.length<=i⟩
theorem zuG{P:wI}{w:wJ}{K:wb}{elts:List Expr}{k1}{tpos:Pos}(a e it:we)(hne:e≠it):jK P w K (.Tuple elts k1 tpos) (oE K a) [e,it] e (λi h=>(∃old,IsEnum h e it (i:Int) old)/\h.IsTupleIter it a i) where
 mem:=by simp
 obj:=λi h st b hb=>by
  obtain⟨⟨old,he⟩,o,eo,c,d⟩:=st;rcases wF.mp hb with rfl | hb
  ·exact⟨_,he,λv z=>by cases (show Data.fields _=Data.cell v from z)⟩
  ·rw[w6.mp hb]
   exact⟨o,eo,λv z=>by rw[d]at z;cases z⟩
 keep:=λi h h' st k=>⟨let ⟨old,he⟩:=st.1;⟨old,k e (by simp) _ he⟩,st.2.at λo eo=>k it (by simp) o eo⟩
 item:=by
  intro X hP hw hK hc i pins s σ H E I hf st hg;subst hP hw hK;obtain⟨⟨old,he⟩,st⟩:=st;obtain⟨xs,x,hq,hx⟩:=hg;obtain⟨its,rv,p,hz⟩:=I.tuple hq;obtain⟨u,hu,ru⟩:=rv.get hx;have p':s.heap.IsTuple a its.toArray:=p
  have hai:a≠it:=λz=>by
   subst z;obtain⟨o,e1,c1,_⟩:=st;obtain⟨o',e2,c2,_⟩:=p';rw[e1]at e2;cases e2;rw[c1]at c2;exact absurd c2 (by decide)
  have hae:e≠a:=λz=>by
   subst z;obtain⟨o',e2,c2,_⟩:=p';rw[he]at e2;cases e2;exact absurd (show Value.type "enumerate"=Value.type "tuple" from c2) (by decide)
  have hlt:i<its.toArray.size:=by
   rcases wA i its.length with z | z
   ·simpa using z
   ·rw[wL z]at hu;cases hu
  refine wpAny_pyNext_enum_itemD (jA (A:=X.A.in1) (I.ok.hd hc) it a hai its.toArray) he ⟨st,p'⟩ hlt hne (by simp[hne,hae]) λv h1 tk hv ho hs1 hT hsz hk=>?_
  have hvu:v=u:=by
   have hv':its[i]? = some v:=by simpa using hv
   rw[hu]at hv';exact(wM hv').symm
  subst hvu
  have I1:Inv X pins σ (upd H s.heap.objs.size (.tup [.int (i:Int),x])) {s with heap:=s.heap.push {cls:=.type "tuple",data:=.seq ([.int (i:Int) tk,v]:List wg).toArray},toks:=tk+1} :=
   I.laid (λb o q=>wn _ q) (wo _) (show dN X.prog X.w _ _ _ (.tup [.int (i:Int),x])from⟨n_ (by simp),_,.cons ⟨_,rfl⟩ (.cons ru .nil),Qx _ _⟩)
  have lt1:∀b∈[e,it],b<s.heap.objs.size:=λb hb=>by
   rcases wF.mp hb with rfl | hb
   ·exact wD he
   ·rw[w6.mp hb]
    obtain⟨o,eo,_⟩:=st;exact wD eo
  have hf1:∀b∈[e,it],eK X pins (upd H s.heap.objs.size (.tup [.int (i:Int),x])) b:=λb hb=>⟨by rw[eF (wQ (lt1 b hb))];exact(hf b hb).1,(hf b hb).2⟩
  refine⟨_,rfl,wpAny_letOwnedTupleGo_enum ho λh2 he2 hs2=>?_⟩;refine⟨.ref s.heap.objs.size,_,Inv.sv (s:={s with heap:=s.heap.push {cls:=.type "tuple",data:=.seq ([.int (i:Int) tk,v]:List wg).toArray},toks:=tk+1}) (ch:=[e,it]) I1 (λb o hb q=>?_) hf1,rfl,⟨_,x,rfl,I.aI.fresh (wo _),λys hy=>by rw[I.A1 hy hq];exact hx,rfl⟩,⟨⟨_,by simpa using he2⟩,hs1.1.at λo eo=>(hs2.2 it (WE hne)).trans eo⟩,λb hb=>(hf1 b hb).1⟩;have hbe:b≠e:=λz=>hb (by simp[z])
  have hbi:b≠it:=λz=>hb (by simp[z])
  refine(hs2.2 b hbe).trans ?_
  by_cases hb2:b=s.heap.objs.size
  ·subst hb2
   rw[wN _ rfl]at q;cases q;exact hT
  ·exact hk b o hbe hbi (by rw[Q9 _ _ _ hb2]at q;exact q)
 done:=by
  intro X hP hw hK hc i pins s σ H E I hf st hg;subst hP hw hK;obtain⟨⟨old,he⟩,st⟩:=st;obtain⟨xs,hq,hx⟩:=hg;obtain⟨its,rv,p,hz⟩:=I.tuple hq;have p':s.heap.IsTuple a its.toArray:=p
  have hai:a≠it:=λz=>by
   subst z;obtain⟨o,e1,c1,_⟩:=st;obtain⟨o',e2,c2,_⟩:=p';rw[e1]at e2;cases e2;rw[c1]at c2;exact absurd c2 (by decide)
  have hl:=rv.length;have hT:s.TypeIs (.ref e) "enumerate":=⟨_,he,rfl⟩;unfold VR;refine wf (VL (wpAny_callSpecial?_slot (name:=vW "__next__") hT qE (Wd qE hT xS ?_ (xw _))))
  show wx _ _ (field (.ref e) 2 >>= _) _ _ _;refine wf (vD he rfl (x:=.ref it) rfl ?_)
  refine wf (SX (A:=X.A.in1) (I.ok.hd hc) st p' (by simp;lia) λh' y he' hx'=>?_);obtain⟨o,ho,hcl⟩:=hx';refine wf (Vr (T:="StopIteration") (b:=true) ⟨o,ho,hcl⟩ isSubtype_stop (wp ⟨rfl,?_⟩));obtain⟨f0,f1,f2,f3,f4,f5⟩:=hf it (by simp);exact I.turned (t':=s.toks) (λb o hb e=>he' b o hb e) f0 f1 f3 f4 f5
 self:=λ_ _ _ _ _ st h=>let ⟨_,he⟩:=st.1;wpAny_pyIter_enum he h
def Dz(K:wb)(ta:TA):TI:=λσ H R=>ta σ H λvs H1=>∃a,vs=[.ref a]/\(∃xs,aU K H1 a xs)/\R (oE K a) H1
theorem W_:vN "enumerate"=some (.type "enumerate"):=by decide +kernel
theorem O9{X:Cx}{elts:List Expr}{k1}{tpos p pos:Pos}{l:Expr}{ta:TA}(hg:Gl X "enumerate")(hm:X.mg "enumerate"=none)(ha:PA X [l] ta)(hs:w5 [l] X.env=[(false,eval l X.env)]:=by rfl) :
  PI X (.Tuple elts k1 tpos) (.Call (.Name "enumerate" p) [l] [] pos) (Dz X.K ta):=by
 intro pins s σ H R I h;refine Call_ (gP I hg hm W_ (vB (aK (ha pos pins s σ H _ I h) λus s1 ⟨vs,H1,I1,r1,q1⟩=>?_) hs rfl));obtain⟨a,rfl,⟨xs,hq⟩,q⟩:=q1;obtain⟨u,rfl,ru⟩:=gK r1;cases ru;obtain⟨its,rv,p,hz⟩:=I1.tuple hq;refine ztF (show s1.heap.IsTuple a its.toArray from p) λh' he hit kp=>?_
 refine wpAny_pyIter_enum he ?_;refine⟨s1.heap.objs.size+1,[s1.heap.objs.size+1,s1.heap.objs.size],_,_,H1,rfl,I1.kept (t':=s1.toks) kp,zuG a (s1.heap.objs.size+1) s1.heap.objs.size (uz _),⟨⟨_,he⟩,hit⟩,λb hb=>?_,q⟩
 have hb':s1.heap.objs.size<=b:=by
  rcases wF.mp hb with rfl | hb
  ·lia
  ·rw[w6.mp hb];exact wo _
 exact I1.jM hb' (I1.aI.fresh hb')
def Pl(K:wb)(g:TG)(tb:TS)(D:cv)(σ : St)(vs:List V)(H1:Hp):Prop:=∃a,vs=[.ref a]/\(∃xs,aU K H1 a xs) /\
 ∃W:Nat->Nat->St->Hp->Prop,(∃m,W 0 m σ H1) /\ ∀i m σ H,W i m σ H ->
  ((oE K a).stop i H/\D.nx σ H)\/((oE K a).go i H /\ ∃M:St->Hp->Prop,(∀σ' H',M σ' H'->∃m',m'<m/\W (i+1) m' σ' H') /\ ∀x H',(oE K a).fD i H x H'->g x σ H' λσ2 H2=>tb {D with nx:=M,ct:=M,bk:=D.nx} σ2 H2)
section
variable{K:wb}{ta:TA}{g:TG}{tb:TS}{D:cv}{σ : St}{H:Hp}{a:we}{xs:List V}
theorem zBG(h:ta σ H λvs H1=>Pl K g tb D σ vs H1):lW (Dz K ta) g tb D σ H:=h
theorem zxk(hx:aU K H a xs)(Pv:Nat->St->Hp->Prop)(h0:Pv 0 σ H)(hl:∀i σ H,i<=xs.length->Pv i σ H->aU K H a xs)
  (hs:∀i x σ H t H',xs[i]? = some x->Pv i σ H->H t=none->ah H H'->H' t=some (.tup [.int (i:Int),x])->g (.ref t) σ H' λσ2 H2=>tb {D with nx:=Pv (i+1),ct:=Pv (i+1),bk:=D.nx} σ2 H2) (hd:∀σ H,Pv xs.length σ H->D.nx σ H):Pl K g tb D σ [.ref a] H:=by
 refine⟨a,rfl,⟨xs,hx⟩,λi m σ H=>i+m=xs.length/\Pv i σ H,⟨xs.length,by lia,h0⟩,?_⟩;rintro i m σ H ⟨him,hp⟩;have hq:=hl i σ H (by lia) hp
 by_cases hm:m=0
 ·have e:i=xs.length:=by lia
  subst e;exact .inl ⟨⟨xs,hq,wo _⟩,hd _ _ hp⟩
 ·have hi:i<xs.length:=by lia
  refine .inr ⟨⟨xs,xs[i],hq,by simp[hi]⟩,λσ' H'=>Pv (i+1) σ' H',λσ' H' h=>⟨m-1,by lia,by lia,h⟩,?_⟩;rintro y H' ⟨t,x,rfl,hn,hx',rfl⟩;exact hs i x σ H t _ (hx' xs hq) hp hn (ah.upd hn) cZ
end
structure ZA(z TI TO i1 i2:we)(f1 f2:List we):Prop where
 a1:TI≠z
 a2:TO≠z
 a3:i1≠z
 a4:i2≠z
 a5:TI≠TO
 a6:TI≠i1
 a7:TI≠i2
 a8:TO≠i1
 a9:TO≠i2
 b0:i1≠i2
 b1:z ∉ f1
 b2:z ∉ f2
 b3:TO ∉ f1
 b4:TO ∉ f2
 b5:i1 ∉ f2
 b6:i2 ∉ f1
section
variable{prog:wI}{w:wJ}{A:vb}{E:wg->wl->Prop}{s:wl}{z TI TO i1 i2:we}{f1 f2:List we}{n1 n2 k:Nat}{P1 P2:Nat->wg->Prop}{S1 S2:Nat->wG->Prop}{a b:wg}
theorem Kj{Q:wg->wl->Prop}(D1:Draws prog w A i1 f1 n1 P1 S1)(D2:Draws prog w A i2 f2 n2 P2 S2)(ap:ZA z TI TO i1 i2 f1 f2)(hz:IsZip s.heap z TI TO .none)(hi:Wz s.heap TI (.ref i1) (.ref i2))(ho:Wz s.heap TO a b)
  (h1:S1 k s.heap) (h2:S2 k s.heap) (l1:k<n1) (l2:k<n2)
  (fin:∀x y h' tk,P1 k x->P2 k y->IsZip h' z TI TO (VS s.heap.objs.size)->Wz h' TO x y->S1 (k+1) h'->S2 (k+1) h'->Wz h' s.heap.objs.size x y ->
   (∀c o,c≠z->c≠TO->c≠i1->c≠i2->s.heap.get? c=some o->h'.get? c=some o)->Q (.ref s.heap.objs.size) {s with heap:=h',toks:=tk}) :
  wx (model prog w) A (Builtin.«zip.__next__» ⟨[.ref z],[]⟩) (λr s'=>∃v,r=.done (.ret v)/\Q v s') E s:=by
 show wx _ _ (field (.ref z) 2 >>= _) _ _ _;refine wf (vD hz rfl (x:=.bool false) rfl ?_)
 show wx _ _ (field (.ref z) 3 >>= _) _ _ _;refine wf (vD hz rfl (x:=.ref TI) rfl ?_)
 refine wf (Wg hi rfl ?_);show wx _ _ (vG (.ref z) >>= _) _ _ _
 refine wf ?_;unfold vG;refine wf (vD hz rfl (x:=.none) rfl (wp ?_));simp only[if_true];refine wf (wpAny_rule ?_);refine wf (vD hz rfl (x:=.ref TO) rfl ?_);refine wf (Vd hz (by simp) λg1 zz1 sb1=>?_);have zz1:IsZip g1 z TI TO .ellipsis:=zz1;refine wf ?_;simp only[uA,uP,qR,QR];refine wf (wf (wpAny_onRaise ?_));show wx _ _ (vJ (.ref i1) >>= _) _ _ _
 have h1a:S1 k g1:=D1.frame _ _ _ h1 λc hc o e=>sb1.extBut c o (λq=>ap.b1 (q ▸ hc)) e
 have h2a:S2 k g1:=D2.frame _ _ _ h2 λc hc o e=>sb1.extBut c o (λq=>ap.b2 (q ▸ hc)) e
 refine wf (D1.item k _ _ _ l1 h1a λx g2 t2 px h1b sb2=>wp ?_);have ho2:Wz g2 TO a b:=sb2.extBut _ _ ap.a8 (sb1.extBut _ _ ap.a2 ho);have h2b:S2 k g2:=D2.frame _ _ _ h2a λc hc o e=>sb2.extBut c o (λq=>ap.b5 (q ▸ hc)) e
 refine wf (Wg ho2 rfl ?_);refine wf (wpAny_updateSeq_pair ho2 λg3 ho3 sb3=>?_);have ho3:Wz g3 TO x b:=ho3;have sb3:vv TO g2 g3:=sb3;have h1c:S1 (k+1) g3:=D1.frame _ _ _ h1b λc hc o e=>sb3.extBut c o (λq=>ap.b3 (q ▸ hc)) e
 have h2c:S2 k g3:=D2.frame _ _ _ h2b λc hc o e=>sb3.extBut c o (λq=>ap.b4 (q ▸ hc)) e
 refine wf (wpAny_letGo (wp ?_));refine wf (wf (wpAny_onRaise ?_))
 show wx _ _ (vJ (.ref i2) >>= _) _ _ _;refine wf (D2.item k _ _ _ l2 h2c λy g4 t4 py h2d sb4=>wp ?_)
 have sb4:vv i2 g3 g4:=sb4;have ho4:Wz g4 TO x b:=sb4.extBut _ _ ap.a9 ho3;have h1d:S1 (k+1) g4:=D1.frame _ _ _ h1c λc hc o e=>sb4.extBut c o (λq=>ap.b6 (q ▸ hc)) e
 refine wf (Wg ho4 rfl ?_);refine wf (wpAny_updateSeq_pair ho4 λg5 ho5 sb5=>?_);have ho5:Wz g5 TO x y:=ho5;have sb5:vv TO g4 g5:=sb5;have h1e:S1 (k+1) g5:=D1.frame _ _ _ h1d λc hc o e=>sb5.extBut c o (λq=>ap.b3 (q ▸ hc)) e
 have h2e:S2 (k+1) g5:=D2.frame _ _ _ h2d λc hc o e=>sb5.extBut c o (λq=>ap.b4 (q ▸ hc)) e
 refine wf (wpAny_letGo (wp (wp ?_)));refine wf (Wg ho5 rfl ?_);refine wf (wpAny_newTuple ?_);have sb2:vv i1 g1 g2:=sb2;have sb1:vv z s.heap g1:=sb1;have hsz:g5.objs.size=s.heap.objs.size:=by rw[sb5.1,sb4.1,sb3.1,sb2.1,sb1.1]
 have zz5:IsZip g5 z TI TO .ellipsis:=sb5.extBut _ _ ap.a2.symm (sb4.extBut _ _ ap.a4.symm (sb3.extBut _ _ ap.a2.symm (sb2.extBut _ _ ap.a3.symm zz1)));have kept:∀c o,c≠z->c≠TO->c≠i1->c≠i2->s.heap.get? c=some o->g5.get? c=some o:=λc o c1 c2 c3 c4 e=>sb5.extBut _ _ c2 (sb4.extBut _ _ c4 (sb3.extBut _ _ c2 (sb2.extBut _ _ c3 (sb1.extBut _ _ c1 e))))
 have zlt:z<g5.objs.size:=wD zz5
 show wx _ _ (Qc (.ref z) (.ref g5.objs.size) >>= _) _ _ _;refine wf ?_;unfold Qc
 have zz6:IsZip (g5.push {cls:=.type "tuple",data:=.seq #[x,y]}) z TI TO .ellipsis:=wn _ zz5;refine wf (Vd zz6 (by simp) λg7 zz7 sb7=>?_);have zz7:IsZip g7 z TI TO (VS g5.objs.size):=zz7;refine Vd zz7 (by simp) λg8 zz8 sb8=>?_
 have zz8:IsZip g8 z TI TO (VS g5.objs.size):=zz8;have sb7:vv z (g5.push {cls:=.type "tuple",data:=.seq #[x,y]}) g7:=sb7;have sb8:vv z g7 g8:=sb8;have up:∀c o,c≠z->g5.get? c=some o->g8.get? c=some o:=λc o c1 e=>sb8.extBut _ _ c1 (sb7.extBut _ _ c1 (wn _ e))
 have new8:Wz g8 g5.objs.size x y:=sb8.extBut _ _ (vn zlt) (sb7.extBut _ _ (vn zlt) (wN _ rfl));rw[hsz]at zz8 new8;refine wp ⟨_,rfl,?_⟩
 show Q (.ref g5.objs.size) _
 rw[hsz];exact fin x y g8 _ px py zz8 (up _ _ ap.a2 ho5) (D1.frame _ _ _ h1e λc hc o e=>up c o (λq=>ap.b1 (q ▸ hc)) e) (D2.frame _ _ _ h2e λc hc o e=>up c o (λq=>ap.b2 (q ▸ hc)) e) new8 λc o c1 c2 c3 c4 e=>up c o c1 (kept c o c1 c2 c3 c4 e)
theorem Km{Q:Fin->wl->Prop}(D1:Draws prog w A i1 f1 n1 P1 S1)(D2:Draws prog w A i2 f2 n2 P2 S2)(ap:ZA z TI TO i1 i2 f1 f2)(hz:IsZip s.heap z TI TO .none)(hi:Wz s.heap TI (.ref i1) (.ref i2))(ho:Wz s.heap TO a b)
  (h1:S1 k s.heap) (h2:S2 k s.heap) (hk:k=n1\/(k<n1/\k=n2))
  (fin:∀h' e tk,(∀c o,c≠z->c≠TO->c≠i1->c≠i2->s.heap.get? c=some o->h'.get? c=some o)->(∃o,h'.get? e=some o/\o.cls=.type "StopIteration")->E (.ref e) {s with heap:=h',toks:=tk}) :
  wx (model prog w) A (Builtin.«zip.__next__» ⟨[.ref z],[]⟩) Q E s:=by
 show wx _ _ (field (.ref z) 2 >>= _) _ _ _;refine wf (vD hz rfl (x:=.bool false) rfl ?_)
 show wx _ _ (field (.ref z) 3 >>= _) _ _ _;refine wf (vD hz rfl (x:=.ref TI) rfl ?_)
 refine wf (Wg hi rfl ?_);show wx _ _ (vG (.ref z) >>= _) _ _ _
 refine wf ?_;unfold vG;refine wf (vD hz rfl (x:=.none) rfl (wp ?_));simp only[if_true];refine wf (wpAny_rule ?_);refine wf (vD hz rfl (x:=.ref TO) rfl ?_);refine wf (Vd hz (by simp) λg1 zz1 sb1=>?_);have zz1:IsZip g1 z TI TO .ellipsis:=zz1;have sb1:vv z s.heap g1:=sb1;refine wf ?_;simp only[uA,uP,qR,QR];refine wf (wf (wpAny_onRaise ?_));show wx _ _ (vJ (.ref i1) >>= _) _ _ _
 have h1a:S1 k g1:=D1.frame _ _ _ h1 λc hc o e=>sb1.extBut c o (λq=>ap.b1 (q ▸ hc)) e
 have h2a:S2 k g1:=D2.frame _ _ _ h2 λc hc o e=>sb1.extBut c o (λq=>ap.b2 (q ▸ hc)) e
 rcases hk with rfl | ⟨l1,rfl⟩
 ·refine wf (D1.done _ _ _ h1a λg2 e sb2 he=>?_)
  obtain⟨oe,hoe,hce⟩:=he;have zz2:IsZip g2 z TI TO .ellipsis:=sb2 _ _ ap.a3.symm zz1;have hez:e≠z:=λq=>by subst q;rw[zz2]at hoe;cases hoe;simp at hce
  exact Vd zz2 (by simp) λg3 _ sb3=>fin g3 e _ (λc o c1 _ c3 _ q=>sb3.extBut _ _ c1 (sb2 _ _ c3 (sb1.extBut _ _ c1 q))) ⟨oe,sb3.extBut _ _ hez hoe,hce⟩
 ·refine wf (D1.item k _ _ _ l1 h1a λx g2 t2 px h1b sb2=>wp ?_)
  have sb2:vv i1 g1 g2:=sb2;have ho2:Wz g2 TO a b:=sb2.extBut _ _ ap.a8 (sb1.extBut _ _ ap.a2 ho);have h2b:S2 k g2:=D2.frame _ _ _ h2a λc hc o e=>sb2.extBut c o (λq=>ap.b5 (q ▸ hc)) e
  refine wf (Wg ho2 rfl ?_);refine wf (wpAny_updateSeq_pair ho2 λg3 ho3 sb3=>?_);have sb3:vv TO g2 g3:=sb3;have h2c:S2 k g3:=D2.frame _ _ _ h2b λc hc o e=>sb3.extBut c o (λq=>ap.b4 (q ▸ hc)) e
  refine wf (wpAny_letGo (wp ?_));refine wf (wf (wpAny_onRaise ?_))
  show wx _ _ (vJ (.ref i2) >>= _) _ _ _;refine wf (D2.done _ _ _ h2c λg4 e sb4 he=>?_)
  obtain⟨oe,hoe,hce⟩:=he;have zz4:IsZip g4 z TI TO .ellipsis:=sb4 _ _ ap.a4.symm (sb3.extBut _ _ ap.a2.symm (sb2.extBut _ _ ap.a3.symm zz1));have hez:e≠z:=λq=>by subst q;rw[zz4]at hoe;cases hoe;simp at hce
  exact Vd zz4 (by simp) λg5 _ sb5=>fin g5 e _ (λc o c1 c2 c3 c4 q=>sb5.extBut _ _ c1 (sb4 _ _ c4 (sb3.extBut _ _ c2 (sb2.extBut _ _ c3 (sb1.extBut _ _ c1 q))))) ⟨oe,sb5.extBut _ _ hez hoe,hce⟩
end
variable{t:Bool}{a:we}
def dg(t:Bool)(K:wb)(H:Hp)(a:we)(xs:List V):Prop:=match t with
 | true=>aU K H a xs
 | false=>aO K H a xs
def ji(t:Bool)(h:wG)(it a:we)(i:Nat):Prop:=match t with
 | true=>h.IsTupleIter it a i
 | false=>h.IsListIter it a i
def Ro(t:Bool)(h:wG)(a:we)(its:Array wg):Prop:=match t with
 | true=>h.IsTuple a its
 | false=>h.IsList a its
theorem oO{prog:wI}{w:wJ}{A:vb}(t:Bool)(hh:A.handled=none)(it a:we)(hne:a≠it)(its:Array wg):Draws prog w A it [it,a] its.size (λi v=>its[i]? = some v) (λi h=>ji t h it a i/\Ro t h a its):=by
 cases t
 ·exact Draws.list hh it a hne its
 ·exact jA hh it a hne its
theorem Inv.jc{X:Cx}{pins:List (we × Obj)}{σ : L2.St}{H:Hp}{s:wl}{xs:List V}(I:Inv X pins σ H s)(h:dg t X.K H a xs):∃its:List wg,aT xs its/\Ro t s.heap a its.toArray:=by
 cases t
 ·obtain⟨its,r,p,_⟩:=I.list h
  exact⟨its,r,p.isList⟩
 ·obtain⟨its,r,p,_⟩:=I.tuple h
  exact⟨its,r,p⟩
theorem Inv.JA{X:Cx}{pins:List (we × Obj)}{σ : L2.St}{H:Hp}{s:wl}{xs ys:List V}(I:Inv X pins σ H s)(h:dg t X.K H a xs)(k:dg t X.K H a ys):xs=ys:=by
 cases t
 ·exact I.A4 h k
 ·exact I.A1 h k
theorem ji.obj{h:wG}{it:we}{i:Nat}(st:ji t h it a i):∃o,h.get? it=some o /\ ∀v,o.data≠.cell v:=by
 cases t
 ·obtain⟨o,e,_,d⟩:=st
  exact⟨o,e,λv z=>by rw[d]at z;cases z⟩
 ·obtain⟨o,e,_,d⟩:=st
  exact⟨o,e,λv z=>by rw[d]at z;cases z⟩
theorem ji.at{h h':wG}{it:we}{i:Nat}(st:ji t h it a i)(k:∀o,h.get? it=some o->h'.get? it=some o):ji t h' it a i:=by
 cases t
 ·exact Heap.IsListIter.at st k
 ·exact Heap.IsTupleIter.at st k
def l8(t u:Bool)(K:wb)(a b:we):It :=
 ⟨λi H=>∃xs x ys y,dg t K H a xs/\xs[i]? = some x/\dg u K H b ys/\ys[i]? = some y,
  λi H v H'=>∃(c:we)(x y:V),v=.ref c/\H c=none/\(∀xs,dg t K H a xs->xs[i]? = some x)/\(∀ys,dg u K H b ys->ys[i]? = some y)/\H'=upd H c (.tup [x,y]),
  λi H=>∃xs ys,dg t K H a xs/\dg u K H b ys/\(xs.length=i\/(i<xs.length/\ys.length=i))⟩
theorem zy9{P:wI}{w:wJ}{K:wb}{elts:List Expr}{k1}{tpos:Pos}{u:Bool}(a b z TI TO i1 i2:we)(ap:ZA z TI TO i1 i2 [i1,a] [i2,b])(na:a≠i1)(nb:b≠i2) :
  jK P w K (.Tuple elts k1 tpos) (l8 t u K a b) [z,TI,TO,i1,i2] z (λi h=>IsZip h z TI TO .none/\Wz h TI (.ref i1) (.ref i2)/\(∃p q,Wz h TO p q)/\ji t h i1 a i/\ji u h i2 b i) where
 mem:=by simp
 obj:=λi h st c hc=>by
  obtain⟨hz,hi,⟨p,q,ho⟩,s1,s2⟩:=st;simp only[wF,WA,or_false]at hc;rcases hc with rfl | rfl | rfl | rfl | rfl
  ·exact⟨_,hz,λv z=>by cases (show Data.fields _=Data.cell v from z)⟩
  ·exact⟨_,hi,λv z=>by cases (show Data.seq _ _=Data.cell v from z)⟩
  ·exact⟨_,ho,λv z=>by cases (show Data.seq _ _=Data.cell v from z)⟩
  ·exact s1.obj
  ·exact s2.obj
 keep:=λi h h' st k=>by
  obtain⟨hz,hi,⟨p,q,ho⟩,s1,s2⟩:=st;exact⟨k z (by simp) _ hz,k TI (by simp) _ hi,⟨p,q,k TO (by simp) _ ho⟩,s1.at λo e=>k i1 (by simp) o e,s2.at λo e=>k i2 (by simp) o e⟩
 item:=by
  intro X hP hw hK hc i pins s σ H E I hf st hg;subst hP hw hK;obtain⟨hz,hi,⟨p,q,ho⟩,s1,s2⟩:=st;obtain⟨xs,x,ys,y,hq1,hx,hq2,hy⟩:=hg;obtain⟨its,r1,p1⟩:=I.jc hq1;obtain⟨jts,r2,p2⟩:=I.jc hq2;obtain⟨ux,hux,rux⟩:=r1.get hx;obtain⟨uy,huy,ruy⟩:=r2.get hy
  have lt1:i<its.toArray.size:=by
   rcases wA i its.length with q | q
   ·simpa using q
   ·rw[wL q]at hux;cases hux
  have lt2:i<jts.toArray.size:=by
   rcases wA i jts.length with q | q
   ·simpa using q
   ·rw[wL q]at huy;cases huy
  have hT:s.TypeIs (.ref z) "zip":=⟨_,hz,rfl⟩;unfold VR
  refine wf (VL (wpAny_callSpecial?_slot (name:=vW "__next__") hT Wp (Wd Wp hT qa
   (Kj (oO (A:=X.A.in1) t (I.ok.hd hc) i1 a na its.toArray) (oO (A:=X.A.in1) u (I.ok.hd hc) i2 b nb jts.toArray) ap hz hi ho ⟨s1,p1⟩ ⟨s2,p2⟩ lt1 lt2 λv1 v2 h1 tk e1 e2 hz1 ho1 st1 st2 hT1 hk=>wp ?_) (VP _))))
  have ev1:v1=ux:=by
   have e1':its[i]? = some v1:=by simpa using e1
   rw[hux]at e1';exact(wM e1').symm
  have ev2:v2=uy:=by
   have e2':jts[i]? = some v2:=by simpa using e2
   rw[huy]at e2';exact(wM e2').symm
  subst ev1 ev2
  have I1:Inv X pins σ (upd H s.heap.objs.size (.tup [x,y])) {s with heap:=s.heap.push {cls:=.type "tuple",data:=.seq ([v1,v2]:List wg).toArray},toks:=tk} :=
   I.laid (λc o q=>wn _ q) (wo _) (show dN X.prog X.w _ _ _ (.tup [x,y])from⟨n_ (by simp),_,.cons rux (.cons ruy .nil),Qx _ _⟩)
  have ltf:∀c∈[z,TI,TO,i1,i2],c<s.heap.objs.size:=λc hc=>by
   simp only[wF,WA,or_false]at hc;rcases hc with rfl | rfl | rfl | rfl | rfl
   ·exact wD hz
   ·exact wD hi
   ·exact wD ho
   ·obtain⟨o,e,_⟩:=s1.obj;exact wD e
   ·obtain⟨o,e,_⟩:=s2.obj;exact wD e
  have hf1:∀c∈[z,TI,TO,i1,i2],eK X pins (upd H s.heap.objs.size (.tup [x,y])) c:=λc hc=>⟨by rw[eF (wQ (ltf c hc))];exact(hf c hc).1,(hf c hc).2⟩
  refine⟨_,rfl,wpAny_letOwnedTupleGo_zip hz1 λh2 hz2 hs2=>?_⟩;have hs2:vv z h1 h2:=hs2
  refine⟨.ref s.heap.objs.size,_,Inv.sv (s:={s with heap:=s.heap.push {cls:=.type "tuple",data:=.seq ([v1,v2]:List wg).toArray},toks:=tk}) (ch:=[z,TI,TO,i1,i2]) I1 (λc o hc q=>?_) hf1,rfl,
   ⟨_,x,y,rfl,I.aI.fresh (wo _),λzs hzs=>by rw[I.JA hzs hq1];exact hx,λzs hzs=>by rw[I.JA hzs hq2];exact hy,rfl⟩,
   ⟨hz2,hs2.extBut _ _ ap.a1 (hk _ _ ap.a1 ap.a5 ap.a6 ap.a7 hi),⟨_,_,hs2.extBut _ _ ap.a2 ho1⟩,st1.1.at λo e=>hs2.extBut _ _ ap.a3 e,st2.1.at λo e=>hs2.extBut _ _ ap.a4 e⟩,λc hc=>(hf1 c hc).1⟩
  have c1:c≠z:=λq=>hc (by simp[q])
  have c2:c≠TO:=λq=>hc (by simp[q])
  have c3:c≠i1:=λq=>hc (by simp[q])
  have c4:c≠i2:=λq=>hc (by simp[q])
  refine hs2.extBut _ _ c1 ?_
  by_cases hcs:c=s.heap.objs.size
  ·subst hcs
   rw[wN _ rfl]at q;cases q;exact hT1
  ·exact hk c o c1 c2 c3 c4 (by rw[Q9 _ _ _ hcs]at q;exact q)
 done:=by
  intro X hP hw hK hc i pins s σ H E I hf st hg;subst hP hw hK;obtain⟨hz,hi,⟨p,q,ho⟩,s1,s2⟩:=st;obtain⟨xs,ys,hq1,hq2,hend⟩:=hg;obtain⟨its,r1,p1⟩:=I.jc hq1;obtain⟨jts,r2,p2⟩:=I.jc hq2;have e1:=r1.length;have e2:=r2.length;have hT:s.TypeIs (.ref z) "zip":=⟨_,hz,rfl⟩;unfold VR
  refine wf (VL (wpAny_callSpecial?_slot (name:=vW "__next__") hT Wp (Wd Wp hT qa
   (Km (k:=i) (oO (A:=X.A.in1) t (I.ok.hd hc) i1 a na its.toArray) (oO (A:=X.A.in1) u (I.ok.hd hc) i2 b nb jts.toArray) ap hz hi ho ⟨s1,p1⟩ ⟨s2,p2⟩ (by simp only[wO];lia) λh' y tk hk hx'=>?_) (VP _))))
  obtain⟨o,ho',hcl⟩:=hx';refine wf (Vr (T:="StopIteration") (b:=true) ⟨o,ho',hcl⟩ isSubtype_stop (wp ⟨rfl,?_⟩));exact Inv.sv (ch:=[z,TI,TO,i1,i2]) I (λc o hc e=>hk c o (λq=>hc (by simp[q])) (λq=>hc (by simp[q])) (λq=>hc (by simp[q])) (λq=>hc (by simp[q])) e) hf
 self:=λ_ _ _ _ _ st h=>wpAny_pyIter_zip st.1 h
abbrev yQ(h:wG)(a:we):wG:=h.push {cls:=.type "tuple_iterator",data:=.fields #[.ref a,.int 0 0]}
abbrev zw(h:wG)(a b:we):wG:=(yQ h a).push {cls:=.type "tuple_iterator",data:=.fields #[.ref b,.int 0 0]}
abbrev yd(h:wG)(a b:we):wG:=(zw h a b).push {cls:=.type "tuple",data:=.seq #[.ref h.objs.size,.ref (yQ h a).objs.size]}
abbrev ya(h:wG)(a b:we):wG:=(yd h a b).push {cls:=.type "tuple",data:=.seq #[.none,.none]}
abbrev nT(h:wG)(a b:we):wG:=(ya h a b).push {cls:=.type "zip",data:=.fields #[.none,.bool false,.bool false,.ref (zw h a b).objs.size,.ref (yd h a b).objs.size]}
theorem zt2(a b:we)(xs ys:Array wg):Meets (Builtin.«zip.__new__» ⟨[.type "zip",.ref a,.ref b],[]⟩) (λ_ R s=>s.heap.IsTuple a xs/\s.heap.IsTuple b ys/\R (.ok (.ret (.ref (ya s.heap a b).objs.size))) {s with heap:=nT s.heap a b}) :=
 .of_wp λprog w A R s h=>by
  obtain⟨hp,g,d,tk,os⟩:=s;obtain⟨ha,hb,h⟩:=h;have hsub:=sub_zip;have hA:XM (uf ⟨hp,g,d,tk,os⟩) a xs:=ha;have hB:XM (uf ⟨hp.push {cls:=.type "tuple_iterator",data:=.fields #[.ref a,.int 0 0]},g,d,tk,os⟩) b ys:=hb.at λo e=>wn _ e
  wp_walk using Vc hA,Vc hB
  exact⟨_,rfl,h⟩
section
variable{prog:wI}{w:wJ}{A:vb}{E:wg->wl->Prop}{s:wl}
theorem YB{a b:we}{xs ys:Array wg}{Q:wg->wl->Prop}(ha:s.heap.IsTuple a xs)(hb:s.heap.IsTuple b ys)
  (fin:∀h',IsZip h' (s.heap.objs.size+4) (s.heap.objs.size+2) (s.heap.objs.size+3) .none->Wz h' (s.heap.objs.size+2) (.ref s.heap.objs.size) (.ref (s.heap.objs.size+1))->Wz h' (s.heap.objs.size+3) .none .none ->
   h'.IsTupleIter s.heap.objs.size a 0->h'.IsTupleIter (s.heap.objs.size+1) b 0->(∀c o,s.heap.get? c=some o->h'.get? c=some o)->Q (.ref (s.heap.objs.size+4)) {s with heap:=h'}):wx (model prog w) A (call (.type "zip") [.ref a,.ref b]) Q E s:=by
 refine callType_new F.called_zip (by decide) (F.typeCall_zip_2 _ _) (F.newCall_zip_2 _ _) (λobj=>F.args_object_init_3 obj _ _) F.entry_zip_new (zt2 a b xs ys) ⟨ha,hb,?_⟩;have z1:(yQ s.heap a).objs.size=s.heap.objs.size+1:=V1 ..;have z2:(zw s.heap a b).objs.size=s.heap.objs.size+2:=by rw[V1,z1]
 have z3:(yd s.heap a b).objs.size=s.heap.objs.size+3:=by rw[V1,z2]
 have z4:(ya s.heap a b).objs.size=s.heap.objs.size+4:=by rw[V1,z3]
 have g5:(nT s.heap a b).get? (ya s.heap a b).objs.size=some _:=wN _ rfl;have g4:(nT s.heap a b).get? (yd s.heap a b).objs.size=some _:=wn _ (wN _ rfl);have g3:(nT s.heap a b).get? (zw s.heap a b).objs.size=some _:=wn _ (wn _ (wN _ rfl));have g2:(nT s.heap a b).get? (yQ s.heap a).objs.size=some _:=wn _ (wn _ (wn _ (wN _ rfl)));have g1:(nT s.heap a b).get? s.heap.objs.size=some _:=wn _ (wn _ (wn _ (wn _ (wN _ rfl))))
 show _/\_
 rw[z2,z3,z4]at g5;rw[z1,z2]at g3;rw[z3]at g4;rw[z1]at g2;rw[z4];exact⟨⟨_,g5,rfl⟩,fin _ g5 g3 g4 ⟨_,g1,rfl,rfl⟩ ⟨_,g2,rfl,rfl⟩ λc o x=>wn _ (wn _ (wn _ (wn _ (wn _ x))))⟩
end
variable{a:we}{X:Cx}{elts:List Expr}{tpos:Pos}
def zK(t u:Bool)(K:wb)(ta:TA):TI:=λσ H R=>ta σ H λvs H1=>∃a b,vs=[.ref a,.ref b]/\(∃xs,dg t K H1 a xs)/\(∃ys,dg u K H1 b ys)/\R (l8 t u K a b) H1
theorem Di :vN "zip"=some (.type "zip"):=by decide +kernel
theorem oC{x b:we}(h:x≠a)(k:x≠b):x ∉ [a,b]:=by simp[h,k]
theorem NU{n a b:Nat}(la:a<n)(lb:b<n):ZA (n+4) (n+2) (n+3) n (n+1) [n,a] [n+1,b] where
 a1:=wQ (by lia)
 a2:=wQ (by lia)
 a3:=wQ (by lia)
 a4:=wQ (by lia)
 a5:=wQ (by lia)
 a6:=vn (by lia)
 a7:=vn (by lia)
 a8:=vn (by lia)
 a9:=vn (by lia)
 b0:=wQ (by lia)
 b1:=oC (vn (by lia)) (vn (by lia))
 b2:=oC (vn (by lia)) (vn (by lia))
 b3:=oC (vn (by lia)) (vn (by lia))
 b4:=oC (vn (by lia)) (vn (by lia))
 b5:=oC (wQ (by lia)) (vn (by lia))
 b6:=oC (vn (by lia)) (vn (by lia))
theorem M6{k1}{pins:List (we × Obj)}{σ : L2.St}{H:Hp}{s:wl}{R:It->Hp->Prop}{h':wG}{E:wg->wl->Prop}{t u:Bool}{b:we}(I:Inv X pins σ H s)(la:a<s.heap.objs.size)(lb:b<s.heap.objs.size)
  (hz:IsZip h' (s.heap.objs.size+4) (s.heap.objs.size+2) (s.heap.objs.size+3) .none) (hi:Wz h' (s.heap.objs.size+2) (.ref s.heap.objs.size) (.ref (s.heap.objs.size+1))) (ho:Wz h' (s.heap.objs.size+3) .none .none)
  (s1:ji t h' s.heap.objs.size a 0) (s2:ji u h' (s.heap.objs.size+1) b 0) (kp:∀c o,s.heap.get? c=some o->h'.get? c=some o) (q:R (l8 t u X.K a b) H):wx (model X.prog X.w) X.A (pyIter (.ref (s.heap.objs.size+4))) (Cg X pins σ (.Tuple elts k1 tpos) R) E {s with heap:=h'}:=by
 refine wpAny_pyIter_zip hz ?_;refine⟨s.heap.objs.size+4,[s.heap.objs.size+4,s.heap.objs.size+2,s.heap.objs.size+3,s.heap.objs.size,s.heap.objs.size+1],_,_,H,rfl,I.kept (t':=s.toks) kp,zy9 a b _ (s.heap.objs.size+2) (s.heap.objs.size+3) s.heap.objs.size (s.heap.objs.size+1) (NU la lb) (wQ la) (wQ (VO lb)),⟨hz,hi,⟨_,_,ho⟩,s1,s2⟩,λc hc=>?_,q⟩
 ·have hb':s.heap.objs.size<=c:=by
   simp only[wF,WA,or_false]at hc;rcases hc with rfl | rfl | rfl | rfl | rfl
   ·exact WP _ 4
   ·exact WP _ 2
   ·exact WP _ 3
   ·exact wo _
   ·exact WP _ 1
  exact I.jM hb' (I.aI.fresh hb')
theorem zA9{k1}{p pos:Pos}{l m:Expr}{ta:TA}(hg:Gl X "zip")(hm:X.mg "zip"=none)(ha:PA X [l,m] ta)(hs:w5 [l,m] X.env=[(false,eval l X.env),(false,eval m X.env)]:=by rfl)(hs2:w5 [m] X.env=[(false,eval m X.env)]:=by rfl) :
  PI X (.Tuple elts k1 tpos) (.Call (.Name "zip" p) [l,m] [] pos) (zK true true X.K ta):=by
 intro pins s σ H R I h;refine Call_ (gP I hg hm Di (vB (aK (ha pos pins s σ H _ I h) λus s1 ⟨vs,H1,I1,r1,q1⟩=>?_) (by rw[hs,hs2]) (by rw[hs2];rfl)));obtain⟨a,b,rfl,⟨xs,hq1⟩,⟨ys,hq2⟩,q⟩:=q1;obtain⟨u,v,rfl,ru,rv⟩:=lF r1;cases ru;cases rv;obtain⟨its,_,p1⟩:=I1.jc hq1;obtain⟨jts,_,p2⟩:=I1.jc hq2;have la:a<s1.heap.objs.size:=by obtain⟨o,e,_⟩:=(show s1.heap.IsTuple a its.toArray from p1);exact wD e
 have lb:b<s1.heap.objs.size:=by obtain⟨o,e,_⟩:=(show s1.heap.IsTuple b jts.toArray from p2);exact wD e
 exact YB p1 p2 λh' hz hi ho t1 t2 kp=>M6 (t:=true) (u:=true) I1 la lb hz hi ho t1 t2 kp q
theorem PB{k1}{p pos:Pos}{l m:Expr}{ta:TA}(hg:Gl X "zip")(hm:X.mg "zip"=none)(ha:PA X [l,m] ta)(hs:w5 [l,m] X.env=[(false,eval l X.env),(false,eval m X.env)]:=by rfl)(hs2:w5 [m] X.env=[(false,eval m X.env)]:=by rfl) :
  PI X (.Tuple elts k1 tpos) (.Call (.Name "zip" p) [l,m] [] pos) (zK false false X.K ta):=by
 intro pins s σ H R I h;refine Call_ (gP I hg hm Di (vB (aK (ha pos pins s σ H _ I h) λus s1 ⟨vs,H1,I1,r1,q1⟩=>?_) (by rw[hs,hs2]) (by rw[hs2];rfl)));obtain⟨a,b,rfl,⟨xs,hq1⟩,⟨ys,hq2⟩,q⟩:=q1;obtain⟨u,v,rfl,ru,rv⟩:=lF r1;cases ru;cases rv;obtain⟨its,_,p1⟩:=I1.jc hq1;obtain⟨jts,_,p2⟩:=I1.jc hq2;have la:a<s1.heap.objs.size:=by obtain⟨o,e,_⟩:=(show s1.heap.IsList a its.toArray from p1);exact wD e
 have lb:b<s1.heap.objs.size:=by obtain⟨o,e,_⟩:=(show s1.heap.IsList b jts.toArray from p2);exact wD e
 exact call_zip_2 p1 p2 λh' hz hi ho t1 t2 _ kp=>M6 (t:=false) (u:=false) I1 la lb hz hi ho t1 t2 kp q
theorem dg.same{t:Bool}{K:wb}{H H':Hp}{xs:List V}(s:ah H H')(h:dg t K H a xs):dg t K H' a xs:=by
 cases t
 ·exact s.seq h
 ·exact s.j9 h
def LI(t u:Bool)(K:wb)(g:TG)(tb:TS)(D:cv)(σ : L2.St)(vs:List V)(H1:Hp):Prop:=∃a b,vs=[.ref a,.ref b]/\(∃xs,dg t K H1 a xs)/\(∃ys,dg u K H1 b ys) /\
 ∃W:Nat->Nat->L2.St->Hp->Prop,(∃m,W 0 m σ H1) /\ ∀i m σ H,W i m σ H ->
  ((l8 t u K a b).stop i H/\D.nx σ H)\/((l8 t u K a b).go i H /\ ∃M:L2.St->Hp->Prop,(∀σ' H',M σ' H'->∃m',m'<m/\W (i+1) m' σ' H') /\ ∀x H',(l8 t u K a b).fD i H x H'->g x σ H' λσ2 H2=>tb {D with nx:=M,ct:=M,bk:=D.nx} σ2 H2)
def Bn(t u:Bool)(K:wb)(g:TG)(tt:TT)(te:TE)(src:List (Option Nat))(σ : L2.St)(vs:List V)(H1:Hp)(Q:VK):Prop:=∃a b,vs=[.ref a,.ref b]/\(∃xs,dg t K H1 a xs)/\(∃ys,dg u K H1 b ys) /\
 ∀D,H1 D=none->ki g tt te (l8 t u K a b) D (dR src σ) (upd H1 D (.lst [])) (λH'=>Q (.ref D) H')
section
variable{t u:Bool}{K:wb}{ta:TA}{g:TG}{tb:TS}{tt:TT}{te:TE}{D:cv}{σ : L2.St}{H:Hp}{Q:VK}{a b:we}{xs ys:List V}{src:List (Option Nat)}{o0 o0':Option V}{tl:L2.St}
theorem zBK(h:ta σ H λvs H1=>LI t u K g tb D σ vs H1):lW (zK t u K ta) g tb D σ H:=h
theorem zx7(h:ta σ H λvs H1=>Bn t u K g tt te src σ vs H1 Q):jQ src (zK t u K ta) g tt te σ H Q:=h
def gA(H:Hp)(tl:L2.St)(Rel:Nat->V->Hp->Prop)(D:we)(i:Nat)(zs:List V)(σ':L2.St)(H':Hp):Prop :=
 (∃o1 o2,σ'=o1::o2::tl)/\H D=none/\ah H H'/\H' D=some (.lst zs)/\zs.length=i /\ ∀j y,zs[j]? = some y->Rel j y H'
theorem tO{Rel:Nat->V->Hp->Prop}{D:we}{i:Nat}{zs:List V}{σ' σ3:L2.St}{H1 H5:Hp}{y:V}(inv:gA H tl Rel D i zs σ' H1)(hi:i<=1000)(hk:∀i v H1 H2,bG H1 H2->Rel i v H1->Rel i v H2)(hσ : ∃o1 o2,σ3=o1::o2::tl)(s:ah H1 H5)(r:Rel i y H5):rS (gA H tl Rel) D i σ3 y H5:=by
 obtain⟨_,hn,s1,hD,hl,hr⟩:=inv;have hD5:=s _ _ hD;refine lJ hD5 (by lia) λH6 E6 e6=>⟨hσ,hn,(s1.trans s).grow hn E6,e6,by simp[hl],λj z hz=>?_⟩
 have k6:bG H5 H6:=E6.keep hD5;rcases wA j zs.length with hj | hj
 ·rw[vI hj]at hz
  exact hk _ _ _ _ (s.keep.trans k6) (hr j z hz)
 ·have hj':j=zs.length:=by
   rcases wA zs.length j with q | q
   ·rw[wL (by simp;lia)]at hz;cases hz
   ·lia
  subst hj';rw[vi (wo _),Vf]at hz;cases hz;rw[hl];exact hk _ _ _ _ k6 r
theorem zBy(hx:dg t K H a xs)(hy:dg u K H b ys)(hxy:xs.length=ys.length)(hsrc:dR src σ = o0::o0'::tl)(Rel:Nat->V->Hp->Prop)(hk:∀i v H1 H2,bG H1 H2->Rel i v H1->Rel i v H2)
  (hs:∀D i x y zs o1 o2 H1 c,xs[i]? = some x->ys[i]? = some y->gA H tl Rel D i zs (o1::o2::tl) H1->H1 c=some (.tup [x,y])->ig (gA H tl Rel) g tt te D i (.ref c) (o1::o2::tl) H1)
  (hd:∀D zs H',H D=none->ah H H'->H' D=some (.lst zs)->zs.length=xs.length->(∀j y,zs[j]? = some y->Rel j y H')->Q (.ref D) H'):Bn t u K g tt te src σ [.ref a,.ref b] H Q:=by
 refine⟨a,b,rfl,⟨xs,hx⟩,⟨ys,hy⟩,λD hD=>⟨λi m σ' H'=>i+m=xs.length /\ ∃zs,gA H tl Rel D i zs σ' H',⟨xs.length,by lia,[],⟨o0,o0',hsrc⟩,hD,ah.upd hD,cZ,rfl,λj y z=>by simp at z⟩,?_⟩⟩;rintro i m σ' H' ⟨him,zs,inv⟩;have hq1:=dg.same inv.2.2.1 hx;have hq2:=dg.same inv.2.2.1 hy
 by_cases hm:m=0
 ·have e:i=xs.length:=by lia
  subst e;obtain⟨_,n,s,e,hl,r⟩:=inv;exact .inl ⟨⟨xs,ys,hq1,hq2,.inl rfl⟩,hd D zs H' n s e hl r⟩
 ·have hi:i<xs.length:=by lia
  have hj:i<ys.length:=by lia
  refine .inr ⟨⟨xs,xs[i],ys,ys[i],hq1,by simp[hi],hq2,by simp[hj]⟩,λσ2 H2=>∃zs,gA H tl Rel D (i+1) zs σ2 H2,λσ2 H2 h=>⟨m-1,by lia,by lia,h⟩,?_⟩;rintro v H2 ⟨c,x,y,rfl,hn,hx',hy',rfl⟩;obtain⟨⟨o1,o2,rfl⟩,n,s,e,hl,r⟩:=inv;have su:=ah.upd (o:=.tup [x,y]) hn;exact hs D i x y zs o1 o2 _ c (hx' xs hq1) (hy' ys hq2) ⟨⟨o1,o2,rfl⟩,n,s.trans su,su _ _ e,hl,λj y hy=>hk _ _ _ _ su.keep (r j y hy)⟩ cZ
end
def Dv(K:wb):List V->Hp->VK->Prop:=λxs H Q=>∃(p:we)(ns:List Int),xs=[.ref p]/\aU K H p (ns.map V.int)/\Q (.int ns.sum) H
theorem Og:vN "sum"=some (.builtin "sum"):=by decide +kernel
open PyProof.V PySem.Calls in
theorem zwO{X:Cx}(hc:X.calm=true):aJ X (.builtin "sum") (Dv X.K):=by
 intro pins s σ H xs us Q I r h;obtain⟨p,ns,rfl,hq,q⟩:=h;obtain⟨u,rfl,rx⟩:=gK r;cases rx;obtain⟨its,r',pl,hz⟩:=I.tuple hq;have hI:=AF r';have hT:s.heap.IsTuple p its.toArray:=pl;obtain⟨zs,hx⟩:=hI.allInts.items;have hn:numsOf its.toArray.toList=ns:=by rw[show its.toArray.toList=its from rfl,hI.numsOf]
 rw[hx]at hT hn;rw[nums_intItems]at hn;refine PySem.W.ktm_sumG (I.ok.hd hc) hT λh' tk t' hk=>?_
 rw[preSum_eq,WF (by simp),hn];exact⟨.int ns.sum,H,I.kept (t':=tk) hk,⟨_,rfl⟩,q⟩
theorem zxx{K:wb}{H:Hp}{Q:VK}{v:V}{ns:List Int}(h:Is K H v (TZ ns))(q:Q (.int ns.sum) H):Dv K [v] H Q:=by
 obtain⟨a,rfl,hs⟩:=rL.mp h;exact⟨a,ns,rfl,hs,q⟩
theorem zCp{α : Type}(xs:List α)(k:Nat):cutD xs none (some (k:Int))=xs.take k:=by
 unfold cutD;rw[HT.Jt,HT.JX,x6,Nat.sub_zero];rcases Nat.le_total k xs.length with h | h
 ·rw[xE h]
 ·rw[Nat.min_eq_right h,Wr,WF h]
theorem zzG{α : Type}(xs:List α)(k:Nat)(h:k<=xs.length):cutD xs (some (k:Int)) none=xs.drop k:=by
 unfold cutD;rw[HT.Jt,HT.JX,xE h];exact WF (by rw[vR];lia)
def lA(K:wb):List V->Hp->VK->Prop:=λxs H Q=>∃(p:we)(bs:List Bool),xs=[.ref p]/\aO K H p (bs.map V.bl)/\Q (.bl (bs.all id)) H
theorem oj:vN "all"=some (.builtin "all"):=by decide +kernel
theorem Ls{bs:List Bool} : ∀{us:List wg},aT (bs.map V.bl) us->us=bs.map Value.bool:=by
 induction bs with
 | nil=>intro us r;rw[xl]at r;cases r;rfl
 | cons b bs ih =>
  intro us r;rw[vd]at r;cases r with
  | cons r1 r2 =>
   cases r1;rw[vd,ih r2]
theorem zt9(bs:List Bool):((wt bs.length).all λi=>(bs[i]?).getD true)=bs.all id:=by
 rw[vL,WO,WO]
 constructor
 ·intro h b hb
  obtain⟨i,hi,rfl⟩:=wX hb;have:=h i (wH.mpr hi);rw[wc hi]at this;exact this
 ·intro h i hi
  rw[wH]at hi;rw[wc hi];exact h _ (vK hi)
open PyProof.V PySem.Calls in
theorem nP{X:Cx}(hc:X.calm=true):aJ X (.builtin "all") (lA X.K):=by
 intro pins s σ H xs us Q I r h;obtain⟨p,bs,rfl,hq,q⟩:=h;obtain⟨u,rfl,rx⟩:=gK r;cases rx;obtain⟨its,r',pl,hz⟩:=I.list hq;have hi:its=bs.map Value.bool:=Ls r';have hl:s.heap.IsList p its.toArray:=pl.isList;have hlt:p<s.heap.objs.size:=by obtain⟨_,e,_⟩:=hl;exact wD e
 refine call_all_walk (qz hl ?_)
 refine⟨s.heap.objs.size,[s.heap.objs.size,p],[s.heap.objs.size],its.toArray.size,_,_,λi=>(bs[i]?).getD true,rfl,uQ (A:=X.A.in1) (I.ok.hd hc) _ p (wQ hlt) its.toArray,
  ⟨⟨_,wN _ rfl,rfl,rfl⟩,hl.push _⟩,λi v s' Q' E' hP hQ=>?_,λh' tk hk=>?_⟩
 ·have hP:its.toArray[i]? = some v:=hP
  rw[hi]at hP;simp only[Xa,wu,Vs]at hP;obtain⟨b,e,rfl⟩:=hP;simp only[e,Qw]at hQ;exact Wo hQ
 ·have e:((wt its.toArray.size).all λi=>(bs[i]?).getD true)=bs.all id:=by
   rw[wO,hi,wm];exact zt9 bs
  rw[e];exact⟨.bl (bs.all id),H,I.kept (t':=tk) (λb x e=>hk b x (λhm=>by rw[w6.mp hm]at e;exact Vj _ (wD e)) (wn _ e)),rfl,q⟩
theorem mz{K:wb}{H:Hp}{Q:VK}{p:we}{bs:List Bool}(h:aO K H p (bs.map V.bl))(q:Q (.bl (bs.all id)) H):lA K [.ref p] H Q:=⟨p,bs,rfl,h,q⟩
section
variable{t u:Bool}{K:wb}{g:TG}{tt:TT}{te:TE}{σ : L2.St}{H:Hp}{Q:VK}{a b:we}{xs ys:List V}{src:List (Option Nat)}{o0 o0':Option V}{tl:L2.St}
theorem zzW(hx:dg t K H a xs)(hy:dg u K H b ys)(hxy:ys.length<xs.length)(hsrc:dR src σ = o0::o0'::tl)(Rel:Nat->V->Hp->Prop)(hk:∀i v H1 H2,bG H1 H2->Rel i v H1->Rel i v H2)
  (hs:∀D i x y zs o1 o2 H1 c,xs[i]? = some x->ys[i]? = some y->gA H tl Rel D i zs (o1::o2::tl) H1->H1 c=some (.tup [x,y])->ig (gA H tl Rel) g tt te D i (.ref c) (o1::o2::tl) H1)
  (hd:∀D zs H',H D=none->ah H H'->H' D=some (.lst zs)->zs.length=ys.length->(∀j y,zs[j]? = some y->Rel j y H')->Q (.ref D) H'):Bn t u K g tt te src σ [.ref a,.ref b] H Q:=by
 refine⟨a,b,rfl,⟨xs,hx⟩,⟨ys,hy⟩,λD hD=>⟨λi m σ' H'=>i+m=ys.length /\ ∃zs,gA H tl Rel D i zs σ' H',⟨ys.length,by lia,[],⟨o0,o0',hsrc⟩,hD,ah.upd hD,cZ,rfl,λj y z=>by simp at z⟩,?_⟩⟩;rintro i m σ' H' ⟨him,zs,inv⟩;have hq1:=dg.same inv.2.2.1 hx;have hq2:=dg.same inv.2.2.1 hy
 by_cases hm:m=0
 ·have e:i=ys.length:=by lia
  subst e;obtain⟨_,n,s,e,hl,r⟩:=inv;exact .inl ⟨⟨xs,ys,hq1,hq2,.inr ⟨hxy,rfl⟩⟩,hd D zs H' n s e hl r⟩
 ·have hi:i<xs.length:=by lia
  have hj:i<ys.length:=by lia
  refine .inr ⟨⟨xs,xs[i],ys,ys[i],hq1,by simp[hi],hq2,by simp[hj]⟩,λσ2 H2=>∃zs,gA H tl Rel D (i+1) zs σ2 H2,λσ2 H2 h=>⟨m-1,by lia,by lia,h⟩,?_⟩;rintro v H2 ⟨c,x,y,rfl,hn,hx',hy',rfl⟩;obtain⟨⟨o1,o2,rfl⟩,n,s,e,hl,r⟩:=inv;have su:=ah.upd (o:=.tup [x,y]) hn;exact hs D i x y zs o1 o2 _ c (hx' xs hq1) (hy' ys hq2) ⟨⟨o1,o2,rfl⟩,n,s.trans su,su _ _ e,hl,λj y hy=>hk _ _ _ _ su.keep (r j y hy)⟩ cZ
end
variable{H:Hp}
def Mj(g:TG)(tb:TS)(D:cv)(σ : L2.St)(vs:List V)(H1:Hp):Prop:=∃i j:Int,vs=[.int i,.int j]/\(-(2^62)<=i/\i<2^62 /\ -(2^62)<=j/\j<2^62) /\
 ∃W:Nat->Nat->L2.St->Hp->Prop,(∃m,W 0 m σ H1) /\ ∀k m σ H,W k m σ H ->
  ((gG i (j-i).toNat).stop k H/\D.nx σ H)\/((gG i (j-i).toNat).go k H /\ ∃M:L2.St->Hp->Prop,(∀σ' H',M σ' H'->∃m',m'<m/\W (k+1) m' σ' H') /\ ∀x H',(gG i (j-i).toNat).fD k H x H'->g x σ H' λσ2 H2=>tb {D with nx:=M,ct:=M,bk:=D.nx} σ2 H2)
theorem zzC{ta:TA}{g:TG}{tb:TS}{D:cv}{σ : L2.St}(h:ta σ H λvs H1=>Mj g tb D σ vs H1):lW (R1 ta) g tb D σ H:=h
theorem zud{g:TG}{tb:TS}{D:cv}{σ : L2.St}{lo hi:Int}(h0 : -1000000000<=lo)(h1:lo<1000000000)(h2 : -1000000000<=hi)(h3:hi<1000000000)(Pv:Nat->L2.St->Hp->Prop)(p:Pv 0 σ H)
  (hs:∀(i:Nat) σ H,i<(hi-lo).toNat->Pv i σ H->g (.int (lo+(i:Int))) σ H λσ2 H2=>tb {D with nx:=Pv (i+1),ct:=Pv (i+1),bk:=D.nx} σ2 H2)
  (hd:∀σ H,Pv (hi-lo).toNat σ H->D.nx σ H):Mj g tb D σ [.int lo,.int hi] H :=
 ⟨lo,hi,rfl,⟨by lia,by lia,by lia,by lia⟩,Oe (lo:=lo) Pv p hs hd⟩
def Cj(K:wb):List V->Hp->VK->Prop:=λxs H Q=>∃x tp S T d b,xs=[x,.ref tp]/\aU K H tp [.ty S,.ty T]/\Is K H x d/\u7 K (.type (kindOf d)) [.type S,.type T]=some b/\Q (.bl b) H
theorem zuJ{X:Cx} : aJ X (.builtin "isinstance") (Cj X.K):=by
 intro pins s σ H xs us Q I r h;obtain⟨x,tp,S,T,d,b,rfl,ht,hd,e,q⟩:=h;obtain⟨u,w',rfl,rx,rt⟩:=lF r;cases (show w'=Value.ref tp from rt);obtain⟨tts,rv,⟨ot,ht1,ht2,n,ht3⟩,_⟩:=I.tuple ht;obtain⟨t1,t2,rfl,r1,r2⟩:=lF rv;cases (show t1=Value.type S from r1);cases (show t2=Value.type T from r2);obtain⟨c,dd,da,sl⟩:=ot;cases ht2;cases ht3;have fin:∀tk,EP X pins σ Q (.bool b) {s with toks:=tk}:=λtk=>⟨.bl b,H,I.tok _,rfl,q⟩
 cases d with
 | none =>
  cases mf.mp hd;cases (show u=Value.none from rx);exact VF X2 I.dS True.intro ht1 e (λz=>nomatch z) fin
 | bool y =>
  cases ky.mp hd;cases (show u=Value.bool y from rx);exact VF X3 I.dS True.intro ht1 e (λz=>nomatch z) fin
 | int i =>
  cases bW.mp hd;obtain⟨t,q⟩:=(show ∃t,u=Value.int i t from rx);cases q;exact VF uu I.dS True.intro ht1 e (λz=>nomatch z) fin
 | str y =>
  cases eZ.mp hd;obtain⟨t,q⟩:=(show ∃t,u=Value.str y t from rx);cases q;exact VF uv I.dS True.intro ht1 e (λz=>nomatch z) fin
 | tuple ds =>
  obtain⟨a,xs,e1,hq,_⟩:=bX.mp hd;subst e1;cases (show u=Value.ref a from rx);obtain⟨its,_,⟨o,h1,h2,_⟩,_⟩:=I.tuple hq;exact VF XH I.dS ⟨o,h1,h2⟩ ht1 e (λz=>nomatch z) fin
 | list ds =>
  obtain⟨a,xs,e1,hq,_⟩:=cC.mp hd;subst e1;cases (show u=Value.ref a from rx);obtain⟨its,_,⟨o,n,h1,h2,_⟩,_⟩:=I.list hq;exact VF X4 I.dS ⟨o,h1,h2⟩ ht1 e (λz=>nomatch z) fin
 | dict kv =>
  obtain⟨a,kvs,e1,hq⟩:=zb.mp hd;subst e1;cases (show u=Value.ref a from rx);obtain⟨_,_,vs,_,o,es,ep,h1,h2,_⟩:=(show dN X.prog X.w H s.heap a (.dK kvs)from I.aI a _ hq);exact VF X5 I.dS ⟨o,h1,h2.1⟩ ht1 e (λz=>nomatch z) fin
theorem zz3{K:wb}(d:wC):u7 K (.type (kindOf d)) [.type "list",.type "tuple"]=some (k_ d || iW d):=by cases d<;>rfl
theorem Bl{K:wb}{Q:VK}{v:V}{tp:we}{d:wC}(h:Is K H v d)(t:H tp=some (.tup [.ty "list",.ty "tuple"]))(q:Q (.bl (k_ d || iW d)) H):Cj K [v,.ref tp] H Q :=
 ⟨v,tp,"list","tuple",d,_,rfl,.of t,h,zz3 d,q⟩
section
variable{X:Cx}{tg:Expr}
def D_(K:wb)(tl:TE):TI:=λσ H R=>tl σ H λx H1=>(∃a,x=.ref a/\(∃xs,aO K H1 a xs)/\R (jg K a) H1)\/(∃a,x=.ref a/\(∃xs,aU K H1 a xs)/\R (je K a) H1)
theorem Pc{l:Expr}{tl:TE}(hl:PE X l tl):PI X tg l (D_ X.K tl):=by
 intro pins s σ H R I h;refine aK (hl pins s σ H _ I h) λv s1 ⟨x,H1,I1,r1,q1⟩=>?_
 rcases q1 with⟨a,e,⟨xs,hq⟩,q⟩ | ⟨a,e,⟨xs,hq⟩,q⟩
 ·subst e
  cases r1;obtain⟨its,rv,p,hz⟩:=I1.list hq;refine qz p.isList ?_;refine⟨s1.heap.objs.size,[s1.heap.objs.size],_,_,H1,rfl,I1.kept (t':=s1.toks) λb o e=>wn _ e,Yq a _,⟨_,wN _ rfl,rfl,rfl⟩,λb hb=>?_,q⟩;have e:b=s1.heap.objs.size:=by simpa using hb
  subst e;exact I1.jM (wo _) (I1.aI.fresh (wo _))
 ·subst e
  cases r1;obtain⟨its,rv,p,hz⟩:=I1.tuple hq;refine Vc (show s1.heap.IsTuple a its.toArray from p) ?_;refine⟨s1.heap.objs.size,[s1.heap.objs.size],_,_,H1,rfl,I1.kept (t':=s1.toks) λb o e=>wn _ e,N7 a _,⟨_,wN _ rfl,rfl,rfl⟩,λb hb=>?_,q⟩;have e:b=s1.heap.objs.size:=by simpa using hb
  subst e;exact I1.jM (wo _) (I1.aI.fresh (wo _))
end
section
variable{K:wb}{g:TG}{tt:TT}{te ta tb' tc:TE}{tb:TS}{D:cv}{src:List (Option Nat)}{σ : St}{H:Hp}{Q:VK}{r r':R2}
theorem zxy(h:ta σ H λx H1=>tM K g tt te src σ x H1 Q\/yD K g tt te src σ x H1 Q):jQ src (D_ K ta) g tt te σ H Q:=h
theorem zAm(h:te σ H λx H1=>Gp K g tb D σ x H1\/Yy K g tb D σ x H1):lW (D_ K te) g tb D σ H:=h
theorem zzi(h:ta σ H λx H1=>tb' σ H1 λy H2=>r x y H2 λz H3=>∃k,z=.bl k/\(if k=true then tc σ H3 λw' H4=>r' y w' H4 Q else Q (.bl false) H3)):Bg r r' ta tb' tc σ H Q:=h
theorem ZH{b:Bool}{P:Bool->Prop}(h:P b):∃k,V.bl b=.bl k/\P k:=⟨b,rfl,h⟩
end
def aZ(a b:Rat)(xs:List Rat):wC:=.tuple [R a b,TN xs]
theorem LO(a b:Rat)(xs:List Rat):di (aZ a b xs)=true:=by rw[aZ,di,ck,ck,ck,C3,zG];rfl
theorem zEx{x y:Rat}(h:N x=N y):x=y:=by
 have h':PyData.tuple [.int x.num,.int (x.den:Int)]=PyData.tuple [.int y.num,.int (y.den:Int)]:=h
 injection h' with h1
 injection h1 with h2 h3
 injection h2 with h4
 injection h3 with h5 _
 injection h5 with h6
 exact u6 h4 (by lia)
theorem jF{K:wb}{H:Hp}{us:List V}{ds:List wC}{i:Nat}{x:V}(t:ak K H us ds)(h:us[i]? = some x):i<ds.length/\Is K H x (ds.getD i .none):=by
 have hl:=t.length
 have hi:i<ds.length:=by
  rcases wA i ds.length with z | z
  ·exact z
  ·rw[wL (by lia)]at h;cases h
 obtain⟨y,e,k⟩:=t.get (i:=i) (d:=ds.getD i .none) (by rw[wa,wc hi];rfl);rw[e]at h;cases h;exact⟨hi,k⟩
def Ej:List V->Hp->VK->Prop:=λxs H Q=>∃i j,xs=[.int i,.int j]/\Q (.int (if j<i then j else i)) H
theorem Zp{X:Cx}(hc:X.calm=true):aJ X (.builtin "min") Ej:=ZD hc
theorem zDM:vN "min"=some (.builtin "min"):=by decide +kernel
theorem zA7{i j:Int}{H:Hp}{Q:VK}(q:∀m:Int,m<=i->m<=j->(m=i\/m=j)->Q (.int m) H):Ej [.int i,.int j] H Q:=⟨i,j,rfl,by
 split
 ·exact q j (by lia) (by lia) (.inr rfl)
 ·exact q i (by lia) (by lia) (.inl rfl)⟩
def Bi(K:wb)(a:we):It :=
 ⟨λi H=>∃xs x,aO K H a xs/\xs[i]? = some x,λi H y H'=>∃t x,y=.ref t/\H t=none/\(∀xs,aO K H a xs->xs[i]? = some x)/\H'=upd H t (.tup [.int (i:Int),x]),λi H=>∃xs,aO K H a xs/\xs.length<=i⟩
theorem ztM{P:wI}{w:wJ}{K:wb}{elts:List Expr}{k1}{tpos:Pos}(a e it:we)(hne:e≠it):jK P w K (.Tuple elts k1 tpos) (Bi K a) [e,it] e (λi h=>(∃old,IsEnum h e it (i:Int) old)/\h.IsListIter it a i) where
 mem:=by simp
 obj:=λi h st b hb=>by
  obtain⟨⟨old,he⟩,o,eo,c,d⟩:=st;rcases wF.mp hb with rfl | hb
  ·exact⟨_,he,λv z=>by cases (show Data.fields _=Data.cell v from z)⟩
  ·rw[w6.mp hb]
   exact⟨o,eo,λv z=>by rw[d]at z;cases z⟩
 keep:=λi h h' st k=>⟨let ⟨old,he⟩:=st.1;⟨old,k e (by simp) _ he⟩,st.2.at λo eo=>k it (by simp) o eo⟩
 item:=by
  intro X hP hw hK hc i pins s σ H E I hf st hg;subst hP hw hK;obtain⟨⟨old,he⟩,st⟩:=st;obtain⟨xs,x,hq,hx⟩:=hg;obtain⟨its,rv,p,hz⟩:=I.list hq;obtain⟨u,hu,ru⟩:=rv.get hx;have p':s.heap.IsList a its.toArray:=p.isList
  have hai:a≠it:=λz=>by
   subst z;obtain⟨o,e1,c1,_⟩:=st;obtain⟨o',e2,c2,_⟩:=p';rw[e1]at e2;cases e2;rw[c1]at c2;exact absurd c2 (by decide)
  have hae:e≠a:=λz=>by
   subst z;obtain⟨o',e2,c2,_⟩:=p';rw[he]at e2;cases e2;exact absurd (show Value.type "enumerate"=Value.type "list" from c2) (by decide)
  have hlt:i<its.toArray.size:=by
   rcases wA i its.length with z | z
   ·simpa using z
   ·rw[wL z]at hu;cases hu
  refine wpAny_pyNext_enum_itemD (Draws.list (A:=X.A.in1) (I.ok.hd hc) it a hai its.toArray) he ⟨st,p'⟩ hlt hne (by simp[hne,hae]) λv h1 tk hv ho hs1 hT hsz hk=>?_
  have hvu:v=u:=by
   have hv':its[i]? = some v:=by simpa using hv
   rw[hu]at hv';exact(wM hv').symm
  subst hvu
  have I1:Inv X pins σ (upd H s.heap.objs.size (.tup [.int (i:Int),x])) {s with heap:=s.heap.push {cls:=.type "tuple",data:=.seq ([.int (i:Int) tk,v]:List wg).toArray},toks:=tk+1} :=
   I.laid (λb o q=>wn _ q) (wo _) (show dN X.prog X.w _ _ _ (.tup [.int (i:Int),x])from⟨n_ (by simp),_,.cons ⟨_,rfl⟩ (.cons ru .nil),Qx _ _⟩)
  have lt1:∀b∈[e,it],b<s.heap.objs.size:=λb hb=>by
   rcases wF.mp hb with rfl | hb
   ·exact wD he
   ·rw[w6.mp hb]
    obtain⟨o,eo,_⟩:=st;exact wD eo
  have hf1:∀b∈[e,it],eK X pins (upd H s.heap.objs.size (.tup [.int (i:Int),x])) b:=λb hb=>⟨by rw[eF (wQ (lt1 b hb))];exact(hf b hb).1,(hf b hb).2⟩
  refine⟨_,rfl,wpAny_letOwnedTupleGo_enum ho λh2 he2 hs2=>?_⟩;refine⟨.ref s.heap.objs.size,_,Inv.sv (s:={s with heap:=s.heap.push {cls:=.type "tuple",data:=.seq ([.int (i:Int) tk,v]:List wg).toArray},toks:=tk+1}) (ch:=[e,it]) I1 (λb o hb q=>?_) hf1,rfl,⟨_,x,rfl,I.aI.fresh (wo _),λys hy=>by rw[I.A4 hy hq];exact hx,rfl⟩,⟨⟨_,by simpa using he2⟩,hs1.1.at λo eo=>(hs2.2 it (WE hne)).trans eo⟩,λb hb=>(hf1 b hb).1⟩;have hbe:b≠e:=λz=>hb (by simp[z])
  have hbi:b≠it:=λz=>hb (by simp[z])
  refine(hs2.2 b hbe).trans ?_
  by_cases hb2:b=s.heap.objs.size
  ·subst hb2
   rw[wN _ rfl]at q;cases q;exact hT
  ·exact hk b o hbe hbi (by rw[Q9 _ _ _ hb2]at q;exact q)
 done:=by
  intro X hP hw hK hc i pins s σ H E I hf st hg;subst hP hw hK;obtain⟨⟨old,he⟩,st⟩:=st;obtain⟨xs,hq,hx⟩:=hg;obtain⟨its,rv,p,hz⟩:=I.list hq;have p':s.heap.IsList a its.toArray:=p.isList;have hl:=rv.length;have hT:s.TypeIs (.ref e) "enumerate":=⟨_,he,rfl⟩;unfold VR;refine wf (VL (wpAny_callSpecial?_slot (name:=vW "__next__") hT qE (Wd qE hT xS ?_ (xw _))))
  show wx _ _ (field (.ref e) 2 >>= _) _ _ _;refine wf (vD he rfl (x:=.ref it) rfl ?_)
  refine wf (wpAny_nextOf_list_end (A:=X.A.in1) (I.ok.hd hc) st p' (by simp;lia) λh' y he' hx'=>?_);obtain⟨o,ho,hcl⟩:=hx';refine wf (Vr (T:="StopIteration") (b:=true) ⟨o,ho,hcl⟩ isSubtype_stop (wp ⟨rfl,?_⟩));obtain⟨f0,f1,f2,f3,f4,f5⟩:=hf it (by simp);exact I.turned (t':=s.toks) (λb o hb e=>he' b o hb e) f0 f1 f3 f4 f5
 self:=λ_ _ _ _ _ st h=>let ⟨_,he⟩:=st.1;wpAny_pyIter_enum he h
def Yk(K:wb)(ta:TA):TI:=λσ H R=>ta σ H λvs H1=>∃a,vs=[.ref a]/\(∃xs,aO K H1 a xs)/\R (Bi K a) H1
theorem zxF{X:Cx}{elts:List Expr}{k1}{tpos p pos:Pos}{l:Expr}{ta:TA}(hg:Gl X "enumerate")(hm:X.mg "enumerate"=none)(ha:PA X [l] ta)(hs:w5 [l] X.env=[(false,eval l X.env)]:=by rfl) :
  PI X (.Tuple elts k1 tpos) (.Call (.Name "enumerate" p) [l] [] pos) (Yk X.K ta):=by
 intro pins s σ H R I h;refine Call_ (gP I hg hm W_ (vB (aK (ha pos pins s σ H _ I h) λus s1 ⟨vs,H1,I1,r1,q1⟩=>?_) hs rfl));obtain⟨a,rfl,⟨xs,hq⟩,q⟩:=q1;obtain⟨u,rfl,ru⟩:=gK r1;cases ru;obtain⟨its,rv,p,hz⟩:=I1.list hq;refine call_enumerate_list p.isList λh' he hit _ kp=>?_
 refine wpAny_pyIter_enum he ?_;refine⟨s1.heap.objs.size+1,[s1.heap.objs.size+1,s1.heap.objs.size],_,_,H1,rfl,I1.kept (t':=s1.toks) kp,ztM a (s1.heap.objs.size+1) s1.heap.objs.size (uz _),⟨⟨_,he⟩,hit⟩,λb hb=>?_,q⟩
 have hb':s1.heap.objs.size<=b:=by
  rcases wF.mp hb with rfl | hb
  ·lia
  ·rw[w6.mp hb];exact wo _
 exact I1.jM hb' (I1.aI.fresh hb')
def O4(K:wb)(g:TG)(tt:TT)(te:TE)(src:List (Option Nat))(σ : St)(vs:List V)(H1:Hp)(Q:VK):Prop:=∃a,vs=[.ref a]/\(∃xs,aO K H1 a xs) /\
 ∀D,H1 D=none->ki g tt te (Bi K a) D (dR src σ) (upd H1 D (.lst [])) (λH'=>Q (.ref D) H')
section
variable{K:wb}{ta:TA}{g:TG}{tb:TS}{tt c:TT}{te:TE}{D:cv}{σ : St}{H:Hp}{Q:VK}{a:we}{xs:List V}{src:List (Option Nat)}{o0 o0':Option V}{tl:St}
theorem zxd(h:ta σ H λvs H1=>O4 K g tt te src σ vs H1 Q):jQ src (Yk K ta) g tt te σ H Q:=h
theorem zxS(hx:aO K H a xs)(hsrc:dR src σ = o0::o0'::tl)(Rel:Nat->V->Hp->Prop)(hk:∀i v H1 H2,bG H1 H2->Rel i v H1->Rel i v H2)
  (hs:∀D i x zs o1 o2 H1 c,xs[i]? = some x->gA H tl Rel D i zs (o1::o2::tl) H1->H1 c=some (.tup [.int (i:Int),x])->ig (gA H tl Rel) g tt te D i (.ref c) (o1::o2::tl) H1)
  (hd:∀D zs H',H D=none->ah H H'->H' D=some (.lst zs)->zs.length=xs.length->(∀j y,zs[j]? = some y->Rel j y H')->Q (.ref D) H'):O4 K g tt te src σ [.ref a] H Q:=by
 refine⟨a,rfl,⟨xs,hx⟩,λD hD=>⟨λi m σ' H'=>i+m=xs.length /\ ∃zs,gA H tl Rel D i zs σ' H',⟨xs.length,by lia,[],⟨o0,o0',hsrc⟩,hD,ah.upd hD,cZ,rfl,λj y z=>by simp at z⟩,?_⟩⟩;rintro i m σ' H' ⟨him,zs,inv⟩;have hq1:=inv.2.2.1.seq hx
 by_cases hm:m=0
 ·have e:i=xs.length:=by lia
  subst e;obtain⟨_,n,s,e,hl,r⟩:=inv;exact .inl ⟨⟨xs,hq1,wo _⟩,hd D zs H' n s e hl r⟩
 ·have hi:i<xs.length:=by lia
  refine .inr ⟨⟨xs,xs[i],hq1,by simp[hi]⟩,λσ2 H2=>∃zs,gA H tl Rel D (i+1) zs σ2 H2,λσ2 H2 h=>⟨m-1,by lia,by lia,h⟩,?_⟩;rintro v H2 ⟨c,x,rfl,hn,hx',rfl⟩;obtain⟨⟨o1,o2,rfl⟩,n,s,e,hl,r⟩:=inv;have su:=ah.upd (o:=.tup [.int (i:Int),x]) hn;exact hs D i x zs o1 o2 _ c (hx' xs hq1) ⟨⟨o1,o2,rfl⟩,n,s.trans su,su _ _ e,hl,λj y hy=>hk _ _ _ _ su.keep (r j y hy)⟩ cZ
def YE(Pv:Nat->St->Hp->Prop)(m:Nat)(tb:TS)(D:cv)(σ':St)(H1:Hp):Prop :=
 ∃M:St->Hp->Prop,(∀σ2 H2,M σ2 H2->∃m',m'<m/\Pv m' σ2 H2)/\tb {D with nx:=M,ct:=M,bk:=D.nx} σ' H1
theorem zI(Pv:Nat->St->Hp->Prop)(m0:Nat)(h0:Pv m0 σ H)(hs:∀m σ' H',Pv m σ' H'->c σ' H' λb H1=>if b=true then YE Pv m tb D σ' H1 else D.nx σ' H1):BG c tb D σ H:=⟨Pv,⟨m0,h0⟩,hs⟩
theorem Ah{Pv:Nat->St->Hp->Prop}{m:Nat}{σ':St}{H1:Hp}(h:tb {D with nx:=λσ2 H2=>∃m',m'<m/\Pv m' σ2 H2,ct:=λσ2 H2=>∃m',m'<m/\Pv m' σ2 H2,bk:=D.nx} σ' H1):YE Pv m tb D σ' H1:=⟨_,λ_ _ q=>q,h⟩
def yT(K:wb)(x:V)(H:Hp)(Q:Bool->Hp->Prop):Prop:=∃k,Be K x H k/\Q k H
def Pj(K:wb)(te:TE):TT:=λσ H Q=>te σ H λx H'=>yT K x H' Q
theorem zB{X:Cx}{e:Expr}{t:TE}(h:PE X e t)(he:∀whole,isTrue e X.env whole=(do let v <- whole;standAt e.pos;holding [v] (truthy v)):=by intro _;rfl):PT X e (Pj X.K t):=zyN h he
theorem zCx{QB:Bool->Hp->Prop}(h:te σ H λx H'=>yT K x H' QB):Pj K te σ H QB:=h
theorem zBE{QB:Bool->Hp->Prop}{v:V}{ds:List wC}(h:Is K H v (.tuple ds))(q:QB (!ds.isEmpty) H):yT K v H QB:=by
 obtain⟨p,us,rfl,hs,t⟩:=bX.mp h;have hl:=t.length;refine⟨_,.inr (.inl ⟨us,hs,rfl⟩),?_⟩
 have e:us.isEmpty=ds.isEmpty:=by
  cases us<;>cases ds<;>simp_all
 rw[e];exact q
theorem CH{QB:Bool->Hp->Prop}{v:V}{ds:List wC}(h:Is K H v (.list ds))(q:QB (!ds.isEmpty) H):yT K v H QB:=by
 obtain⟨p,us,rfl,hs,t⟩:=cC.mp h;have hl:=t.length;refine⟨_,.inl ⟨us,hs,rfl⟩,?_⟩
 have e:us.isEmpty=ds.isEmpty:=by
  cases us<;>cases ds<;>simp_all
 rw[e];exact q
end
theorem OD:∀(ys:List V)(us:List wg),ys.length=us.length->(∀(i:Nat) y u,ys[i]? = some y->us[i]? = some u->bj y u)->aT ys us
 | [],[],_,_=>.nil
 | [],_::_,h,_=>by simp at h
 | _::_,[],h,_=>by simp at h
 | y::ys,u::us,h,r=>.cons (r 0 y u rfl rfl) (OD ys us (by simpa using h) λi y u h1 h2=>r (i+1) y u h1 h2)
def vz(l:List Nat):List V:=l.map λ(w:Nat)=>V.int (w:Int)
theorem j_(l:List Nat):(vz l).length=l.length:=wm ..
def Ck(vs:List V)(H1:Hp)(Q:VK):Prop:=∃j:Int,vs=[.int j]/\0<=j/\j<=1000 /\ ∀l,H1 l=none->Q (.ref l) (upd H1 l (.lst (vz (wt j.toNat))))
def Td(ta:TA):TE:=λσ H Q=>ta σ H λvs H1=>Ck vs H1 Q
theorem Zz{X:Cx}{a:Expr}{ta:TA}{p p2 pos pos2:Pos}(hc:X.calm=true)(hg:Gl X "list")(hm:X.mg "list"=none)(hg2:Gl X "range")(hm2:X.mg "range"=none)(ha:PA X [a] ta)(hs:w5 [a] X.env=[(false,eval a X.env)]:=by rfl)
  (hs2:w5 [Expr.Call (.Name "range" p2) [a] [] pos2] X.env=[(false,eval (.Call (.Name "range" p2) [a] [] pos2) X.env)]:=by rfl):PE X (.Call (.Name "list" p) [.Call (.Name "range" p2) [a] [] pos2] [] pos) (Td ta):=by
 intro pins s σ H Q I h;refine Call_ (gP I hg hm kH ?_);refine vB ?_ hs2 rfl;rw[hs2]
 show wx _ _ (spliced ((false,eval _ X.env)::backTo pos [])) _ _ s
 refine QY ?_;refine Call_ (gP I hg2 hm2 boot_range (vB (aK (ha pos2 pins s σ H _ I h) λus s1 ⟨vs,H1,I1,r1,q1⟩=>?_) hs rfl));obtain⟨j,e,j0,j1,q⟩:=q1;subst e;obtain⟨u,rfl,ru⟩:=gK r1;obtain⟨t,rfl⟩:=ru;refine call_range_1 ?_;refine Q8 ?_;have I2:Inv X pins σ H1 {s1 with heap:=s1.heap.push {cls:=.type "range",data:=.fields #[.int 0 s1.toks,.int j t,.int 1 (s1.toks+1)]},toks:=s1.toks+1+1}:=I1.kept λb o e=>wn _ e
 refine call_list_range (n:=j.toNat) (I1.ok.hd hc) (Uu ..) (small_one (by lia) (by lia) (by lia) (by lia)) (by rw[rangeSize_one];split<;>lia) (by lia) λh' tk acc c hk hD hI=>?_
 refine⟨.ref _,_,I2.laid (t':=tk) hk (wo _) ?_,rfl,q _ (I2.aI.fresh (wo _))⟩;refine⟨n_ (by rw[j_,vx];lia),acc.toList,c,OD _ _ (by rw[j_,vx,wK,hI.1]) λi y u hy hu=>?_,by simpa using hD⟩;have hu':acc[i]? = some u:=by simpa using hu
 obtain⟨t',e'⟩:=hI.2 i u hu'
 have hi:i<j.toNat:=by
  have:=(W2.mp hu').1;rw[hI.1]at this;exact this
 have hy':y=V.int (i:Int):=by
  unfold vz at hy;rw[wu,vM hi]at hy;exact(wM hy).symm
 subst hy';exact⟨t',by rw[e'];congr 1;lia⟩
theorem zqI{ta:TA}{σ : St}{H:Hp}{Q:VK}(h:ta σ H λvs H1=>Ck vs H1 Q):Td ta σ H Q:=h
theorem ZQ{n:Nat}{H:Hp}{Q:VK}(hn:n<=1000)(q:∀l H',H l=none->ah H H'->H' l=some (.lst (vz (wt n)))->Q (.ref l) H'):Ck [V.int (n:Int)] H Q :=
 ⟨_,rfl,by lia,by lia,λl hl=>q l _ hl (ah.upd hl) (by rw[wP];exact cZ)⟩
theorem ND(w:Nat)(l:List Nat):tV (.int (w:Int)) (vz l)=decide (w∈l):=by
 unfold tV vz
 induction l with
 | nil=>rfl
 | cons x l ih =>
  rw[vd,Qt,ih]
  show((x:Int) == (w:Int) || _)=_
  by_cases h:w=x
  ·subst h;simp
  ·have h':¬ (x:Int)=(w:Int):=λz=>h (by lia)
   simp[h,h']
theorem Te(l:List Nat):(vz l).all jV=true:=by
 unfold vz;rw[WO];intro y hy;obtain⟨w,_,rfl⟩:=wU.mp hy
 rfl
section
variable{K:wb}{H H':Hp}{Q:VK}{v:V}{p:we}{l:List Nat}{w:Nat}
theorem Zm(h:aU K H p (vz l))(q:Q (.bl (!decide (w∈l))) H):kJ K true (.int (w:Int)) (.ref p) H Q:=⟨p,vz l,rfl,.inr h,rfl,Te l,by rw[ND];exact q⟩
theorem zA4(h:aO K H p (vz l))(q:Q (.bl (decide (w∈l))) H):kJ K false (.int (w:Int)) (.ref p) H Q:=⟨p,vz l,rfl,.inl h,rfl,Te l,by rw[ND];exact q⟩
def TW(l:List Nat):wC:=TZ (l.map λ(w:Nat)=>(w:Int))
theorem DK :Is K H v (TW l) ↔ ∃a,v=.ref a/\aU K H a (vz l):=by
 unfold TW vz;rw[rL,WM];exact Iff.rfl
theorem F0(l:List Nat):di (TW l)=true:=zCM _
def nO(ws:List (List Nat)):wC:=.tuple (ws.map TW)
theorem yC:∀ws:List (List Nat),ck (ws.map TW)=true
 | []=>rfl
 | w::ws=>by rw[vd,ck,F0,yC ws];rfl
theorem zBz(ws:List (List Nat)):di (nO ws)=true:=by rw[nO,di];exact yC ws
theorem Ey{i:Nat}{x:V}(h:(vz l)[i]? = some x):∃hi:i<l.length,x=.int ((l[i]:Nat):Int):=by
 have hi:i<l.length:=by
  rcases wA i l.length with z | z
  ·exact z
  ·rw[wL (by rw[j_];exact z)]at h;cases h
 refine⟨hi,?_⟩;unfold vz at h;rw[wu,wc hi]at h;exact(wM h).symm
def GD(a b:Rat)(xs:List Rat):wC:=.tuple [N (1-cb xs),nO (cE a b xs),aZ a b (dA a b xs)]
def yk(h:Rat)(ws:List (List Nat))(xs:List Rat):wC:=.tuple [N h,nO ws,TN xs]
theorem NY(h:Rat)(ws:List (List Nat))(xs:List Rat):di (yk h ws xs)=true:=by rw[yk,di,ck,ck,ck,ck,kG,zBz,zG];rfl
def yB(a b:Rat)(xs:List Rat)(k:Nat):wC:=yk (aE a b xs (k+1)) (cE a b (ai a b xs k)) (ai a b xs (k+1))
def gy(a b:Rat)(xs:List Rat)(n:Nat):List wC:=(wt n).map (yB a b xs)
theorem oZ{α : Type}(f : α -> wC)(hf:∀x,di (f x)=true):∀l:List α,ck (l.map f)=true
 | []=>rfl
 | x::l=>by rw[vd,ck,hf,oZ f hf l];rfl
theorem ak.snoc{vs:List V}{ds:List wC}{d:wC}(h:ak K H vs ds)(k:Is K H v d):ak K H (vs++[v]) (ds++[d]):=h.append (.cons k .nil)
theorem pq{i:Nat}(h:i<l.length):l.take (i+1)=l.take i++[l[i]]:=by
 rw[Qo,wc h];rfl
theorem Yu{ds:List wC}{d:wC}{j:Nat}(h:Is K H v (.list ds))(e:ds[j]? = some d)(q:∀x,Is K H x d->Q x H):dw K v (.int (j:Int)) H Q:=by
 obtain⟨a,xs,rfl,h,t⟩:=cC.mp h;obtain⟨x,e1,hx⟩:=t.get e;exact jb h (kO e1) (q x hx)
theorem NL(h:Is K H v (TW l))(q:Q (.int (l.length:Int)) H):dj K [v] H Q:=FW h (by rw[wm];exact q)
end
variable{n w:Nat}{l:List Nat}{ds:List wC}
theorem Fo(a b:Rat)(xs:List Rat)(n:Nat):(gy a b xs n).length=n:=by simp[gy]
theorem zwi{a b:Rat}{xs:List Rat}{k:Nat}(h:k<n):(gy a b xs n)[k]? = some (yB a b xs k):=by
 unfold gy;rw[wu,vM h];rfl
theorem Ez(a b:Rat)(xs:List Rat)(n:Nat):gy a b xs (n+1)=gy a b xs n++[yB a b xs n]:=by
 unfold gy;rw[QF,vA];rfl
theorem zqv(a b:Rat)(xs:List Rat)(n:Nat):ck (gy a b xs n)=true:=oZ _ (λk=>NY _ _ _) _
theorem zxX{ps:List Rat}(h:¬ ps.getD w 0<1):aF ps (l++[w])=aF ps l++[w]:=by
 unfold aF;rw[Va,W4,decide_eq_false h];rfl
theorem zwH{ps:List Rat}(h:ps.getD w 0<1):aF ps (l++[w])=aF ps l:=by
 unfold aF;rw[Va,W4,decide_eq_true h];exact Wh _
theorem zwK{wave:List Nat}(h:¬ w∈wave):bV (l++[w]) wave=bV l wave++[w]:=by
 unfold bV;rw[Va];simp[W4,h]
theorem zuK{wave:List Nat}(h:w∈wave):bV (l++[w]) wave=bV l wave:=by
 unfold bV;rw[Va];simp[W4,h]
theorem EJ(l:List Nat)(w:Nat):vz (l++[w])=vz l++[V.int (w:Int)]:=by unfold vz;rw[vA];rfl
theorem zw3{xs:List Rat}{j:Nat}(h:j<xs.length):(bN xs).getD j 0=xs.getD j 0+(1-cb xs):=by
 unfold bN;rw[wa,wu,wc h,wa,wc h];rfl
theorem EN:∀ds:List wC,(∀d∈ds,wY d d=true)->Vl ds ds=true
 | [],_=>by simp[Vl]
 | d::ds,h=>by rw[Vl,h d (wz ..),EN ds λe he=>h e (wy _ he)];rfl
theorem Dc(h:∀d∈ds,wY d d=true):wY (.tuple ds) (.tuple ds)=true:=by rw[wY];exact EN ds h
theorem zDv(h:∀d∈ds,wY d d=true):wY (.list ds) (.list ds)=true:=by rw[wY];exact EN ds h
theorem MF(x:Rat):wY (N x) (N x)=true:=by rw[rN];exact decide_eq_true rfl
theorem UK(xs:List Rat):wY (TN xs) (TN xs)=true:=by rw[CK];exact decide_eq_true rfl
theorem mj{P:wC->Prop}{a b:wC}(ha:P a)(hb:P b):∀d∈[a,b],P d:=λd hd=>by
 simp only[wF,WA,or_false]at hd;rcases hd with rfl | rfl
 ·exact ha
 ·exact hb
def Sh(n:Nat)(d:wC):Prop:=d.canLay0=true/\d.depth<=n
theorem C4{n:Nat} : ∀ds:List wC,(∀d∈ds,Sh n d)->Wu ds=true/\WX ds<=n
 | [],_=>by simp[Wu,WX]
 | d::ds,h=>by
  have h1:=h d (wz ..);have h2:=C4 ds λe he=>h e (wy _ he)
  rw[Wu,WX,h1.1,h2.1];exact⟨rfl,by have:=h1.2;have:=h2.2;lia⟩
theorem nZ(h:∀d∈ds,Sh n d):Sh (n+1) (.tuple ds):=by
 have:=C4 ds h;unfold Sh;rw[vU,Vg];exact⟨this.1,by have:=this.2;lia⟩
theorem zCK(h:∀d∈ds,Sh n d):Sh (n+1) (.list ds):=by
 have:=C4 ds h;unfold Sh;rw[vU,Vg];exact⟨this.1,by have:=this.2;lia⟩
theorem Sh.mono{m:Nat}{d:wC}(h:Sh m d)(e:m<=n):Sh n d:=⟨h.1,Wa h.2 e⟩
theorem Sh.shaped{d:wC}(h:Sh n d)(e:n<=64):Wb d=true:=by
 unfold Wb;rw[h.1,ql];exact decide_eq_true (Wa h.2 e)
theorem nV(i:Int):Sh 1 (.int i):=⟨by simp[vU],by simp[Vg]⟩
theorem sY(x:Rat):Sh 2 (N x):=nZ (mj (nV _) (nV _))
theorem NB(xs:List Rat):Sh 3 (TN xs):=nZ λd hd=>by
 obtain⟨x,_,rfl⟩:=wU.mp hd;exact sY x
theorem zAi{K:wb}{H:Hp}{Q:VK}{v w:V}{d:wC}(h:Is K H v d)(k:Is K H w d)(s:Sh n d)(e:n<=64)(r:wY d d=true)(q:Q (.bl false) H):f_ K v w H Q:=Et h k (s.shaped e) (s.shaped e) (by rw[r];exact q)
theorem DL{K:wb}{H:Hp} : ∀{ds:List wC}{vs:List V},vs.length=ds.length->(∀i x,vs[i]? = some x->Is K H x (ds.getD i .none))->ak K H vs ds
 | [],[],_,_=>.nil
 | [],_::_,h,_=>by simp at h
 | _::_,[],h,_=>by simp at h
 | d::ds,v::vs,h,e=>.cons (e 0 v rfl) (DL (by simpa using h) λi x hx=>e (i+1) x hx)
section
variable{K:wb}{H H':Hp}{Q:VK}{D:cv}{σ : St}{td ty tv:TE}{a:we}{kvs:List (Key × V)}{k:Int}{v:V}
end
theorem PL:∀{ts:List Int}{ys:List V},ys.length=ts.length->(∀(j:Nat)(y:V),ys[j]? = some y->y=V.int (ts.getD j 0))->ys=ts.map V.int
 | [],[],_,_=>rfl
 | [],_::_,h,_=>by simp at h
 | _::_,[],h,_=>by simp at h
 | t::ts,y::ys,h,e=>by
  rw[vd,e 0 y rfl,PL (ts:=ts) (ys:=ys) (by simpa using h) λj z hz=>e (j+1) z hz]
  rfl
theorem OC{n:Nat}(p:Nat->Bool)(i:Nat):(wt (i+1)).filter p=(wt i).filter p++(if p i then [i]else []):=by
 rw[QF,Va];cases h:p i<;>simp[h]
def NH(K:wb)(g:TG)(tt:TT)(te:TE)(src:List (Option Nat))(σ : St)(vs:List V)(H1:Hp)(Q:VK):Prop:=∃a,vs=[.ref a]/\(∃xs,aU K H1 a xs) /\
 ∀D,H1 D=none->ki g tt te (oE K a) D (dR src σ) (upd H1 D (.lst [])) (λH'=>Q (.ref D) H')
section
variable{K:wb}{ta:TA}{g:TG}{tt:TT}{te:TE}{σ : St}{H:Hp}{Q:VK}{a:we}{xs:List V}{src:List (Option Nat)}
theorem zwl(h:ta σ H λvs H1=>NH K g tt te src σ vs H1 Q):jQ src (Dz K ta) g tt te σ H Q:=h
theorem zrM(hx:aU K H a xs)(Pv:we->Nat->List V->St->Hp->Prop)(h0:∀D H',H D=none->ah H H'->H' D=some (.lst [])->Pv D 0 [] (dR src σ) H')(hl:∀D i ys σ' H',Pv D i ys σ' H'->aU K H' a xs)
  (hs:∀D i x ys σ' H1 c H2,xs[i]? = some x->Pv D i ys σ' H1->H1 c=none->ah H1 H2->H2 c=some (.tup [.int (i:Int),x])->ig Pv g tt te D i (.ref c) σ' H2) (hd:∀D ys σ' H',Pv D xs.length ys σ' H'->Q (.ref D) H'):NH K g tt te src σ [.ref a] H Q:=by
 refine⟨a,rfl,⟨xs,hx⟩,λD hD=>⟨λi m σ' H'=>i+m=xs.length /\ ∃ys,Pv D i ys σ' H',⟨xs.length,by lia,[],h0 D _ hD (ah.upd hD) cZ⟩,?_⟩⟩;rintro i m σ' H' ⟨him,ys,inv⟩;have hq:=hl _ _ _ _ _ inv
 by_cases hm:m=0
 ·have e:i=xs.length:=by lia
  subst e;exact .inl ⟨⟨xs,hq,wo _⟩,hd _ _ _ _ inv⟩
 ·have hi:i<xs.length:=by lia
  refine .inr ⟨⟨xs,xs[i],hq,by simp[hi]⟩,λσ2 H2=>∃ys,Pv D (i+1) ys σ2 H2,λσ2 H2 h=>⟨m-1,by lia,by lia,h⟩,?_⟩;rintro v H2 ⟨c,x,rfl,hn,hx',rfl⟩;exact hs D i x ys σ' H' c _ (hx' xs hq) inv hn (ah.upd hn) cZ
end
def pY(K:wb):R2:=λx y H Q=>∃d ds,Is K H x d/\Is K H y (.tuple ds)/\Sh 60 d/\vU (.tuple ds)=true/\Q (.bl (ds.any λe=>wY e d)) H
theorem KO{X:Cx}(hu:X.A.units+64<WD):aN X (wT .In) (pY X.K):=by
 intro pins s σ H x y v u Q I rx ry h;obtain⟨d,ds,hd,he,sd,se,q⟩:=h;obtain⟨as,h1⟩:=I.reads d x v sd.1 hd rx;obtain⟨bs,h2⟩:=I.reads (.tuple ds) y u se he ry;have sd2:=sd.2;have hm:=uk (WX ds) d.depth;exact SeqAt.in_tuple_reads h2 h1 (by rw[vU]at se;exact se) sd.1 (by lia) ⟨.bl _,H,I,rfl,q⟩
theorem zEk(xs:List Rat)(x:Rat):((xs.map N).any λe=>wY e (N x))=decide (x∈xs):=by
 induction xs with
 | nil=>rfl
 | cons y xs ih =>
  rw[vd,Qt,ih,rN]
  by_cases h:x=y
  ·subst h;simp
  ·have h':¬ y=x:=λz=>h z.symm
   simp[h,h']
theorem zBi{K:wb}{H:Hp}{Q:VK}{v w:V}{xs:List Rat}{x:Rat}(h:Is K H v (N x))(k:Is K H w (TN xs))(q:Q (.bl (decide (x∈xs))) H):pY K v w H Q :=
 ⟨N x,xs.map N,h,k,(sY x).mono (by decide),by rw[vU];exact Dm xs,by rw[zEk];exact q⟩
def jT(xs:List Rat)(v:Rat):wC:=.tuple [N v,TW (fV xs v)]
theorem UR(xs:List Rat)(v:Rat):di (jT xs v)=true:=by rw[jT,di,ck,ck,ck,kG,F0];rfl
theorem zw1(xs:List Rat)(l:List Rat):ck (l.map (jT xs))=true:=oZ _ (UR xs) l
section
variable{K:wb}{H:Hp}{Q:VK}{v w:V}{ds:List wC}{n:Nat}{l b:we}{xs zs:List V}
theorem zBr{d:wC}(h:Is K H v d)(k:Is K H w d)(s:Sh n d)(e:n<=64)(r:wY d d=true)(q:Q (.bl true) H):cO K v w H Q:=mV h k (s.shaped e) (s.shaped e) (by rw[r];exact q)
theorem zyt(a b:Bool):wY (.bool a) (.bool b)=(a == b):=by rw[wY]
theorem Ys(b:Bool):Sh 1 (.bool b):=⟨by simp[vU],by simp[Vg]⟩
theorem zCW{a b:Bool}(q:Q (.bl (a == b)) H):cO K (.bl a) (.bl b) H Q:=mV (ky.mpr rfl) (ky.mpr rfl) ((Ys a).shaped (by decide)) ((Ys b).shaped (by decide)) (by rw[zyt];exact q)
theorem zC5{k:Int}(h:H l=some (.lst xs))(h0 : -1000<=k)(h1:k<=1000)(z:xs.length*k.toNat<=1000)(q:∀p H',H p=none->ah H H'->H' p=some (.lst (vc k.toNat xs).flatten)->Q (.ref p) H'):rq (.ref l) (.int k) H Q :=
 ⟨l,k,xs,rfl,rfl,h,by lia,by lia,by have:=jI z;lia,λp hp=>q p _ hp (ah.upd hp) cZ⟩
theorem ak.Kg{d:wC}(h:Is K H v d):∀n:Nat,ak K H (vc n v) (vc n d)
 | 0=>.nil
 | n+1=>.cons h (ak.Kg h n)
end
theorem lE{K:wb}{H:Hp}{Q:VK}{v:V}{ds:List wC}{d:wC}(h:Is K H v (.list (ds++[d])))(q:∀x,Is K H x d->Q x H):dw K v (.int (-1)) H Q:=by
 obtain⟨a,xs,rfl,hs,t⟩:=cC.mp h;have hl:=t.length;rw[wR,vV]at hl;obtain⟨x,e1,hx⟩:=t.get (i:=ds.length) (d:=d) (by rw[vi (wo _),Vf];rfl);exact jb hs (ED (by rw[hl];exact e1)) (q x hx)
def C0(K:wb):List V->Hp->VK->Prop:=λxs H Q=>∃(p:we)(bs:List Bool),xs=[.ref p]/\aO K H p (bs.map V.bl)/\Q (.bl (bs.any id)) H
theorem zDs:vN "any"=some (.builtin "any"):=by decide +kernel
theorem ztK(bs:List Bool):((wt bs.length).any λi=>(bs[i]?).getD true)=bs.any id:=by
 rw[vL,uB,uB]
 constructor
 ·rintro ⟨i,hi,h⟩
  rw[wH]at hi;rw[wc hi]at h;exact⟨bs[i],vK hi,h⟩
 ·rintro ⟨b,hb,h⟩
  obtain⟨i,hi,rfl⟩:=wX hb;exact⟨i,wH.mpr hi,by rw[wc hi];exact h⟩
open PyProof.V PySem.Calls in
theorem zwT{X:Cx}(hc:X.calm=true):aJ X (.builtin "any") (C0 X.K):=by
 intro pins s σ H xs us Q I r h;obtain⟨p,bs,rfl,hq,q⟩:=h;obtain⟨u,rfl,rx⟩:=gK r;cases rx;obtain⟨its,r',pl,hz⟩:=I.list hq;have hi:its=bs.map Value.bool:=Ls r';have hl:s.heap.IsList p its.toArray:=pl.isList;have hlt:p<s.heap.objs.size:=by obtain⟨_,e,_⟩:=hl;exact wD e
 refine call_any_walk (qz hl ?_)
 refine⟨s.heap.objs.size,[s.heap.objs.size,p],[s.heap.objs.size],its.toArray.size,_,_,λi=>(bs[i]?).getD true,rfl,uQ (A:=X.A.in1) (I.ok.hd hc) _ p (wQ hlt) its.toArray,
  ⟨⟨_,wN _ rfl,rfl,rfl⟩,hl.push _⟩,λi v s' Q' E' hP hQ=>?_,λh' tk hk=>?_⟩
 ·have hP:its.toArray[i]? = some v:=hP
  rw[hi]at hP;simp only[Xa,wu,Vs]at hP;obtain⟨b,e,rfl⟩:=hP;simp only[e,Qw]at hQ;exact Wo hQ
 ·have e:((wt its.toArray.size).any λi=>(bs[i]?).getD true)=bs.any id:=by
   rw[wO,hi,wm];exact ztK bs
  rw[e];exact⟨.bl (bs.any id),H,I.kept (t':=tk) (λb x e=>hk b x (λhm=>by rw[w6.mp hm]at e;exact Vj _ (wD e)) (wn _ e)),rfl,q⟩
theorem zAh{K:wb}{H:Hp}{Q:VK}{p:we}{bs:List Bool}(h:aO K H p (bs.map V.bl))(q:Q (.bl (bs.any id)) H):C0 K [.ref p] H Q:=⟨p,bs,rfl,h,q⟩
def DS(K:wb):List V->Hp->VK->Prop:=λxs H Q=>∃(p:we)(ns:List Int),xs=[.ref p]/\aO K H p (ns.map V.int)/\Q (.int ns.sum) H
section
open PyProof.V PySem.Calls PySem.W
variable{prog:wI}{w:wJ}{A:vb}{E:wg->wl->Prop}{s:wl}
theorem zAS{t:we}{xs:Array (Int × Tok)}{Q:wg->wl->Prop}(hh:A.handled=none)(ht:s.heap.IsList t (intItems xs))
  (h:∀h' tk t',(∀b o,s.heap.get? b=some o->h'.get? b=some o)->Q (.int (preSum (numAt xs) xs.size) t') {s with heap:=h',toks:=tk}) :
  wx (model prog w) A (call (.builtin "sum") [.ref t]) Q E s:=by
 obtain⟨o,ho,hc,n,hd⟩:=id ht;have hne:t≠s.heap.objs.size:=wQ (wD ho);have hsz:(intItems xs).size=xs.size:=by simp[intItems]
 have W:=(uQ (prog:=prog) (w:=w) (A:=A.in1) hh s.heap.objs.size t hne (intItems xs)).toS;rw[hsz]at W;refine call_sum_walkAnyS (qz ht ?_);refine⟨s.heap.objs.size,_,_,_,_,_,_,numAt xs,rfl,W,⟨⟨_,wN _ rfl,rfl,rfl⟩,ht.at λo e=>wn _ e⟩,λb hb=>?_,λi v hP=>intItems_at hP,λs' t' hm=>?_⟩
 ·rcases wF.mp hb with rfl | hb
  ·exact wD (wN _ rfl)
  ·obtain rfl:=w6.mp hb
   exact wD (wn _ ho)
 ·obtain⟨h',g',d',tk',os'⟩:=s'
  have e1:g'=s.gens:=hm.gens;have e2:d'=s.drawn:=hm.drawn;have e3:os'=s.os:=hm.os;subst e1 e2 e3;exact h h' tk' t' λb o e=>hm.heap b o (λhb=>absurd (wD e) ((w6.mp hb) ▸ Vj _)) (wn _ e)
theorem ztL{X:Cx}(hc:X.calm=true):aJ X (.builtin "sum") (DS X.K):=by
 intro pins s σ H xs us Q I r h;obtain⟨p,ns,rfl,hq,q⟩:=h;obtain⟨u,rfl,rx⟩:=gK r;cases rx;obtain⟨its,r',pl,hz⟩:=I.list hq;have hI:=AF r';have hT:s.heap.IsList p its.toArray:=pl.isList;obtain⟨zs,hx⟩:=hI.allInts.items;have hn:numsOf its.toArray.toList=ns:=by rw[show its.toArray.toList=its from rfl,hI.numsOf]
 rw[hx]at hT hn;rw[nums_intItems]at hn;refine zAS (I.ok.hd hc) hT λh' tk t' hk=>?_
 rw[preSum_eq,WF (by simp),hn];exact⟨.int ns.sum,H,I.kept (t':=tk) hk,⟨_,rfl⟩,q⟩
end
theorem zAy{K:wb}{H:Hp}{Q:VK}{p:we}{ns:List Int}(h:aO K H p (ns.map V.int))(q:Q (.int ns.sum) H):DS K [.ref p] H Q:=⟨p,ns,rfl,h,q⟩
abbrev N9(h:wG)(a:we):wG:=h.push {cls:=.type "tuple_iterator",data:=.fields #[.ref a,.int 0 0]}
abbrev SE(h:wG)(a b:we):wG:=(N9 h a).push {cls:=.type "list_iterator",data:=.fields #[.ref b,.int 0 0]}
abbrev SW(h:wG)(a b:we):wG:=(SE h a b).push {cls:=.type "tuple",data:=.seq #[.ref h.objs.size,.ref (N9 h a).objs.size]}
abbrev zM4(h:wG)(a b:we):wG:=(SW h a b).push {cls:=.type "tuple",data:=.seq #[.none,.none]}
abbrev zM5(h:wG)(a b:we):wG:=(zM4 h a b).push {cls:=.type "zip",data:=.fields #[.none,.bool false,.bool false,.ref (SE h a b).objs.size,.ref (SW h a b).objs.size]}
section
variable{prog:wI}{w:wJ}{A:vb}{E:wg->wl->Prop}{s:wl}
end
theorem ZT{K:wb}{H:Hp}{Q:VK}{v:V}{ds:List wC}(h:Is K H v (.list ds)\/Is K H v (.tuple ds))(q:∀l H' ys,H l=none->ah H H'->H' l=some (.lst ys)->ak K H' ys ds->Q (.ref l) H'):kz K [v] H Q:=by
 rcases h with h | h
 ·exact Sz h q
 ·exact yc h q
def NQ(K:wb)(G:wg)(tb:(St->XK)->TS)(th:TS):TS:=λD σ H=>∃W:St->XK,tb W D σ H /\ ∀σ' C o H',W σ' C o H'->qF K C G=some true/\th D σ' H'
section
variable{X:Cx}{x:Str}{G:wg}{b₀ : w9}{body suite:List w9}{np hpos pos:Pos}{tb:(St->XK)->TS}{th:TS}
theorem UE(hs:X.stack=X.env::X.outer)(hf:X.env.frame=some X.env.locals)(hg:Gl X x)(hG:X.mg x=some G)
  (hb:∀(W:St->XK)(pn:List (we × Obj))(E':wg->wl->Prop),Rj (eW X.prog X.w) (X.at pn E') W->fL (X.at pn E') body (tb W))
  (hh:∀(pn:List (we × Obj))(ex:we)(oe:Obj),fL (X.sF pn ex oe) (b₀ :: suite) th) (hdb:(x == ("__debug__" : Str))=false:=by decide) :
  PS X (.Try body [.ExceptHandler (some (.Name x np)) none (b₀ :: suite) hpos] [] [] pos) (NQ X.K G tb th):=by
 intro pins s σ H D I h;obtain⟨W,hB,hH⟩:=h;refine wpAny_Try_except ?_;have I':=I.Zg λe s1=>∃σ1 H1 s0,Inv X pins σ1 H1 s0/\eW X.prog X.w X.stack H1 s0 (W σ1) e s1
 have key:=hb W (X.pn++pins) (λe s1=>∃σ1 H1 s0,Inv X pins σ1 H1 s0/\eW X.prog X.w X.stack H1 s0 (W σ1) e s1) (λpins1 σ1 H1 s0 e s1 I1 q=>⟨σ1,H1,s0,I1.oR,q⟩) [] s σ H D I' hB;refine WB key (λf s1 hq=>?_) λe s1 he=>?_
 ·cases f with
  | next=>obtain⟨σ',H',J,q⟩:=hq;exact qS ⟨σ',H',J.oR,q⟩
  | brk=>obtain⟨σ',H',J,q⟩:=hq;exact⟨σ',H',J.oR,q⟩
  | cont=>obtain⟨σ',H',J,q⟩:=hq;exact⟨σ',H',J.oR,q⟩
  | ret u=>obtain⟨v,σ',H',J,r,q⟩:=hq;exact⟨v,σ',H',J.oR,r,q⟩
 obtain⟨σ1,H1,s0,I1,ex,C,H',B,rfl,os,bare,un,aI,F,ov,q⟩:=he;obtain⟨hm,hS⟩:=hH σ1 C none H' q;have hfs:∀b∈dX X.stack,H1 b=none /\ ∃o,s0.heap.get? b=some o /\ ∀vs,o.data≠.fields vs:=λb hb=>⟨I1.sr b hb,(I1.stack.mem hb).2⟩
 have hfr:=I.ok.frames.trans (congrArg some hs)
 have hex:H' ex=none:=by
  obtain⟨_,_,_,_,_,_,_,_,_,_,_,_,_,be,_⟩:=F;cases z:H' ex with
  | none=>rfl
  | some o =>
   obtain⟨u,e1⟩:=ov.ja ex o z;rw[be]at e1;cases e1
 have st1:=F.st;rw[hs]at F
 have exc:∀{h4:wG},fv B (X.env::X.outer) ex C .none h4->s1.heap.UpToSlots h4->∃oe,h4.get? ex=some oe/\Sb C oe/\Inv (X.sF (X.pn++pins) ex oe) [] σ1 H' {s1 with heap:=h4}:=λ{h4} F4 sm=>by
  have J:Inv X pins σ1 H' {s1 with heap:=h4}:=I1.J9 (s':={s1 with heap:=h4}) (ch:=[]) os (ov.un un hfs F4.st sm) (ov.aI aI st1 F4.st) bare (λ_ z=>nomatch z);obtain⟨_,_,oe,vs,T,oT,ts,he,hc,hd,h1,h2,hdi,_⟩:=F4;refine⟨oe,he,⟨hc,⟨vs,hd,h2⟩,hdi⟩,J.Za he hex (λz=>?_) (λz=>?_) λv z=>?_⟩
  ·obtain⟨m,⟨o,es,ep,ho,hdd,_⟩,_⟩:=J.loc
   rw[<- z]at ho;have:(some oe:Option Obj)=some o:=he.symm.trans ho;cases this;rw[hd]at hdd;cases hdd
  ·obtain⟨_,o,ho,nr⟩:=J.fh.mem z
   have:(some oe:Option Obj)=some o:=he.symm.trans ho;cases this;exact nr vs hd
  ·rw[hd]at z;cases z
 refine F.note hfr hf λh2 F2 sm2=>F2.land λh3 F3 sm3=>?_
 obtain⟨oe3,g3,x3,K3⟩:=exc F3 (sm2.trans sm3);refine wpAny_handleBy_cons (codeAny_handlers_test (rP K3 hg hG ?_ hdb)) (by intro z;cases z);have LT:PySem.W.Looks (model X.prog X.w) h3 (typeOf (.ref ex)) C:=x3.cls ▸ (Uy g3).andThen .now;refine(PySem.W.exm_one (h:=h3) K3.dS LT hm).here ?_;refine codeAny_handlers_suite ?_;refine F3.land λh4 F4 sm4=>?_
 obtain⟨oe,g4,x4,K4⟩:=exc F4 ((sm2.trans sm3).trans sm4);refine WB (hh _ ex oe [] _ _ H' _ K4 hS) (λf s6 h6=>?_) λ_ _ z=>z.elim
 cases f with
 | next=>obtain⟨σ',H6,J,q6⟩:=h6;exact⟨_,H6,J.sD I.ok,q6⟩
 | brk=>obtain⟨σ',H6,J,q6⟩:=h6;exact⟨_,H6,J.sD I.ok,q6⟩
 | cont=>obtain⟨σ',H6,J,q6⟩:=h6;exact⟨_,H6,J.sD I.ok,q6⟩
 | ret u=>obtain⟨v,σ',H6,J,r,q6⟩:=h6;exact⟨v,_,H6,J.sD I.ok,r,q6⟩
end
theorem SD{K:wb}{σ : St}{H:Hp}{D:cv}{G:wg}{tb:(St->XK)->TS}{th:TS}(W:St->XK)(h:tb W D σ H)(k:∀σ' C o H',W σ' C o H'->qF K C G=some true/\th D σ' H'):NQ K G tb th D σ H:=⟨W,h,k⟩
theorem ke{K:wb}{H:Hp}{Q:VK}(s t:String)(r:Bool)(e:wY (.str (vW s)) (.str (vW t))=r)(q:Q (.bl r) H):cO K (.str (vW s)) (.str (vW t)) H Q :=
 mV (d:=.str (vW s)) (e:=.str (vW t)) (eZ.mpr rfl) (eZ.mpr rfl) (DT s) (DT t) (by rw[e];exact q)
theorem Nb:vN "set"=some (.type "set"):=by decide +kernel
section
variable{K:wb}{H:Hp}{Q:VK}{p:we}{ns:List Int}
end
def LW(ws:List (List Nat)):wC:=.list (ws.map TW)
abbrev Mz(h:wG)(a:we):wG:=h.push {cls:=.type "list_iterator",data:=.fields #[.ref a,.int 0 0]}
abbrev RF(h:wG)(a b:we):wG:=(Mz h a).push {cls:=.type "tuple_iterator",data:=.fields #[.ref b,.int 0 0]}
abbrev OX(h:wG)(a b:we):wG:=(RF h a b).push {cls:=.type "tuple",data:=.seq #[.ref h.objs.size,.ref (Mz h a).objs.size]}
abbrev zN4(h:wG)(a b:we):wG:=(OX h a b).push {cls:=.type "tuple",data:=.seq #[.none,.none]}
abbrev zN5(h:wG)(a b:we):wG:=(zN4 h a b).push {cls:=.type "zip",data:=.fields #[.none,.bool false,.bool false,.ref (RF h a b).objs.size,.ref (OX h a b).objs.size]}
section
variable{prog:wI}{w:wJ}{A:vb}{E:wg->wl->Prop}{s:wl}
end
end L2
namespace TB
open PySem
def j3(xs:Array Nat):Prop:=∀i j,i<j->j<xs.size->xs.getD i 0<xs.getD j 0
theorem zzu{xs:Array Nat}{i:Nat}(h:i<xs.size)(d e:Nat):xs.getD i d=xs.getD i e:=by
 simp[uR,h]
theorem Fe(xs:Array Nat)(j:Nat)(R:j3 xs):∀(fuel lo hi:Nat),hi<=xs.size->lo<=hi->hi-lo<=fuel->(∀k,k<lo->xs.getD k 0<j)->(∀k,hi<=k->k<xs.size->j<=xs.getD k 0) ->
  (Qq xs j fuel lo hi<=xs.size/\(∀k,k<Qq xs j fuel lo hi->xs.getD k 0<j)/\(∀k,Qq xs j fuel lo hi<=k->k<xs.size->j<=xs.getD k 0))
 | 0,lo,hi,h1,h2,h3,a,b=>by
  have:lo=hi:=by lia
  subst this;exact⟨h1,a,b⟩
 | fuel+1,lo,hi,h1,h2,h3,a,b=>by
  unfold Qq
  by_cases c:lo<hi
  ·rw[if_pos c]
   have m1:(lo+hi) / 2<hi:=by lia
   have m2:lo<=(lo+hi) / 2:=by lia
   dsimp only;rw[zzu (wV m1 h1) j 0]
   by_cases d:xs.getD ((lo+hi) / 2) 0<j
   ·rw[if_pos d]
    refine Fe xs j R fuel _ hi h1 m1 (by lia) (λk hk=>?_) b;rcases wA k ((lo+hi) / 2)with q | q
    ·exact XE (R k _ q (by lia)) d
    ·have:k=(lo+hi) / 2:=by lia
     rw[this];exact d
   ·rw[if_neg d]
    refine Fe xs j R fuel lo _ (by lia) m2 (by lia) a (λk hk hk'=>?_);rcases Vb hk with q | q
    ·rw[<- q];lia
    ·have:=R _ k q hk';lia
  ·rw[if_neg c]
   have:lo=hi:=by lia
   subst this;exact⟨h1,a,b⟩
theorem SY{xs:Array Nat}(R:j3 xs)(j:Nat):WG xs j<=xs.size/\(∀k,k<WG xs j->xs.getD k 0<j)/\(∀k,WG xs j<=k->k<xs.size->j<=xs.getD k 0) :=
 Fe xs j R xs.size 0 xs.size (wo _) (Wm _) (by lia) (λk h=>absurd h (WI k)) (λk h h'=>absurd h' (by lia))
theorem zE3{xs:Array Nat}{i:Nat}(h:i<xs.size):xs[i]? = some (xs.getD i 0):=by simp[uR,h]
theorem Mw{t:Ws}(R:j3 t.place)(D:t.dummies = #[])(j:Nat) :
  (∃i,i<t.place.size/\t.place.getD i 0=j/\t.slot j=.live i)\/((∀i,i<t.place.size->t.place.getD i 0≠j)/\t.slot j=.empty):=by
 obtain⟨h1,h2,h3⟩:=SY R j;unfold SetTable.slot;dsimp only;have hd:XN t.dummies j=false:=by rw[D];rfl
 rw[hd];rcases wA (WG t.place j) t.place.size with q | q
 ·rw[zE3 q]
  by_cases e:t.place.getD (WG t.place j) 0=j
  ·exact .inl ⟨_,q,e,by simp[e]⟩
  ·refine .inr ⟨λi hi he=>?_,by generalize t.place.getD (WG t.place j) 0=z at e;simp[e]⟩
   rcases wA i (WG t.place j)with a | a
   ·have:=h2 i a;lia
   ·rcases Vb a with b | b
    ·rw[<- b]at he;exact e he
    ·have:=R _ i b hi
     have:=h3 _ (wo _) q
     lia
 ·have:t.place[WG t.place j]? = none:=Vv q
  rw[this];refine .inr ⟨λi hi he=>?_,by simp⟩;have:=h2 i (by lia);lia
def g(x:Nat):Nat:=x*5+1
def it(n x:Nat):Nat:=match n with | 0=>x | n+1=>g (it n x)
def s:Nat->Nat | 0=>0 | n+1=>5*s n+1
theorem MV(n:Nat):5^n=4*s n+1:=by
 induction n with
 | zero=>rfl
 | succ n ih=>rw[WY,ih];show _=4*(5*s n+1)+1;lia
theorem zEz(n x:Nat):it n x=5^n*x+s n:=by
 induction n with
 | zero=>show x=5^0*x+0;simp
 | succ n ih =>
  show g (it n x)=5^(n+1)*x+(5*s n+1)
  rw[ih,WY];unfold g;rw[W3,X7 (5^n) 5 x];lia
theorem zDg(m n x:Nat):it (m+n) x=it m (it n x):=by
 induction m with
 | zero=>rw[QG];rfl
 | succ m ih=>rw[Nat.succ_add];show g (it (m+n) x)=g (it m (it n x));rw[ih]
theorem zD9(m n:Nat):s (m+n)=5^m*s n+s m:=by
 induction m with
 | zero=>simp[s]
 | succ m ih =>
  rw[Nat.succ_add]
  show 5*s (m+n)+1=5^(m+1)*s n+(5*s m+1)
  rw[ih,WY,W3,X7 (5^m) 5];lia
theorem ZC(k:Nat):∃o,s (2^k)=2^k*(2*o+1):=by
 induction k with
 | zero=>exact⟨0,rfl⟩
 | succ k ih =>
  obtain⟨o,ho⟩:=ih
  have e:s (2^(k+1))=2^(k+1)*((2*o+1)*(2*s (2^k)+1)):=by
   have:2^(k+1)=2^k+2^k:=by rw[WY];lia
   rw[this,zD9,MV];generalize hs:s (2^k)=S at *
   have h2:(2^k+2^k)*((2*o+1)*(2*S+1))=2*(2^k*(2*o+1))*(2*S+1):=by
    rw[<- Nat.two_mul,<- W3,W3 2]
   rw[h2,<- ho];generalize S*S=z at *;have:(4*S+1)*S=4*(S*S)+S:=by rw[ug,W3,uh]
   rw[this]
   have:2*S*(2*S+1)=4*(S*S)+2*S:=by
    rw[QX,Nat.mul_one,Nat.mul_mul_mul_comm]
   rw[this];lia
  refine⟨o*(2*s (2^k)+1)+s (2^k),?_⟩;rw[e]
  congr 1
  rw[ug,uh,W3]
  lia
theorem ZX(M c a:Nat):(4*(M*c)+1)*a+M*c=a+M*(c*(4*a+1)):=by
 rw[ug,uh,QX c,Nat.mul_one,QX M];have:4*(M*c)*a=M*(c*(4*a)):=by rw[V5 4,W3,W3]
 lia
theorem zEJ(k:Nat):∀x y:Nat,∃n,n<2^k/\it n x % 2^k=y % 2^k:=by
 induction k with
 | zero=>intro x y;exact⟨0,by decide,by simp[Nat.mod_one]⟩
 | succ k ih =>
  intro x y;obtain⟨n,hn,e⟩:=ih x y;have hp:0<2^k:=Nat.pow_pos (by decide);have h2:2^(k+1)=2^k*2:=WY ..;obtain⟨o,ho⟩:=ZC k;generalize hM:2^k=M at *;rw[h2]
  by_cases c:it n x / M % 2=y / M % 2
  ·refine⟨n,by lia,?_⟩
   rw[xT,xT,e,c]
  ·refine⟨M+n,by lia,?_⟩
   rw[zDg,zEz,MV,ho];generalize it n x=a at *;rw[ZX,xT,xT,Nat.add_mul_mod_self_left,e,Nat.add_mul_div_left _ _ hp]
   have:(2*o+1)*(4*a+1) % 2=1:=by
    rw[ui];have h1:(2*o+1) % 2=1:=by lia
    have h2:(4*a+1) % 2=1:=by lia
    rw[h1,h2]
   congr 2
   lia
open SetTable (Probe leap runEnd bits turns)
variable{i j k mask n p:Nat}{t:Ws}{hs:List Int}{α:Type}{ow:Array (Option Nat)}
def h9(mask:Nat)(p:Probe):Probe :=
 if p.more > 0 then {p with j:=p.j+1,more:=p.more-1}else
 {p with j:=(leap mask p.i p.perturb).1,more:=runEnd mask (leap mask p.i p.perturb).1-(leap mask p.i p.perturb).1,i:=(leap mask p.i p.perturb).1,perturb:=(leap mask p.i p.perturb).2}
def way(mask:Nat)(p:Probe):Nat->Probe | 0=>p | n+1=>h9 mask (way mask p n)
def iG(mask i b:Nat):Probe:={j:=i,more:=runEnd mask i-i,i:=i,perturb:=b,dummy:=none}
def start(mask:Nat)(h:Int):Probe:=iG mask (bits h % (mask+1)) (bits h)
def lp(mask i b:Nat):Nat->Nat × Nat | 0=>(i,b) | n+1=>leap mask (lp mask i b n).1 (lp mask i b n).2
theorem zr(mask:Nat)(p:Probe)(m:Nat):∀n,way mask p (m+n)=way mask (way mask p m) n
 | 0=>rfl
 | n+1=>by show h9 mask (way mask p (m+n))=h9 mask (way mask (way mask p m) n);rw[zr mask p m n]
theorem SN(mask:Nat)(p:Probe):∀n,(way mask p n).dummy=p.dummy
 | 0=>rfl
 | n+1=>by
  show(h9 mask (way mask p n)).dummy=p.dummy
  rw[<- SN mask p n];unfold h9;split<;>rfl
theorem p5(mask i b:Nat):∀n,n<=runEnd mask i-i->way mask (iG mask i b) n = {j:=i+n,more:=runEnd mask i-i-n,i:=i,perturb:=b,dummy:=none}
 | 0,_=>rfl
 | n+1,h=>by
  show h9 mask (way mask (iG mask i b) n)=_
  rw[p5 mask i b n (by lia)];unfold h9;dsimp only;rw[if_pos (by lia)]
  congr 1
theorem BS(mask i b:Nat):way mask (iG mask i b) (runEnd mask i-i+1)=iG mask (leap mask i b).1 (leap mask i b).2:=by
 show h9 mask (way mask (iG mask i b) (runEnd mask i-i))=_
 rw[p5 mask i b _ (wo _)];unfold h9;dsimp only;rw[if_neg (by lia)]
 rfl
theorem zCE(mask i:Nat):runEnd mask i-i<=9:=by unfold runEnd;split<;>lia
theorem Mu(mask i b:Nat):∀m,∃n,n<=10*m/\way mask (iG mask i b) n=iG mask (lp mask i b m).1 (lp mask i b m).2
 | 0=>⟨0,wo _,rfl⟩
 | m+1=>by
  obtain⟨n,hn,e⟩:=Mu mask i b m;have:=zCE mask (lp mask i b m).1;refine⟨n+(runEnd mask (lp mask i b m).1-(lp mask i b m).1+1),by lia,?_⟩;rw[zr,e,BS];rfl
theorem KP(mask i b:Nat):∀n,(lp mask i b n).2=b / 32^n
 | 0=>by simp[lp]
 | n+1=>by
  show(lp mask i b n).2 / 32=_
  rw[KP mask i b n,WY,xU]
theorem Uz(mask i b c:Nat)(h:b / 32^c=0):∀n,(lp mask i b (c+1+n)).1=it n (lp mask i b (c+1)).1 % (mask+1)
 | 0=>by
  show(lp mask i b (c+1)).1=(lp mask i b (c+1)).1 % (mask+1)
  show _ % _=_ % _ % _
  rw[Nat.mod_mod]
 | n+1=>by
  show((lp mask i b (c+1+n)).1*5+1+(lp mask i b (c+1+n)).2 / 32) % (mask+1)=g (it n _) % _
  have:(lp mask i b (c+1+n)).2 / 32=0:=by
   rw[KP]
   have:b / 32^(c+1+n)=0:=by
    rw[WS,QV,<- xU,h,Nat.zero_div]
   rw[this]
  rw[this,Uz mask i b c h n];unfold g;rw[XG,Nat.add_mod,ui,Nat.mod_mod,<- ui,<- Nat.add_mod]
theorem Yh(h:Int):bits h<2^64:=by unfold bits;lia
theorem Ym(hm:mask+1=2^k){b:Nat}(hb:b<2^64)(hj:j<=mask):∃m,m<=mask+14/\(lp mask i b m).1=j:=by
 have h0:b / 32^13=0:=Nat.div_eq_of_lt (wV hb (by decide));obtain⟨n,hn,e⟩:=zEJ k (lp mask i b 14).1 j;refine⟨13+1+n,by lia,?_⟩;rw[Uz mask i b 13 h0,hm,e,xp (by lia)]
theorem zwp(hm:mask+1=2^k){b:Nat}(hb:b<2^64)(hj:j<=mask):∃n,n<10*turns mask/\(way mask (iG mask i b) n).j=j:=by
 obtain⟨m,hm',e⟩:=Ym hm (i:=i) hb hj;obtain⟨n,hn,e'⟩:=Mu mask i b m;refine⟨n,by unfold turns;lia,?_⟩;rw[e'];exact e
theorem BH(h:i<=mask):i<=runEnd mask i/\runEnd mask i<=mask:=by unfold runEnd;split<;>lia
theorem OA{mask:Nat}{p:Probe}(h:p.j+p.more<=mask):∀n,(way mask p n).j+(way mask p n).more<=mask
 | 0=>h
 | n+1=>by
  have ih:=OA h n
  show(h9 mask (way mask p n)).j+(h9 mask (way mask p n)).more<=mask
  unfold h9
  split
  ·dsimp only;lia
  ·dsimp only
   have:(leap mask (way mask p n).i (way mask p n).perturb).1<=mask:=by
    unfold leap;dsimp only;exact VQ (qm _ (QE _))
   have:=BH this
   lia
theorem zyz(mask:Nat)(h:Int)(n:Nat):(way mask (start mask h) n).j<=mask:=by
 have h1:bits h % (mask+1)<=mask:=VQ (qm _ (QE _));have h2:=BH h1;have:=OA (mask:=mask) (p:=start mask h) (by unfold start iG;dsimp only;lia) n
 lia
def In(t:Ws)(j:Nat):Prop:=∃i,i<t.place.size/\t.place.getD i 0=j
structure Tb(t:Ws)(hs:List Int):Prop where
 jx:j3 t.place
 size:t.place.size=hs.length
 og:t.dummies = #[]
 two:∃k,3<=k/\t.mask+1=2^k
 le:∀i,i<t.place.size->t.place.getD i 0<=t.mask
 room:t.place.size<=t.mask
 path:∀i,i<t.place.size->∃n,(way t.mask (start t.mask (hs.getD i 0)) n).j=t.place.getD i 0 /\ ∀m,m<n->In t (way t.mask (start t.mask (hs.getD i 0)) m).j
theorem zEv{P:Nat->Prop}(h:P n):∃m,m<=n/\P m /\ ∀k,k<m->¬ P k:=by
 induction n using uS with
 | _ n ih =>
  by_cases c:∃k,k<n/\P k
  ·obtain⟨k,hk,hp⟩:=c
   obtain⟨m,h1,h2,h3⟩:=ih k hk hp;exact⟨m,by lia,h2,h3⟩
  ·exact⟨n,wo _,h,λk hk hp=>c ⟨k,hk,hp⟩⟩
theorem B4{xs:Array Nat}(R:j3 xs)(hi:i<xs.size)(hj:j<xs.size)(e:xs.getD i 0=xs.getD j 0):i=j:=by
 rcases WU i j with q | q | q
 ·have:=R i j q hj;lia
 ·exact q
 ·have:=R j i q hi;lia
theorem UQ{t:Ws}(R:j3 t.place):∀j,(∀j',j'<=j->In t j')->∃i,i<t.place.size/\t.place.getD i 0=j/\j<=i
 | 0,h=>by obtain⟨i,hi,e⟩:=h 0 (wo _);exact⟨i,hi,e,Wm _⟩
 | j+1,h=>by
  obtain⟨i,hi,e,hle⟩:=UQ R j λj' hj'=>h j' (by lia)
  obtain⟨i',hi',e'⟩:=h (j+1) (wo _);refine⟨i',hi',e',?_⟩;rcases WU i i' with q | q | q
  ·lia
  ·subst q;lia
  ·have:=R i' i q hi;lia
theorem Tb.gap(b:Tb t hs):∃j,j<=t.mask /\ ¬ In t j:=by
 refine VX λc=>?_
 obtain⟨i,hi,e,hle⟩:=UQ b.jx t.place.size λj' hj'=>VX λd=>c ⟨j',Wa hj' b.room,d⟩
 lia
theorem Tb.free(b:Tb t hs)(h:Int):∃n,n<10*turns t.mask /\ ¬ In t (way t.mask (start t.mask h) n).j /\ ∀m,m<n->In t (way t.mask (start t.mask h) m).j:=by
 obtain⟨j,hj,hn⟩:=b.gap;obtain⟨k,_,hk⟩:=b.two;obtain⟨n,hn',e⟩:=zwp hk (i:=bits h % (t.mask+1)) (Yh h) hj;obtain⟨m,h1,h2,h3⟩:=zEv (P:=λn=>¬ In t (way t.mask (start t.mask h) n).j) (n:=n) (by show ¬ In t _;unfold start;rw[e];exact hn);exact⟨m,by lia,h2,λk hk=>VX (h3 k hk)⟩
theorem L3{t:Ws}(R:j3 t.place)(D:t.dummies = #[])(hashAt:Nat->Int)(h:Int){p:Probe}(dm:p.dummy=none){n0:Nat}(hE:¬ In t (way t.mask p n0).j)(hF:∀m,m<n0->In t (way t.mask p m).j) :
  ∀fuel n,n<=n0->n0-n<fuel ->
   (∃m i,n<=m/\m<n0/\i<t.place.size/\t.place.getD i 0=(way t.mask p m).j/\hashAt i=h/\(∀k,n<=k->k<m->∀i',i'<t.place.size->t.place.getD i' 0=(way t.mask p k).j->hashAt i'≠h) /\
    xb t hashAt h fuel (way t.mask p n)=some (.candidate (way t.mask p m).j i (way t.mask p (m+1)))) \/
   ((∀k,n<=k->k<n0->∀i',i'<t.place.size->t.place.getD i' 0=(way t.mask p k).j->hashAt i'≠h) /\
    xb t hashAt h fuel (way t.mask p n)=some (.empty (way t.mask p n0).j none))
 | 0,n,_,hf=>absurd hf (WI _)
 | fuel+1,n,hn,hf=>by
  unfold xb;rcases Mw R D (way t.mask p n).j with⟨i,hi,e,es⟩ | ⟨no,es⟩
  ·rw[es]
   dsimp only
   have hlt:n<n0:=by
    rcases wA n n0 with q | q
    ·exact q
    ·have:n=n0:=by lia
     subst this;exact absurd ⟨i,hi,e⟩ hE
   by_cases c:hashAt i=h
   ·rw[if_pos (by simpa using c)]
    exact .inl ⟨n,i,wo _,hlt,hi,e,c,λk h1 h2=>absurd h1 (by lia),rfl⟩
   ·rw[if_neg (by simpa using c)]
    have here:∀i',i'<t.place.size->t.place.getD i' 0=(way t.mask p n).j->hashAt i'≠h:=λi' hi' e'=>by
     rw[B4 R hi' hi (e'.trans e.symm)];exact c
    rcases L3 R D hashAt h dm hE hF fuel (n+1) hlt (by lia)with⟨m,i2,a1,a2,a3,a4,a5,a6,a7⟩ | ⟨a1,a2⟩
    ·refine .inl ⟨m,i2,by lia,a2,a3,a4,a5,λk h1 h2 i' hi' e'=>?_,a7⟩
     rcases Vb h1 with q | q
     ·subst q;exact here i' hi' e'
     ·exact a6 k q h2 i' hi' e'
    ·refine .inr ⟨λk h1 h2 i' hi' e'=>?_,a2⟩
     rcases Vb h1 with q | q
     ·subst q;exact here i' hi' e'
     ·exact a1 k q h2 i' hi' e'
  ·rw[es]
   dsimp only
   have:n=n0:=by
    rcases wA n n0 with q | q
    ·obtain⟨i,hi,e⟩:=hF n q
     exact absurd e (no i hi)
    ·lia
   subst this;refine .inr ⟨λk h1 h2=>absurd h1 (by lia),?_⟩;rw[SN,dm]
def eG{α : Type}(l:List α)(p:Nat)(x : α):List α:=l.take p++x::l.drop p
theorem Av{l:List α}(x : α)(hp:p<=l.length)(i:Nat):(eG l p x)[i]? = if i<p then l[i]? else if i=p then some x else l[i-1]?:=by
 unfold eG;have hl:(l.take p).length=p:=by rw[Wq];lia
 by_cases a:i<p
 ·rw[if_pos a,vI (by lia),xk a]
 ·rw[if_neg a,vi (by lia),hl]
  by_cases b:i=p
  ·rw[if_pos b,b,Vf];rfl
  ·rw[if_neg b]
   have:i-p=(i-1-p)+1:=by lia
   rw[this,Qm,Q0]
   congr 1;lia
theorem pI{l:List α}(x : α)(hp:p<=l.length):(eG l p x).length=l.length+1:=by
 unfold eG;rw[wR,Wq,vo,vR];lia
theorem p7(xs:Array α)(p:Nat)(x : α):(Wn xs p x).toList=eG xs.toList p x:=by
 unfold Wn eG;simp;exact WF (by simp)
theorem nU{xs:Array Nat}(x:Nat)(hp:p<=xs.size)(i:Nat):(Wn xs p x).getD i 0=if i<p then xs.getD i 0 else if i=p then x else xs.getD (i-1) 0:=by
 rw[vC,<- Wy,p7,Av x (by simpa using hp)]
 split
 ·rw[vC,<- Wy]
 ·split
  ·rfl
  ·rw[vC,<- Wy]
theorem Kv{xs:Array Nat}(x:Nat)(hp:p<=xs.size):(Wn xs p x).size=xs.size+1:=by
 rw[<- wK,p7,pI x (by simpa using hp),wK]
theorem zwE{l:List Int}(x:Int)(hp:p<=l.length)(i:Nat):(eG l p x).getD i 0=if i<p then l.getD i 0 else if i=p then x else l.getD (i-1) 0:=by
 rw[wa,Av x hp]
 split
 ·rw[wa]
 ·split
  ·rfl
  ·rw[wa]
theorem Tb.put(b:Tb t hs){h:Int}(hE:¬ In t (way t.mask (start t.mask h) n).j)(hF:∀m,m<n->In t (way t.mask (start t.mask h) m).j)(hr:t.place.size+1<=t.mask) :
  (t.put (way t.mask (start t.mask h) n).j).2<=hs.length/\Tb (t.put (way t.mask (start t.mask h) n).j).1 (eG hs (t.put (way t.mask (start t.mask h) n).j).2 h):=by
 generalize hj:(way t.mask (start t.mask h) n).j=j at *;have hjm:j<=t.mask:=by rw[<- hj];exact zyz t.mask h n
 obtain⟨q1,q2,q3⟩:=SY b.jx j;have hd:XN t.dummies j=false:=by rw[b.og];rfl
 have e2:(t.put j).2=WG t.place j:=rfl;have ep:(t.put j).1.place=Wn t.place (WG t.place j) j:=rfl;have em:(t.put j).1.mask=t.mask:=rfl
 have edm:(t.put j).1.dummies = #[]:=by
  show(if XN t.dummies j=true then _ else t.dummies)=_
  rw[hd];exact b.og
 rw[e2];generalize WG t.place j=p at *;have hp:p<=hs.length:=by rw[<- b.size];exact q1
 have inn:∀x,In t x->In (t.put j).1 x:=λx ⟨i,hi,e⟩=>by
  unfold In;rw[ep,Kv j q1];rcases wA i p with a | a
  ·exact⟨i,by lia,by rw[nU j q1,if_pos a];exact e⟩
  ·exact⟨i+1,by lia,by rw[nU j q1,if_neg (by lia),if_neg (by lia)];exact e⟩
 have ns:(t.put j).1.place.size=t.place.size+1:=by rw[ep,Kv j q1]
 have gt:∀k,p<=k->k<t.place.size->j<t.place.getD k 0:=λk h1 h2=>by
  have:=q3 k h1 h2;have:t.place.getD k 0≠j:=λe=>hE ⟨k,h2,e⟩
  lia
 refine⟨hp,⟨?_,?_,edm,em ▸ b.two,?_,?_,?_⟩⟩
 ·intro i k hik hk
  rw[ns]at hk;rw[ep,nU j q1,nU j q1]
  by_cases a:k<p
  ·rw[if_pos (by lia),if_pos a];exact b.jx i k hik (by lia)
  ·rw[if_neg a]
   by_cases c:k=p
   ·rw[if_pos c,if_pos (by lia)];exact q2 i (by lia)
   ·rw[if_neg c]
    by_cases d:i<p
    ·rw[if_pos d];exact XE (q2 i d) (gt (k-1) (by lia) (by lia))
    ·rw[if_neg d]
     by_cases f:i=p
     ·rw[if_pos f];exact gt (k-1) (by lia) (by lia)
     ·rw[if_neg f];exact b.jx (i-1) (k-1) (by lia) (by lia)
 ·rw[ns,pI h hp,b.size]
 ·intro i hi
  rw[ns]at hi;rw[ep,nU j q1,em]
  split
  ·exact b.le i (by lia)
  ·split
   ·exact hjm
   ·exact b.le (i-1) (by lia)
 ·rw[ns,em];exact hr
 ·intro i hi
  rw[ns]at hi;rw[ep,nU j q1,em,zwE h hp]
  split
  ·obtain⟨m,h1,h2⟩:=b.path i (by lia)
   exact⟨m,h1,λk hk=>inn _ (h2 k hk)⟩
  ·split
   ·exact⟨n,hj,λk hk=>inn _ (hF k hk)⟩
   ·obtain⟨m,h1,h2⟩:=b.path (i-1) (by lia)
    exact⟨m,h1,λk hk=>inn _ (h2 k hk)⟩
structure Ow(mask:Nat)(ow:Array (Option Nat))(hs:List Int):Prop where
 size:ow.size=mask+1
 cnt:ow.toList.countP Uh=hs.length
 inj:∀j j' k,ow.getD j none=some k->ow.getD j' none=some k->j=j'
 lt:∀j k,ow.getD j none=some k->k<hs.length
 has:∀k,k<hs.length->∃j,ow.getD j none=some k
 path:∀k j,ow.getD j none=some k->∃n,(way mask (start mask (hs.getD k 0)) n).j=j /\ ∀m,m<n->ow.getD (way mask (start mask (hs.getD k 0)) m).j none≠none
theorem Ks(mask i b:Nat):∀m,lp mask i b (m+1)=lp mask (leap mask i b).1 (leap mask i b).2 m
 | 0=>rfl
 | m+1=>by
  show leap mask (lp mask i b (m+1)).1 (lp mask i b (m+1)).2=leap mask (lp mask (leap mask i b).1 (leap mask i b).2 m).1 _
  rw[Ks mask i b m]
theorem ET(h:j<ow.size)(d e:Option Nat):ow.getD j d=ow.getD j e:=by simp[uR,h]
theorem Ou{mask:Nat}{ow:Array (Option Nat)}(hz:ow.size=mask+1):∀fuel i b,i<=mask->(∃m,m<fuel/\ow.getD (lp mask i b m).1 none=none/\(lp mask i b m).1<=mask) ->
  ∃j n,W0 mask ow fuel i b=some j/\(way mask (iG mask i b) n).j=j/\j<=mask/\ow.getD j none=none /\ ∀m,m<n->ow.getD (way mask (iG mask i b) m).j none≠none
 | 0,i,b,_,⟨m,h,_⟩=>absurd h (WI _)
 | fuel+1,i,b,hi,⟨m,hm,hn,hle⟩=>by
  unfold W0;have hr:=BH hi;cases hf:(wt (runEnd mask i+1-i)).find? λk=>(ow.getD (i+k) (some 0)).isNone with
  | some k =>
   rw[List.find?_range_eq_some]at hf;obtain⟨h1,h2,h3⟩:=hf;have h2:k<runEnd mask i+1-i:=by simpa using h2
   refine⟨i+k,k,rfl,?_,by lia,?_,λm hm=>?_⟩
   ·rw[p5 mask i b k (by lia)]
   ·rw[ET (by lia) none (some 0)];simpa using h1
   ·rw[p5 mask i b m (by lia)]
    have:=h3 m hm
    show ow.getD (i+m) none≠none
    rw[ET (by lia) none (some 0)];intro e;rw[e]at this;exact absurd this (by decide)
  | none =>
   rw[List.find?_range_eq_none]at hf
   have all:∀k,k<=runEnd mask i-i->ow.getD (i+k) none≠none:=λk hk e=>by
    have:=hf k (by lia);rw[ET (by lia) (some 0) none,e]at this;exact absurd this (by decide)
   cases m with
   | zero=>exact absurd hn (all 0 (Wm _))
   | succ m =>
    rw[Ks]at hn hle;have hi':(leap mask i b).1<=mask:=by unfold leap;dsimp only;exact VQ (qm _ (QE _))
    obtain⟨j,n,e1,e2,e3,e4,e5⟩:=Ou hz fuel (leap mask i b).1 (leap mask i b).2 hi' ⟨m,by lia,hn,hle⟩;refine⟨j,runEnd mask i-i+1+n,e1,by rw[zr,BS];exact e2,e3,e4,λm' hm'=>?_⟩;rcases wA m' (runEnd mask i-i+1)with q | q
    ·rw[p5 mask i b m' (by lia)];exact all m' (by lia)
    ·have:m'=runEnd mask i-i+1+(m'-(runEnd mask i-i+1)):=by lia
     rw[this,zr,BS];exact e5 _ (by lia)
theorem Ow.gap(o:Ow mask ow hs)(h:hs.length<=mask):∃j,j<=mask/\ow.getD j none=none:=by
 refine VX λc=>?_
 have:ow.toList.countP Uh=ow.toList.length:=List.countP_eq_length.mpr λa ha=>by
  obtain⟨j,hj,e⟩:=wX ha;rw[wK,o.size]at hj;cases a with
  | some _=>rfl
  | none =>
   refine absurd ⟨j,by lia,?_⟩ c;rw[vC,<- Wy,wc (by rw[wK,o.size];exact hj),e]
   rfl
 have h2:ow.toList.length=mask+1:=by rw[wK,o.size]
 have:=o.cnt
 lia
theorem zyo(h:j<ow.size)(v:Option Nat)(x:Nat):(ow.setIfInBounds j v).getD x none=if x=j then v else ow.getD x none:=by
 rw[vC,Array.getElem?_setIfInBounds]
 by_cases e:j=x
 ·subst e;rw[if_pos rfl,if_pos rfl,if_pos h];rfl
 ·rw[if_neg e,if_neg (λq=>e q.symm),vC]
theorem Ow.step(hm:mask+1=2^k)(o:Ow mask ow hs)(hl:hs.length<=mask)(h:Int) :
  ∃j,W0 mask ow (turns mask) (bits h % (mask+1)) (bits h)=some j/\Ow mask (ow.setIfInBounds j (some hs.length)) (hs++[h]):=by
 obtain⟨j0,hj0,e0⟩:=o.gap hl;obtain⟨m,hm',em⟩:=Ym hm (i:=bits h % (mask+1)) (Yh h) hj0;obtain⟨j,n,e1,e2,e3,e4,e5⟩:=Ou o.size (turns mask) (bits h % (mask+1)) (bits h) (VQ (qm _ (QE _))) ⟨m,by unfold turns;lia,by rw[em];exact e0,by rw[em];exact hj0⟩;have hjs:j<ow.size:=by rw[o.size];lia
 have G:=zyo hjs (some hs.length);have hlen:(hs++[h]).length=hs.length+1:=by simp
 have old:∀k,k<hs.length->(hs++[h]).getD k 0=hs.getD k 0:=λk hk=>by
  rw[wa,wa,vI hk]
 refine⟨j,e1,⟨by simpa using o.size,?_,?_,?_,?_,?_⟩⟩
 ·rw[Array.toList_setIfInBounds,List.countP_set (by simpa using hjs),o.cnt,hlen]
  have:ow.toList[j]'(by simpa using hjs)=none:=by
   rw[vC,vY hjs]at e4
   simpa using e4
  simp[this]
 ·intro x x' k h1 h2
  rw[G]at h1 h2
  split at h1
  ·split at h2
   ·rename_i a b;rw[a,b]
   ·have:=o.lt _ _ h2;have:=wM h1;lia
  ·split at h2
   ·have:=o.lt _ _ h1;have:=wM h2;lia
   ·exact o.inj _ _ _ h1 h2
 ·intro x k h1
  rw[G]at h1;rw[hlen]
  split at h1
  ·have:=wM h1;lia
  ·have:=o.lt _ _ h1;lia
 ·intro k hk
  rw[hlen]at hk;rcases wA k hs.length with q | q
  ·obtain⟨x,hx⟩:=o.has k q
   refine⟨x,?_⟩;rw[G,if_neg]
   ·exact hx
   ·intro e;rw[e,e4]at hx;cases hx
  ·refine⟨j,?_⟩
   rw[G,if_pos rfl];congr 1;lia
 ·intro k x h1
  rw[G]at h1
  have keep:∀y,ow.getD y none≠none->(ow.setIfInBounds j (some hs.length)).getD y none≠none:=λy hy=>by
   rw[G];split
   ·exact λz=>nomatch z
   ·exact hy
  split at h1
  ·rename_i ex
   have ek:k=hs.length:=(wM h1).symm;have:(hs++[h]).getD k 0=h:=by rw[ek,wa,vi (wo _),Vf];rfl
   rw[this,ex];exact⟨n,e2,λm hm=>keep _ (e5 m hm)⟩
  ·rw[old k (o.lt _ _ h1)]
   obtain⟨n',a1,a2⟩:=o.path k x h1;exact⟨n',a1,λm hm=>keep _ (a2 m hm)⟩
theorem Ow.nil(mask:Nat):Ow mask (uT (mask+1) none) []:=by
 have G:∀j,(uT (mask+1) (none:Option Nat)).getD j none=none:=λj=>by
  rw[vC,Array.getElem?_replicate];split<;>rfl
 refine⟨by simp,?_,λj j' k h=>?_,λj k h=>?_,λk h=>absurd h (WI _),λk j h=>?_⟩
 ·rw[Array.toList_replicate,List.countP_replicate];rfl
 all_goals(rw[G]at h;cases h)
theorem Mq{mask k:Nat}(hm:mask+1=2^k):∀(l:List Int)(ow:Array (Option Nat))(hs:List Int),Ow mask ow hs->hs.length+l.length<=mask+1 ->
  ∃ow',(l.foldl (init:=some (ow,hs.length)) λ(acc:Option (Array (Option Nat) × Nat)) h=>do
   let (owner,k) <- acc
   let j <- W0 mask owner (turns mask) (bits h % (mask+1)) (bits h)
   pure (owner.setIfInBounds j (some k),k+1))=some (ow',hs.length+l.length)/\Ow mask ow' (hs++l)
 | [],ow,hs,o,_=>⟨ow,rfl,by rw[Wh];exact o⟩
 | h::l,ow,hs,o,hl=>by
  rw[vo]at hl;obtain⟨j,e,o'⟩:=o.step hm (by lia) h;have hlen:(hs++[h]).length=hs.length+1:=by simp
  obtain⟨ow',e',o''⟩:=Mq hm l _ _ o' (by lia);refine⟨ow',?_,by rw[Vh]at o'';exact o''⟩;rw[uF]
  have:(do
   let (owner,k) <- some (ow,hs.length)
   let j <- W0 mask owner (turns mask) (bits h % (mask+1)) (bits h)
   pure (owner.setIfInBounds j (some k),k+1):Option (Array (Option Nat) × Nat))=some (ow.setIfInBounds j (some hs.length),hs.length+1):=by
   show(W0 mask ow (turns mask) (bits h % (mask+1)) (bits h) >>= _)=_
   rw[e];rfl
  rw[this,<- hlen,e',hlen,vo]
  congr 2;lia
theorem ZZ(hm:mask+1=2^k){hs:Array Int}(hl:hs.size<=mask+1):∃ow,X8 mask hs=some ow/\Ow mask ow hs.toList:=by
 obtain⟨ow,e,o⟩:=Mq hm hs.toList _ [] (Ow.nil mask) (by simpa using hl);refine⟨ow,?_,by simpa using o⟩;unfold X8;rw[<- Array.foldl_toList];have:=congrArg (Uv (·.1)) e;exact this
def live(mask:Nat)(ow:Array (Option Nat)):List (Nat × Nat):=(wt (mask+1)).filterMap λj=>(ow.getD j none).map (j,·)
theorem rn(hz:ow.size=mask+1) : (j,k)∈live mask ow ↔ ow.getD j none=some k:=by
 unfold live;rw[qV]
 constructor
 ·rintro ⟨x,_,e⟩
  cases h:ow.getD x none with
  | none=>rw[h]at e;cases e
  | some y=>rw[h]at e;cases e;exact h
 ·intro h
  refine⟨j,?_,by rw[h];rfl⟩;rw[wH];rcases wA j (mask+1)with q | q
  ·exact q
  ·rw[vC,Vv (by lia)]at h;cases h
theorem Mc(o:Ow mask ow hs):(live mask ow).Pairwise λx y=>x.1<y.1/\x.2≠y.2:=by
 unfold live;rw[List.pairwise_filterMap];refine Us ?_ List.pairwise_lt_range;intro a b _ _ hab x hx y hy;cases h1:ow.getD a none with
 | none=>rw[h1]at hx;cases hx
 | some u =>
  cases h2:ow.getD b none with
  | none=>rw[h2]at hy;cases hy
  | some v =>
   rw[h1]at hx;rw[h2]at hy;cases hx;cases hy;refine⟨hab,λe=>?_⟩;have:u=v:=e;subst this;have:=o.inj _ _ _ h1 h2
   lia
theorem zuj(o:Ow mask ow hs):((live mask ow).map (·.2)).Perm (wt hs.length):=by
 refine(List.perm_ext_iff_of_nodup ?_ W5).mpr λk=>?_
 ·show Q5 _ _
  rw[qw];exact(Mc o).imp λh=>h.2
 ·rw[wH,wU]
  constructor
  ·rintro ⟨⟨j,k'⟩,h,rfl⟩
   exact o.lt _ _ ((rn o.size).mp h)
  ·intro h
   obtain⟨j,hj⟩:=o.has k h;exact⟨(j,k),(rn o.size).mpr hj,rfl⟩
theorem zAk(k3:3<=k)(hm:mask+1=2^k)(finger moves:Nat)(led plain:Bool){hs:Array Int}(hl:hs.size<=mask) :
  ∃(t:Ws)(ord:Array Nat),Ui mask finger moves led plain hs=some (t,ord)/\t.mask=mask/\t.led=led/\t.plain=plain/\t.moves=moves/\ord.toList.Perm (wt hs.size)/\Tb t (ord.toList.map λk=>hs.toList.getD k 0):=by
 obtain⟨ow,e,o⟩:=ZZ hm (hs:=hs) (by lia);have op:=zuj o;rw[wK]at op;have ll:(live mask ow).length=hs.size:=by have:=op.length_eq;simpa using this
 refine⟨{mask,place:=((live mask ow).map (·.1)).toArray,dummies:=#[],finger,led,moves,plain},((live mask ow).map (·.2)).toArray,?_,rfl,rfl,rfl,rfl,by simpa using op,?_⟩
 ·unfold Ui
  rw[e];rfl
 ·have pz:(((live mask ow).map (·.1)).toArray).size=(live mask ow).length:=by simp
  have pg:∀i (h:i<(live mask ow).length),(((live mask ow).map (·.1)).toArray).getD i 0=((live mask ow)[i]).1:=λi h=>by
   rw[vC];simp[h]
  have inn:∀x,ow.getD x none≠none->In {mask,place:=((live mask ow).map (·.1)).toArray,dummies:=#[],finger,led,moves,plain} x:=λx hx=>by
   cases hy:ow.getD x none with
   | none=>exact absurd hy hx
   | some y =>
    obtain⟨i,hi,ei⟩:=wX ((rn o.size).mpr hy);exact⟨i,by show i<(((live mask ow).map (·.1)).toArray).size;rw[pz];exact hi,by show(((live mask ow).map (·.1)).toArray).getD i 0=x;rw[pg i hi,ei]⟩
  refine⟨?_,?_,rfl,⟨k,k3,hm⟩,?_,?_,?_⟩
  ·intro i j hij hj
   have hj:j<(live mask ow).length:=by rw[<- pz];exact hj
   show(((live mask ow).map (·.1)).toArray).getD i 0<(((live mask ow).map (·.1)).toArray).getD j 0
   rw[pg i (by lia),pg j hj];exact(We.mp (Mc o) i j (by lia) hj hij).1
  ·show(((live mask ow).map (·.1)).toArray).size=_
   rw[pz];simp
  ·intro i hi
   have hi:i<(live mask ow).length:=by rw[<- pz];exact hi
   show(((live mask ow).map (·.1)).toArray).getD i 0<=mask
   rw[pg i hi];have:=(rn o.size).mp (show(((live mask ow)[i]).1,((live mask ow)[i]).2)∈live mask ow from vK hi);rcases wA ((live mask ow)[i]).1 (mask+1)with q | q
   ·lia
   ·rw[vC,Vv (by rw[o.size];lia)]at this;cases this
  ·show(((live mask ow).map (·.1)).toArray).size<=mask
   rw[pz,ll];exact hl
  ·intro i hi
   have hi:i<(live mask ow).length:=by rw[<- pz];exact hi
   have hm':=(rn o.size).mp (show(((live mask ow)[i]).1,((live mask ow)[i]).2)∈live mask ow from vK hi)
   have eh:(((live mask ow).map (·.2)).toArray.toList.map λk=>hs.toList.getD k 0).getD i 0=hs.toList.getD ((live mask ow)[i]).2 0:=by
    rw[wa];simp[hi]
   obtain⟨n,a1,a2⟩:=o.path _ _ hm'
   show ∃n,(way mask (start mask (_)) n).j=(((live mask ow).map (·.1)).toArray).getD i 0/\_
   rw[pg i hi,eh];exact⟨n,a1,λm hm=>inn _ (a2 m hm)⟩
theorem KI(n:Nat):∀(fuel size:Nat),∃m,Wl n fuel size=size*2^m/\(n<size*2^fuel->n<Wl n fuel size)/\(Wl n fuel size<=size\/Wl n fuel size<=2*n)
 | 0,size=>⟨0,by simp[Wl],λh=>by simpa [Wl] using h,.inl (by simp[Wl])⟩
 | fuel+1,size=>by
  unfold Wl
  by_cases c:size<=n
  ·rw[if_pos c]
   obtain⟨m,h1,h2,h3⟩:=KI n fuel (size*2);refine⟨m+1,?_,λh=>h2 ?_,?_⟩
   ·rw[h1,WY,V5 (2^m) 2,W3]
   ·rw[WY,V5 (2^fuel) 2,<- W3]at h;exact h
   ·rcases h3 with h3 | h3<;>right<;>lia
  ·rw[if_neg c]
   exact⟨0,by simp,λ_=>by lia,.inl (wo _)⟩
theorem zEq(h1:1<=n)(h:n<=4000):∃k,3<=k/\qq (4*n)-1+1=2^k/\4*n<=qq (4*n)-1/\qq (4*n)<=8*n:=by
 obtain⟨m,e1,e2,e3⟩:=KI (4*n) 64 8;have e0:qq (4*n)=Wl (4*n) 64 8:=rfl
 have lt := e2 (by have : (8 * 2 ^ 64 : Nat) = 147573952589676412928 := by decide
                   lia)
 rw[e0];refine⟨m+3,by lia,?_,by lia,by lia⟩;rw[XO (by lia),e1,QV,V5]
section
variable{prog:wI}{w:wJ}{K:Type}[DecidableEq K]{knd:KeyKind prog w K}{U:we->List K->Prop}{A:vb}{E:wg->wl->Prop}{s:wl}
variable{a x:we}{t:Ws}{h:wG}{α:Type}{o:Obj}{ep:Nat}
def Ent(knd:KeyKind prog w K)(U:we->List K->Prop)(h:wG)(e:Int × wg)(k:List K):Prop:=∃a,e.2=.ref a/\vH knd h k a/\e.1=vf knd k/\U a k
theorem zoI(n:Nat){v:wg}(h:carriedByValue v=true):qA n v=pure false:=by
 cases v with
 | ref a=>simp[carriedByValue]at h
 | _=>first | rfl | simp[qA] | (unfold qA;rfl)
theorem OS{k:List K}(hx:vH knd s.heap k x){Q:Bool->wl->Prop}(q:Q false s):wx (model prog w) A (qA 8 (.ref x)) Q E s:=by
 have hT:=hx.typeIs;obtain⟨o,items,n,ho,hc,hd,hi⟩:=hx;unfold qA;refine wf (wpAny_typeOf hT ?_);dsimp only;rw[if_pos (by decide)];refine wf (wp ?_);simp only[Wv,ve,if_false];refine wf (Wg ho hd ?_);refine wf ?_
 show wx _ _ (forIn items _ _) _ _ s
 rw[<- Vz];refine qc _ (λdq r s'=>r.1=none/\s'=s /\ ∀v∈dq,carriedByValue v=true) _ ?_ ?_ _ _ ⟨rfl,rfl,hi.byValue⟩
 ·rintro v dq r s' ⟨hr,rfl,hall⟩
  rw[zoI _ (hall v wz)];refine wf (wp ?_);simp only[ve,if_false];exact wp ⟨rfl,rfl,λu hu'=>hall u (wy _ hu')⟩
 ·rintro ⟨r1,r2⟩ s' ⟨hr,rfl,_⟩
  simp only at hr;subst hr;exact wp q
theorem zwf{k:List K}(hx:vH knd s.heap k x):∀(l:List wg),(∀v∈l,∃y k',v=.ref y/\vH knd s.heap k' y)->∀{Q:Bool->wl->Prop},Q false s->wx (model prog w) A (searchCouldBeSeen (.ref x) l) Q E s:=by
 intro l hl Q q;unfold searchCouldBeSeen;refine wf ?_;refine qc _ (λdq r s'=>r.1=none/\s'=s /\ ∀v∈dq,∃y k',v=.ref y/\vH knd s.heap k' y) _ ?_ ?_ _ _ ⟨rfl,rfl,hl⟩
 ·rintro v dq r s' ⟨hr,rfl,hall⟩
  obtain⟨y,k',rfl,hy⟩:=hall v wz;have rst:∀v∈dq,∃y k',v=.ref y/\vH knd s'.heap k' y:=λu hu'=>hall u (wy _ hu')
  dsimp only
  split
  ·exact wp ⟨rfl,rfl,rst⟩
  ·refine wf (wpAny_eqIsQuiet_tuple hx ?_)
   simp only[Wv,ve,if_false];refine wf (wpAny_eqIsQuiet_tuple hy ?_);simp only[Wv,ve,if_false];refine wf (OS hx ?_);simp only[Wv,ve,if_false];refine wf (OS hy ?_);simp only[Wv,ve,if_false];exact wp ⟨rfl,rfl,rst⟩
 ·rintro ⟨r1,r2⟩ s' ⟨hr,rfl,_⟩
  simp only at hr;subst hr;exact wp q
theorem zBF(R:j3 t.place)(D:t.dummies = #[]){i j:Nat}(hi:i<t.place.size)(e:t.place.getD i 0=j):t.slot j=.live i:=by
 rcases Mw R D j with⟨i',h1,h2,h3⟩ | ⟨no,_⟩
 ·rw[h3,B4 R h1 hi (h2.trans e.symm)]
 ·exact absurd e (no i hi)
theorem Ent.inj{e:Int × wg}{k k':List K}(a:Ent knd U h e k)(b:Ent knd U h e k'):k=k':=by
 obtain⟨x,h1,h2,_⟩:=a;obtain⟨y,h3,h4,_⟩:=b;rw[h1]at h3;cases h3;exact h2.inj h4
theorem Tb.fits{hs:List Int}(b:Tb t hs):t.fits hs.length=true:=by
 unfold SetTable.fits Uj;rw[b.og,b.size];have:=b.room;rw[b.size]at this
 simpa using this
theorem Tb.YY{hs:List Int}(b:Tb t hs):t.gaveWay=false:=by
 obtain⟨k',h3,e⟩:=b.two;unfold SetTable.gaveWay;have:2^k'=2*2^(k'-1):=by rw[<- Nat.pow_succ'];congr 1;lia
 have:t.mask % 2=1:=by lia
 rw[this];rfl
theorem M5{a xa:we}{k:List K}{o:Obj}{es:Array (Int × wg)}{ep:Nat}{t:Ws}(hu:A.units<WD)(hx:vH knd s.heap k xa)
  (ho:s.heap.get? a=some o) (hd:o.data=.set es ep t) (b:Tb t (es.toList.map (·.1))) (he:∀i (h:i<es.size),∃k',Ent knd U s.heap es[i] k') (n0:Nat) (hE:¬ In t (way t.mask (start t.mask (vf knd k)) n0).j) (hF:∀m,m<n0->In t (way t.mask (start t.mask (vf knd k)) m).j) (hf0:n0<10*Xb t.mask)
  {Q:SetFound->wl->Prop} (yes:(∃i,∃h:i<es.size,Ent knd U s.heap es[i] k)->Q (.there none) s) (no:(∀i (h:i<es.size),¬ Ent knd U s.heap es[i] k)->Q (.free (way t.mask (start t.mask (vf knd k)) n0).j false) s) :
  ∀(fuel n:Nat)(st:Option SetTable.Probe),n<=n0->n0-n<fuel->st.getD (t.probeStart (vf knd k))=way t.mask (start t.mask (vf knd k)) n ->
   (∀m,m<n->∀i (h:i<es.size),t.place.getD i 0=(way t.mask (start t.mask (vf knd k)) m).j->¬ Ent knd U s.heap es[i] k) ->
   wx (model prog w) A (setSearchFrom a (.ref xa) (vf knd k) true fuel st) Q E s
 | 0,n,st,_,hlt,_,_=>absurd hlt (WI _)
 | fuel+1,n,st,hn,hlt,hst,hno=>by
  have hsz:t.place.size=es.size:=by rw[b.size,wm,wK]
  have hfit:t.fits es.size=true:=by have:=b.fits;rwa[wm,wK]at this
  unfold setSearchFrom;refine wf (VT ho hd hfit ?_);dsimp only;rw[b.YY,hst];simp only[ve,if_false];have hp:=L3 b.jx b.og (λi=>(es[i]?.map (·.1)).getD 0) (vf knd k) (p:=start t.mask (vf knd k)) rfl hE hF (10*Xb t.mask) n hn (by lia);rcases hp with⟨m,i,m1,m2,i1,i2,i3,i4,e⟩ | ⟨a1,e⟩
  ·generalize hP:t.probe _ (vf knd k) (way t.mask (start t.mask (vf knd k)) n)=P
   have eP:=hP.symm.trans e;rw[eP];clear eP hP P e;dsimp only;have ies:i<es.size:=by rw[<- hsz];exact i1
   obtain⟨k',a',e1,e2,e3,e4⟩:=he i ies;have eg:es[i]? = some es[i]:=vY ies;have hent:Ent knd U s.heap es[i] k':=⟨a',e1,e2,e3,e4⟩
   have next:k'≠k->wx (model prog w) A (setSearchFrom a (.ref xa) (vf knd k) true fuel (some (way t.mask (start t.mask (vf knd k)) (m+1)))) Q E s:=λc=>by
    refine M5 hu hx ho hd b he n0 hE hF hf0 yes no fuel (m+1) _ m2 (by lia) rfl λm' hm' i' hi' ep' hent'=>?_
    rcases wA m' n with q | q
    ·exact hno m' q i' hi' ep' hent'
    ·rcases Vb (VQ hm')with q' | q'
     ·subst q'
      have:i'=i:=B4 b.jx (by rw[hsz];exact hi') i1 (ep'.trans i2.symm);subst this;exact c (hent.inj hent')
     ·refine i4 m' q q' i' (by rw[hsz];exact hi') ep' ?_
      show(es[i']?.map (·.1)).getD 0=_
      rw[vY hi'];obtain⟨_,_,_,e5,_⟩:=hent';exact e5
   have hsl:t.slot (way t.mask (start t.mask (vf knd k)) m).j=.live i:=zBF b.jx b.og i1 i2;have hsm:t.sameMemory t.moves t.mask=some true:=by unfold SetTable.sameMemory;rw[if_pos (by simp)]
   have unseen:∀v∈(es.filter λx=>x.1 == vf knd k).toList.map (λx=>x.2),∃y k',v=.ref y/\vH knd s.heap k' y:=λv hv=>by
    obtain⟨e0,h0,rfl⟩:=wU.mp hv;rw[Array.toList_filter,vg]at h0;obtain⟨j,hj,ej⟩:=wX h0.1;obtain⟨k2,y2,f1,f2,_⟩:=he j (by simpa using hj);refine⟨y2,k2,?_,f2⟩;rw[<- ej,<- f1,Array.getElem_toList]
   have eg':es[i]? = some (es[i].1,.ref a'):=by rw[eg,<- e1]
   clear eg;generalize es[i].1=h' at *;have tail:k'=k->Q (.there none) s:=λc=>yes ⟨i,ies,c ▸ hent⟩
   cases hl:t.led
   ·simp only[QN,if_true]
    refine wf (zwf hx _ unseen ?_);simp only[ve,if_false];rw[eg'];dsimp only;refine wf (Wk (wpAny_eqBool_tuple hu e2 hx ?_));refine wf (VT ho hd hfit ?_);dsimp only
    by_cases c:k'=k
    ·rw[decide_eq_true c]
     exact wp (tail c)
    ·rw[decide_eq_false c,hsm]
     simp only[QT,ve,if_false,if_true];rw[hsl];dsimp only;rw[eg'];dsimp only;refine wf (wpAny_isSame_ref_self ?_);refine wf (wp ?_);simp only[if_true];exact next c
   ·simp only[Wv,ve,if_false]
    rw[eg'];dsimp only;refine wf (Wk (wpAny_eqBool_tuple hu e2 hx ?_));refine wf (VT ho hd hfit ?_);dsimp only
    by_cases c:k'=k
    ·rw[decide_eq_true c]
     exact wp (tail c)
    ·rw[decide_eq_false c,hsm]
     simp only[QT,ve,if_false,if_true];rw[hsl];dsimp only;rw[eg'];dsimp only;refine wf (wpAny_isSame_ref_self ?_);refine wf (wp ?_);simp only[if_true];exact next c
  ·generalize hP:t.probe _ (vf knd k) (way t.mask (start t.mask (vf knd k)) n)=P
   have eP:=hP.symm.trans e;rw[eP];dsimp only;refine wp (no λi hi hent=>?_);have hi':i<t.place.size:=by rw[hsz];exact hi
   obtain⟨m,p1,p2⟩:=b.path i hi'
   have hh:(es.toList.map (·.1)).getD i 0=vf knd k:=by
    obtain⟨_,_,_,e3,_⟩:=hent;rw[wa,wu,Wy,vY hi];exact e3
   rw[hh]at p1 p2;rcases wA m n0 with q | q
   ·rcases wA m n with q' | q'
    ·exact hno m q' i hi p1.symm hent
    ·refine a1 m q' q i hi' p1.symm ?_
     show(es[i]?.map (·.1)).getD 0=_
     rw[vY hi];obtain⟨_,_,_,e3,_⟩:=hent;exact e3
   ·rcases Vb q with q' | q'
    ·subst q';exact hE ⟨i,hi',p1.symm⟩
    ·exact hE (p2 n0 q')
theorem zw6(l:List α)(p:Nat)(x : α):(eG l p x).Perm (x::l):=by
 unfold eG;refine List.perm_middle.trans (List.Perm.cons x ?_);rw[xY]
theorem x_{g:wG}{k:List K}(x:vH knd h k a)(e:∀o,h.get? a=some o->g.get? a=some o):vH knd g k a:=by
 obtain⟨o,its,n,h1,r⟩:=x;exact⟨o,its,n,e o h1,r⟩
theorem MC{g:wG}{k:List K}{d:we}{es:Array (Int × wg)}(x:vH knd h k a)(ho:h.get? d=some o)(hd:o.data=.set es ep t)(hs:vv d h g):vH knd g k a:=by
 refine x_ x λu eu=>(hs.2 a λad=>?_).trans eu
 obtain⟨u',_,_,e1,_,e2,_⟩:=x;rw[ad,ho]at e1;cases e1;rw[hd]at e2;cases e2
def gB(knd:KeyKind prog w K)(U:we->List K->Prop)(h:wG)(es:List (Int × wg))(ks:List (List K)):Prop:=es.length=ks.length /\ ∀(i:Nat)(e:Int × wg)(k:List K),es[i]? = some e->ks[i]? = some k->Ent knd U h e k
def TS(knd:KeyKind prog w K)(U:we->List K->Prop)(h:wG)(a:we)(led:Bool)(ks:List (List K)):Prop :=
 ∃o es ep t,h.get? a=some o/\o.ExactSet/\o.data=.set es ep t/\Tb t (es.toList.map (·.1))/\es.size*5<t.mask*3/\(t.mask<=7\/t.mask<=8*es.size)/\t.led=led/\t.plain=true/\gB knd U h es.toList ks/\ks.Nodup
theorem ZL(hv:∀k v,knd.is k v=true->∃i t,v=.int i t){k:List K}(hx:vH knd s.heap k x){Q:Bool->wl->Prop}(q:Q true s):wx (model prog w) A (hashByValue 8 (.ref x)) Q E s:=by
 have hT:=hx.typeIs;obtain⟨o,items,n,ho,hc,hd,hi⟩:=hx
 have hints:∀{ks:List K}{vs:List wg},ItemsAre knd ks vs->∀v∈vs,∃i t,v=.int i t:=λh=>by
  induction h with
  | nil=>intro v hv;simp at hv
  | cons h1 _ ih =>
   intro v hm;rcases wF.mp hm with rfl | hm
   ·exact hv _ _ h1
   ·exact ih v hm
 unfold hashByValue;refine wf (qU hT qx.lookup ?_);dsimp only;refine wf (Wg ho hd ?_);refine wf ?_
 show wx _ _ (forIn items _ _) _ _ s
 rw[<- Vz];refine qc _ (λdq r s'=>r.1=none/\s'=s /\ ∀v∈dq,∃i t,v=.int i t) _ ?_ ?_ _ _ ⟨rfl,rfl,hints hi⟩
 ·rintro v dq r s' ⟨hr,rfl,hall⟩
  obtain⟨i,t,rfl⟩:=hall v wz
  show wx _ _ (pure true >>= _) _ _ _
  refine wf (wp ?_);simp only[Wv,ve,if_false];exact wp ⟨rfl,rfl,λu hu'=>hall u (wy _ hu')⟩
 ·rintro ⟨r1,r2⟩ s' ⟨hr,rfl,_⟩
  simp only at hr;subst hr;exact wp q
theorem zyv{β:Type}(f : α -> β)(l:List α)(p:Nat)(x : α):(eG l p x).map f=eG (l.map f) p (f x):=by
 unfold eG;rw[vA,vd,Xp,Xo]
theorem KR{α : Type}(d : α)(es:Array α):∀l:List Nat,(∀i∈l,i<es.size)->l.filterMap (λi=>es[i]?)=l.map λi=>es.toList.getD i d
 | [],_=>rfl
 | i::l,h=>by
  have hi:=h i (wz ..);rw[qK,vY hi,vd,KR d es l λj hj=>h j (wy _ hj)];dsimp only;rw[wa,Wy,vY hi]
  rfl
theorem zwy(d : α)(l:List α):(wt l.length).map (λi=>l.getD i d)=l:=by
 refine WN (by simp) λi h1 h2=>?_
 rw[Vp,List.getElem_range,wa,wc h2]
 rfl
theorem gB.keeps{h':wG}{es:List (Int × wg)}{ks:List (List K)}{d:we}{es0:Array (Int × wg)}(x:gB knd U h es ks)(ho:h.get? d=some o)(hd:o.data=.set es0 ep t)(hs:vv d h h'):gB knd U h' es ks :=
 ⟨x.1,λi e k h1 h2=>by obtain⟨a,e1,e2,e3⟩:=x.2 i e k h1 h2;exact⟨a,e1,MC e2 ho hd hs,e3⟩⟩
theorem gB.ins{es:List (Int × wg)}{ks:List (List K)}(x:gB knd U h es ks){p:Nat}(hp:p<=ks.length){e:Int × wg}{k:List K}(c:Ent knd U h e k):gB knd U h (eG es p e) (eG ks p k):=by
 have hp':p<=es.length:=by rw[x.1];exact hp
 refine⟨by rw[pI e hp',pI k hp,x.1],λi e' k' h1 h2=>?_⟩;rw[Av e hp']at h1;rw[Av k hp]at h2
 split at h1
 ·rename_i a;rw[if_pos a]at h2;exact x.2 i e' k' h1 h2
 ·rename_i a;rw[if_neg a]at h2
  split at h1
  ·rename_i b;rw[if_pos b]at h2
   cases h1;cases h2;exact c
  ·rename_i b;rw[if_neg b]at h2;exact x.2 (i-1) e' k' h1 h2
theorem gB.ord{es:List (Int × wg)}{ks:List (List K)}(x:gB knd U h es ks){l:List Nat}(hl:∀i∈l,i<es.length):gB knd U h (l.map λi=>es.getD i (0,.none)) (l.map λi=>ks.getD i []):=by
 refine⟨by simp,λi e' k' h1 h2=>?_⟩;rw[wu]at h1 h2;cases hi:l[i]? with
 | none=>rw[hi]at h1;cases h1
 | some j =>
  rw[hi]at h1 h2;cases h1;cases h2;have hj:j<es.length:=hl j (Qz hi);have hj':j<ks.length:=by rw[<- x.1];exact hj
  refine x.2 j _ _ ?_ ?_
  ·dsimp only;rw[wa,wc hj];rfl
  ·dsimp only;rw[wa,wc hj'];rfl
theorem PN{es:Array (Int × wg)}(ho:h.get? a=some o)(hd:o.data=.set es ep t)(es':Array (Int × wg))(t':Ws) :
  (h.update a (xi es' t')).get? a=some {o with data:=.set es' (ep+1) t'}:=by
 have:=VB (xi es' t') ho (by rw[putSet_of es' t' hd];rfl);rw[putSet_of es' t' hd]at this;exact this
theorem zxw{es:Array (Int × wg)}{ks:List (List K)}(ho:s.heap.get? a=some o)(hex:o.ExactSet)(hd:o.data=.set es ep t)(b:Tb t (es.toList.map (·.1)))(hpl:t.plain=true)
  (hk:gB knd U s.heap es.toList ks) (hnd:ks.Nodup) (h1:1<=es.size) (hz:es.size<=1000) {Q:Unit->wl->Prop} (q:∀h' ks',vv a s.heap h'->TS knd U h' a t.led ks'->ks'.Perm ks->Q () {s with heap:=h'}) :
  wx (model prog w) A (setRelay a (Xc es.size)) Q E s:=by
 have hfit:t.fits es.size=true:=by have:=b.fits;rwa[wm,wK]at this
 have hg:Xc es.size=4*es.size:=by unfold Xc;rw[if_neg (by lia),V5]
 obtain⟨k2,k3,s1,s2,s3⟩:=zEq (n:=es.size) h1 (by lia);unfold setRelay;rw[hg];refine wf (VT ho hd hfit ?_);dsimp only;rw[if_neg (by rw[Vw];lia)];obtain⟨t2,ord,e2,m2,l2,p2,_,op,b2⟩:=zAk k3 s1 t.finger (t.movedTo (qq (4*es.size)-1)) t.led t.plain (hs:=es.map (·.1)) (by rw[u8];lia);rw[u8]at op;have olt:∀i∈ord.toList,i<es.size:=λi hi=>wH.mp (op.mem_iff.mp hi)
 have e2':t.relaid (es.map (·.1)) (4*es.size)=some (t2,ord):=e2;rw[e2']
 have fe:(ord.filterMap (λi=>es[i]?)).toList=ord.toList.map λi=>es.toList.getD i (0,.none):=by
  rw[Array.toList_filterMap];exact KR _ es _ olt
 have fz:(ord.filterMap (λi=>es[i]?)).size=es.size:=by
  rw[<- wK,fe,wm,op.length_eq,vx]
 refine wf ?_
 show wx _ _ (if((ord.filterMap (λi=>es[i]?)).size != es.size)=true then(unsupported "internal:set-table-lost-an-element" >>= λ_=>pure (ord.filterMap (λi=>es[i]?),t2))else pure (ord.filterMap (λi=>es[i]?),t2)) _ _ _
 rw[if_neg (by rw[fz];simp)];refine wp ?_;refine wpAny_storeSet_of ho hd ?_ (by rw[fz,Vw];lia);have hsb:=qL s.heap a (xi (ord.filterMap (λi=>es[i]?)) t2);have hkk:gB knd U s.heap (ord.filterMap (λi=>es[i]?)).toList (ord.toList.map λi=>ks.getD i []):=by rw[fe];exact hk.ord λi hi=>by rw[wK];exact olt i hi
 have pm:(ord.toList.map λi=>ks.getD i []).Perm ks:=by
  have:=op.map (λi=>ks.getD i []);have hl:es.size=ks.length:=by rw[<- wK];exact hk.1
  rw[hl,zwy]at this;exact this
 refine q _ (ord.toList.map λi=>ks.getD i []) hsb ⟨_,_,_,t2,PN ho hd _ t2,hex,rfl,?_,?_,?_,l2,p2.trans hpl,hkk.keeps ho hd hsb,pm.nodup_iff.mpr hnd⟩ pm
 ·rw[fe,WM]
  have:(ord.toList.map ((λx:Int × wg=>x.1) ∘ λi=>es.toList.getD i (0,.none)))=ord.toList.map λk=>(es.map (·.1)).toList.getD k 0:=by
   refine qg λi hi=>?_
   have:=olt i hi
   show(es.toList.getD i (0,.none)).1=_
   rw[wa,wa,Array.toList_map,wu,Wy,vY this]
   rfl
  rw[this];exact b2
 ·rw[fz,m2];lia
 ·right;rw[fz,m2];lia
theorem zDj(hv:∀k v,knd.is k v=true->∃i t,v=.int i t){xa:we}{k:List K}{led:Bool}{ks:List (List K)}(hu:A.units<WD)(hS:TS knd U s.heap a led ks)(hx:vH knd s.heap k xa)(hU:U xa k)(hz:ks.length+1<=1000)
  {Q:Bool->wl->Prop} (q:∀h' ks',vv a s.heap h'->TS knd U h' a led ks'->(k∈ks->ks'=ks)->(k ∉ ks->ks'.Perm (k::ks))->∀b,Q b {s with heap:=h'}) :
  wx (model prog w) A (setAddHashed a (.ref xa) (vf knd k)) Q E s:=by
 obtain⟨o,es,ep,t,ho,hex,hd,b,hfew,hmask,hled,hpl,⟨hkl,hke⟩,hnd⟩:=hS;rw[wK]at hkl;have hfit:t.fits es.size=true:=by have:=b.fits;rwa[wm,wK]at this
 have hsz:t.place.size=es.size:=by rw[b.size,wm,wK]
 have hent:∀i (h:i<es.size),Ent knd U s.heap es[i] (ks[i]'(by lia)):=λi h=>hke i _ _ (by rw[Wy,vY h]) (wc _)
 unfold setAddHashed setAddHashedIn;refine Wk (wf (VT ho hd hfit ?_));dsimp only;rw[show byScan (.ref xa) es=false from rfl];simp only[ve,if_false];obtain⟨n0,hf0,hE,hF⟩:=b.free (vf knd k);have hmm:t.mask<=8000:=by lia
 refine wf (M5 hu hx ho hd b (λi h=>⟨_,hent i h⟩) n0 hE hF hf0 (λhy=>?yes) (λhn=>?no) 100000 0 none (Wm _) (by unfold Xb at hf0;lia) rfl (λm hm=>absurd hm (WI _)))
 case yes =>
  dsimp only;obtain⟨i,hi,he⟩:=hy;have hk:k∈ks:=by rw[he.inj (hent i hi)];exact vK _
  exact wp (q s.heap ks (X9 a s.heap) ⟨o,es,ep,t,ho,hex,hd,b,hfew,hmask,hled,hpl,⟨by rw[wK];exact hkl,hke⟩,hnd⟩ (λ_=>rfl) (λh=>absurd hk h) _)
 case no =>
  dsimp only
  have hk:k ∉ ks:=λhm=>by
   obtain⟨i,hi,e⟩:=wX hm;exact hn i (by lia) (e ▸ hent i (by lia))
  refine wf (VT ho hd hfit ?_);dsimp only;obtain⟨k8,k3,kk⟩:=b.two
  have m7:7<=t.mask:=by
   have:2^3<=2^k8:=Xg (by decide) k3
   lia
  obtain⟨hp,tb⟩:=b.put hE hF (by rw[hsz];lia);rw[wm,wK,hkl]at hp;have q1:(t.put (way t.mask (start t.mask (vf knd k)) n0).j).1.plain=t.plain:=rfl;have q2:(t.put (way t.mask (start t.mask (vf knd k)) n0).j).1.led=t.led:=rfl;have q3:(t.put (way t.mask (start t.mask (vf knd k)) n0).j).1.mask=t.mask:=rfl;generalize (t.put (way t.mask (start t.mask (vf knd k)) n0).j).2=p at *;generalize (t.put (way t.mask (start t.mask (vf knd k)) n0).j).1=t1 at *;rw[if_pos (q1.trans hpl)];refine wf (ZL hv hx ?_);simp only[if_true];have en:Ent knd U s.heap (vf knd k,.ref xa) k:=⟨xa,rfl,hx,rfl,hU⟩
  have hkk:gB knd U s.heap (Wn es p (vf knd k,.ref xa)).toList (eG ks p k):=by
   rw[p7];exact gB.ins ⟨by rw[wK];exact hkl,hke⟩ hp en
  have tb':Tb t1 ((Wn es p (vf knd k,.ref xa)).toList.map (·.1)):=by
   rw[p7,zyv];exact tb
  have z1:(Wn es p (vf knd k,.ref xa)).size=es.size+1:=by
   rw[<- wK,p7,pI _ (by rw[wK,hkl];exact hp),wK]
  have pm:(eG ks p k).Perm (k::ks):=zw6 ks p k;have nd:(eG ks p k).Nodup:=pm.nodup_iff.mpr (WW.mpr ⟨hk,hnd⟩);refine wf (wpAny_storeSet_of ho hd ?_ (by rw[z1,Vw];lia));have hsb:=qL s.heap a (xi (Wn es p (vf knd k,.ref xa)) t1);have ho1:=PN ho hd (Wn es p (vf knd k,.ref xa)) t1
  have pz:t1.fill=es.size+1:=by
   unfold Uj;rw[tb'.og,tb'.size,wm,wK,z1];rfl
  split
  ·refine wf ?_
   have:=zxw (A:=A) (E:=E) (knd:=knd) (s:={s with heap:=s.heap.update a (xi (Wn es p (vf knd k,.ref xa)) t1)}) (ks:=eG ks p k) ho1 hex rfl tb' (q1.trans hpl) (hkk.keeps ho hd hsb) nd (by rw[z1];lia) (by rw[z1];lia)
    (Q:=λ_ s'=>wx (model prog w) A (pure true) Q E s') λh' ks' sb ts pm'=>wp (q h' ks' (hsb.trans sb) (by rw[q2,hled]at ts;exact ts) (λh=>absurd h hk) (λ_=>pm'.trans pm) _)
   rw[z1]at this;exact this
  ·rename_i c
   have c:¬ t1.tooFull=true:=by simpa using c
   unfold SetTable.tooFull at c;rw[pz]at c;refine wp (q _ (eG ks p k) hsb ⟨_,_,_,t1,ho1,hex,rfl,tb',?_,?_,q2.trans hled,q1.trans hpl,hkk.keeps ho hd hsb,nd⟩ (λh=>absurd h hk) (λ_=>pm) _)
   ·rw[z1]
    have:¬ t1.mask*3<=(es.size+1)*5:=by simpa using c
    lia
   ·rw[z1,q3];lia
end
section
variable{prog:wI}{w:wJ}{K:Type}[DecidableEq K]{knd:KeyKind prog w K}{U:we->List K->Prop}
theorem TS.same{h g:wG}{S:we}{led:Bool}{ks:List (List K)}(x:TS knd U h S led ks)(e:∀o,h.get? S=some o->g.get? S=some o)(f:∀k a,vH knd h k a->vH knd g k a):TS knd U g S led ks:=by
 obtain⟨o,es,ep,t,c1,c2,c3,c4,c5,c6,c7,c8,⟨d1,d2⟩,c9⟩:=x;refine⟨o,es,ep,t,e o c1,c2,c3,c4,c5,c6,c7,c8,⟨d1,λi y k y1 y2=>?_⟩,c9⟩;obtain⟨a,z1,z2,z3⟩:=d2 i y k y1 y2;exact⟨a,z1,f k a z2,z3⟩
theorem TS.new{h:wG}{S:we}{led:Bool}(e:h.get? S=some {cls:=.type "set",dict:=none,data:=.set #[] 0 (.fresh 0 0 led)}):TS knd U h S led [] :=
 ⟨_,#[],0,_,e,⟨rfl,rfl,rfl⟩,rfl,⟨λi j _ hj=>absurd hj (WI _),rfl,rfl,⟨3,wo _,rfl⟩,λi hi=>absurd hi (WI _),Wm _,λi hi=>absurd hi (WI _)⟩,(by show 0*5<7*3;decide),.inl (wo _),rfl,rfl,⟨rfl,λi y k y1=>by simp at y1⟩,List.nodup_nil⟩
variable{A:vb}{R:Result->wl->Prop}{I:we}{fp wr:List we}{G:Array GenState->Array GenState->Prop}{n:Nat}{P:Nat->wg->Prop}{St:Nat->wl->Prop}
theorem zD3(hv:∀k v,knd.is k v=true->∃i t,v=.int i t)(W:WalksS prog w A.in1 I fp wr G n P St){S:we}(hSf:S ∉ fp)(hu:A.units+1<WD){led:Bool}{key:Nat->List K}{ad:Nat->we}
  (hval:∀i v,P i v->v=.ref (ad i)) (hI:∀i s a k,St i s->vH knd s.heap k a->a ∉ wr) (hn:n<=999) (hU:∀j,j<n->U (ad j) (key j)) :
  ∀(c i:Nat)(s:wl)(ks:List (List K)),n-i=c->i<=n->St i s->(∀j,j<n->vH knd s.heap (key j) (ad j))->TS knd U s.heap S led ks->(∀x,x∈ks ↔ ∃j,j<i/\key j=x)->ks.length<=i ->
   (∀s' ks',Moved (S::wr) G s s'->(∀k a,vH knd s.heap k a->vH knd s'.heap k a)->TS knd U s'.heap S led ks'->(∀x,x∈ks' ↔ ∃j,j<n/\key j=x)->R (.ok (.ret .none)) s') ->
   codeAny (model prog w) A (.builtin "set.update.loop" ⟨[.ref S,.ref I],[]⟩) R s:=by
 have nw:S ∉ wr:=λx=>hSf (W.sub _ x)
 intro c
 induction c with
 | zero =>
  intro i s ks ec ei st ht hs hx hl r;obtain rfl:i=n:=by lia
  refine qr Qd ?_;rw[VY VA _];refine wf (m:=VR (.ref I)) (W.done s _ _ st λs' mv=>?_);have f:∀k a,vH knd s.heap k a->vH knd s'.heap k a:=λk a x=>x_ x λo eo=>mv.heap a o (hI i s a k st x) eo
  exact wp (r s' ks (mv.mono λ_ q=>.tail _ q) f (hs.same (λo eo=>mv.heap S o nw eo) f) hx)
 | succ c ih =>
  intro i s ks ec ei st ht hs hx hl r;have lt:i<n:=by lia
  refine qr Qd ?_;rw[VY VA _];refine wf (m:=VR (.ref I)) (W.item i s _ _ lt st λv s' pv st' mv=>?_);obtain rfl:=hval i v pv;have f:∀k a,vH knd s.heap k a->vH knd s'.heap k a:=λk a x=>x_ x λo eo=>mv.heap a o (hI i s a k st x) eo
  have hs':=hs.same (λo eo=>mv.heap S o nw eo) f;refine wf (m:=holding [Value.ref (ad i)] (setAdd S (.ref (ad i)))) (Wk ?_);unfold setAdd;refine Wk (wf (wpAny_pyHash_tuple (by exact hu) (f _ _ (ht i lt)) ?_));refine zDj hv (s:={s' with toks:=s'.toks+((key i).length+1)}) (by exact hu) hs' (f _ _ (ht i lt)) (hU i lt) (by lia) λh2 ks2 sb ts2 y1 y2 b=>?_
  have so:=hs';obtain⟨o9,_,_,_,g1,_,g2,_⟩:=so;have f2:∀k a,vH knd s'.heap k a->vH knd h2 k a:=λk a x=>MC x g1 g2 sb
  have mj:∀x,x∈ks2 ↔ ∃j,j<i+1/\key j=x:=λx=>by
   have old:x∈ks2 ↔ x=key i\/x∈ks:=by
    by_cases d:key i∈ks
    ·rw[y1 d];exact⟨.inr,λq=>q.elim (λe=>e ▸ d) id⟩
    ·rw[(y2 d).mem_iff,wF]
   rw[old,hx]
   constructor
   ·rintro (rfl | ⟨j,j1,j2⟩)
    ·exact⟨i,by lia,rfl⟩
    ·exact⟨j,by lia,j2⟩
   ·rintro ⟨j,j1,j2⟩
    rcases Vb (VQ j1)with e | e
    ·subst e;exact .inl j2.symm
    ·exact .inr ⟨j,e,j2⟩
  have len2:ks2.length<=i+1:=by
   by_cases d:key i∈ks
   ·rw[y1 d];lia
   ·rw[(y2 d).length_eq,vo];lia
  refine wp ⟨plainId_quiet VA _,ih (i+1) _ ks2 (by lia) lt (W.frame _ s' _ _ st' (WP _ _) λz hz o e=>?_) (λj hj=>f2 _ _ (f _ _ (ht j hj))) ts2 mj len2 λs3 ks3 mv3 f3 ts3 m3=>?_⟩
  ·rw[sb.2 z (λq=>hSf (q ▸ hz))];exact e
  ·refine r s3 ks3 (Moved.trans W.gtrans ((mv.mono λ_ q=>.tail _ q).then_heap (WP _ _) λz o hz e=>?_) mv3) (λk a x=>f3 k a (f2 k a (f k a x))) ts3 m3
   rw[sb.2 z (λq=>hz (q ▸ .head _))];exact e
end
def i_(led:Bool):Obj:={cls:=.type "set",dict:=none,data:=.set #[] 0 (.fresh 0 0 led)}
def fS(w:wJ):Bool:=!(w.params.followText "set-order")
section
variable{prog:wI}{w:wJ}{K:Type}[DecidableEq K]{knd:KeyKind prog w K}{U:we->List K->Prop}{A:vb}{E:wg->wl->Prop}{s:wl}
theorem zAs(x:wg){Q:wg->wl->Prop}(q:Q (.ref s.heap.objs.size) {s with heap:=s.heap.push (i_ (fS w))}) :
  codeAny (model prog w) A (.call (.builtin "set.__new__") ⟨[.type "set",x],[]⟩) (wants Q E) s:=by
 refine codeAny_of_tree ?_;refine wf (m:=checkBuiltinCall "set.__new__" ⟨[.type "set",x],[]⟩) (wpAny_of_eq (F.newCall_set_1 x) (wp ?_));refine⟨plainId_quiet uU _,qr F.entry_set_new ?_⟩;rw[VY uU _];unfold Builtin.«set.__new__» Uk;have sub:=sub_set_self;obtain⟨z1,z2,z3,z4,z5⟩:=s;dsimp only
 wp_walk
 refine wpAny_askSetting (wp ?_);dsimp only;simp only[newObj];exact wf (wpAny_alloc (wp (wp q)))
end
end TB
namespace TB
open PySem PySem.W PyProof.Rows
section
variable{n:Nat}(h1:1<=n)
include h1
end
section
variable{prog:wI}{w:wJ}{A:vb}{E:wg->wl->Prop}{s:wl}
end
structure sx(w:wJ)(h:wG)(a:we)(es:Array (Int × wg))(ep:Nat)(t:Ws):Prop where
 at':∃o,h.get? a=some o/\o.ExactSet/\o.data=.set es ep t
 fits:t.fits es.size=true
 size:t.place.size=es.size
 jx:j3 t.place
 plain:t.plain=true
 led:t.led=fS w
 bK:es.size<=4000
theorem sx.same{w:wJ}{h g:wG}{a:we}{es:Array (Int × wg)}{ep:Nat}{t:Ws}(x:sx w h a es ep t)(e:∀o,h.get? a=some o->g.get? a=some o):sx w g a es ep t :=
 ⟨let ⟨o,h1,r⟩:=x.at';⟨o,e o h1,r⟩,x.fits,x.size,x.jx,x.plain,x.led,x.bK⟩
section
variable{prog:wI}{w:wJ}{A:vb}{E:wg->wl->Prop}{s:wl}{a:we}{es:Array (Int × wg)}{ep:Nat}{t:Ws}
end
section
variable{prog:wI}{w:wJ}{A:vb}{E:wg->wl->Prop}{s:wl}{a it:we}{es:Array (Int × wg)}{ep:Nat}{t:Ws}{i:Nat}
end
section
variable{prog:wI}{w:wJ}{A:vb}{E:wg->wl->Prop}{s:wl}
end
end TB
namespace L2
open PySem PySem.Spec PyProof.Rows GM
def mP(w:wJ)(a:we)(ws:List V):HO:=.ext λh=>∃es ep t,TB.sx w h a es ep t/\aT ws (es.toList.map (·.2))
def F_(K:wb)(H:Hp)(v:V)(k:List Int):Prop:=∃q,v=.ref q/\aU K H q (k.map V.int)
theorem items_int{P:wI}{w:wJ} : ∀{us:List wg}{ns:List Int},IntsAre us ns->ItemsAre (intKind P w) ns us
 | _,_,.nil=>.nil
 | _,_,.cons n t r=>.cons (by show QU n (Value.int n t)=true;simp[QU]) (items_int r)
theorem zwu{P:wI}{w:wJ}(k:Int)(v:wg)(h:(intKind P w).is k v=true):∃i t,v=.int i t:=by
 have h:QU k v=true:=h;cases v with
 | int i t=>exact⟨i,t,rfl⟩
 | _=>exact absurd h (by simp[QU])
theorem Inv.key{X:Cx}{pins:List (we × Obj)}{σ : List (Option V)}{H:Hp}{s:wl}(I:Inv X pins σ H s){q:we}{k:List Int}(h:aU X.K H q (k.map V.int)):vH (intKind X.prog X.w) s.heap k q:=by
 obtain⟨its,r,⟨o,e,hc,n,hd⟩,_⟩:=I.tuple h;exact⟨o,its.toArray,n,e,hc,hd,items_int (AF r)⟩
theorem Nz:∀{ws:List V}{us:List wg},aT ws us->∀{i:Nat}{q:we},ws[i]? = some (.ref q)->us[i]? = some (.ref q)
 | _,_,.nil,i,q,h=>by simp at h
 | _,_,.cons r1 r2,0,q,h=>by
  simp only[xx,Qp]at h ⊢;subst h;exact r1
 | _,_,.cons r1 r2,i+1,q,h=>by
  simp only[Qm]at h ⊢;exact Nz r2 h
def zW:wg->V
 | .ref a=>.ref a
 | _=>.a_
theorem Nk:∀(us:List wg),(∀u∈us,∃a,u=.ref a)->aT (us.map zW) us
 | [],_=>.nil
 | u::us,h=>by
  obtain⟨a,rfl⟩:=h u (wz ..);exact .cons rfl (Nk us λu hu=>h u (wy _ hu))
theorem zp4(es:List (Int × wg))(h:∀e∈es,∃a,e.2=.ref a):aT (es.map λe=>zW e.2) (es.map (·.2)):=by
 have:=Nk (es.map (·.2)) λu hu=>by
  obtain⟨e,he,rfl⟩:=wU.mp hu;exact h e he
 rwa[WM]at this
theorem mT{α : Type}[DecidableEq α]:∀{ks l:List α},ks.Nodup->(∀x∈ks,x∈l)->ks.length<=l.length
 | [],l,_,_=>Wm _
 | k::ks,l,h,hs=>by
  rw[WW]at h;have hk:=hs k (wz ..);have:=mT (l:=l.erase k) h.2 λx hx=>(Xk (λe=>h.1 (by rw[<- e];exact hx))).mpr (hs x (wy _ hx))
  rw[xq hk]at this;have:=qt hk;rw[vo]
  lia
def Dl(w:wJ):List V->Hp->VK->Prop:=λxs H Q=>∃(p:we)(ws:List V),xs=[.ref p]/\H p=some (mP w p ws)/\Q (.int (ws.length:Int)) H
theorem RG{X:Cx} : aJ X (.builtin "len") (Dl X.w):=by
 intro pins s σ H xs us Q I r h;obtain⟨p,ws,rfl,hp,q⟩:=h;obtain⟨u,rfl,rx⟩:=gK r;cases rx;obtain⟨⟨es,ep,t,y,r'⟩,_,_⟩:=I.aI p _ hp;obtain⟨o,h1,h2,h3⟩:=y.at';have hl:ws.length=es.size:=by have:=r'.length;simpa using this
 have:=y.bK;exact PySem.call_len_set h1 h2 h3 y.fits (by lia) ⟨.int (ws.length:Int),H,I.tok _,⟨s.toks+1,by rw[hl]⟩,q⟩
end L2
namespace TB
open PySem PySem.W PyProof.Rows MeetsSeq
section
variable{prog:wI}{w:wJ}{A:vb}{s:wl}{R:Result->wl->Prop}
end
end TB
namespace L2
open PySem PySem.Spec PyProof.Rows GM
section
variable{K:wb}{w:wJ}{H H':Hp}{Q:VK}{v:V}{p l:we}{xs ys:List Rat}{us ws:List V}
theorem Pn{r:Rat} : Is K H v (N r) ↔ F_ K H v [r.num,(r.den:Int)]:=nz
theorem Sd{r s:Rat}(h:([r.num,(r.den:Int)]:List Int)=[s.num,(s.den:Int)]):r=s:=by
 simp only[uO,and_true]at h;exact u6 h.1 (by lia)
theorem PX:∀(ks:List (List Int)),(∀k∈ks,∃r:Rat,k=[r.num,(r.den:Int)])->∃ys:List Rat,ks=ys.map λr=>[r.num,(r.den:Int)]
 | [],_=>⟨[],rfl⟩
 | k::ks,h=>by
  obtain⟨r,rfl⟩:=h k (wz ..);obtain⟨ys,rfl⟩:=PX ks λk hk=>h k (wy _ hk)
  exact⟨r::ys,rfl⟩
theorem LP:∀{ws:List V}{ys:List Rat},ws.length=ys.length->(∀(i:Nat)(v:V)(r:Rat),ws[i]? = some v->ys[i]? = some r->Is K H v (N r))->ak K H ws (ys.map N)
 | [],[],_,_=>.nil
 | [],_::_,h,_=>absurd h (by simp)
 | _::_,[],h,_=>absurd h (by simp)
 | v::ws,y::ys,h,hh=>.cons (hh 0 v y rfl rfl) (LP (by simpa using h) λi v r h1 h2=>hh (i+1) v r (by simpa using h1) (by simpa using h2))
end
end L2
namespace TB
open PySem
section
variable{prog:wI}{w:wJ}{K:Type}[DecidableEq K]{knd:KeyKind prog w K}{U:we->List K->Prop}{A:vb}{E:wg->wl->Prop}{s:wl}
set_option maxHeartbeats 3200000 in
theorem YR(hv:∀k v,knd.is k v=true->∃i t,v=.int i t){l:we}{its:List wg}{key:Nat->List K}{ad:Nat->we}(hh:A.handled=none)(hu:A.units+64<WD)(hl:s.heap.IsTuple l its.toArray)
  (hi:∀(i:Nat) v,its[i]? = some v->v=.ref (ad i)) (hk:∀i,i<its.length->vH knd s.heap (key i) (ad i)) (hn:its.length<=999) (hU:∀j,j<its.length->U (ad j) (key j)) {Q:wg->wl->Prop}
  (q:∀(g:wG)(tk:Nat)(ks:List (List K)),TS knd U g s.heap.objs.size (fS w) ks->(∀x,x∈ks ↔ ∃j,j<its.length/\key j=x)->(∀b o,s.heap.get? b=some o->g.get? b=some o)->Q (.ref s.heap.objs.size) {s with heap:=g,toks:=tk}) :
  wx (model prog w) A (call (.type "set") [.ref l]) Q E s:=by
 obtain⟨c1,c2,mro⟩:=qb.mro;have f1:=qb.made;have f2:=qb.sub;have f3:=qb.notType;have f4:=qb.canCreate;have f5:=F.typeCall_set_1 (.ref l);refine wpAny_call (codeAny_of_tree (show wx _ _ (callAny (.type "set") _) _ _ _ from ?_));refine wp ⟨Code.quiet_builtin _ (by decide +kernel),qr F.entry_type_call ?_⟩;rw[Around.under_plain (weight_type_call_type "set" [.ref l] []) rfl]
 repeat(any_goals(first | assumption | wp_step))
 have nd:=zAs (prog:=prog) (w:=w) (A:=A.in1) (E:=E) (s:=s) (.ref l) (Q:=λv s1=>v=.ref s.heap.objs.size/\s1 = {s with heap:=s.heap.push (i_ (fS w))}) ⟨rfl,rfl⟩;refine codeAny_mono nd λr s1 hr=>?_
 cases r with
 | error e=>exact hr
 | ok fl =>
  cases fl with
  | ret obj =>
   obtain⟨rfl,rfl⟩:=hr;have gS:(s.heap.push (i_ (fS w))).get? s.heap.objs.size=some (i_ (fS w)):=wN _ rfl;have tS:Shared.TypeIs {s with heap:=s.heap.push (i_ (fS w))} (.ref s.heap.objs.size) "set":=⟨_,gS,rfl⟩;have g1:=qb.init.lookup;have g2:=qb.init.bind (.ref s.heap.objs.size)
   repeat(any_goals(first | assumption | wp_step))
   refine codeAny_mono (codeAny_call_builtin (R:=wants (λv s2=>v=.none /\ ∃g tk ks,s2 = {s with heap:=g,toks:=tk}/\TS knd U g s.heap.objs.size (fS w) ks/\(∀x,x∈ks ↔ ∃j,j<its.length/\key j=x) /\ ∀b o,s.heap.get? b=some o->g.get? b=some o) E)
    qb.init.plain F.entry_set_init (check_set_init_1 tS ?_)) λr2 s2 hr2=>?_
   ·obtain⟨ol,e1,e2,nl,e3⟩:=hl
    obtain⟨y1,y2,y3,y4⟩:=ol;dsimp only at e2 e3;subst e2;subst e3;have gl:(s.heap.push (i_ (fS w))).get? l=some {cls:=.type "tuple",dict:=y2,data:=.seq its.toArray nl,slots:=y4}:=wn _ e1;have n1:=F.sub_tuple_set;have n2:=F.sub_tuple_frozenset;have n3:(Value.type "tuple" == Value.type "dict")=false:=by decide
    have il:(s.heap.push (i_ (fS w))).IsTuple l its.toArray:=⟨_,gl,rfl,nl,rfl⟩;unfold Builtin.«set.__init__» noKeywords u9;generalize hPI:pyIter=PI
    wp_walk
    subst hPI;refine Vc il ?_;refine wf (wpAny_runValue ?_);have ls:l<s.heap.objs.size:=wD e1;have zs:(s.heap.push (i_ (fS w))).objs.size=s.heap.objs.size+1:=V1 ..;have ne:l≠(s.heap.push (i_ (fS w))).objs.size:=by rw[zs];exact wQ (VO ls)
    have nf:s.heap.objs.size ∉ [(s.heap.push (i_ (fS w))).objs.size,l]:=by
     rw[zs];intro hm;rcases wF.mp hm with e | hm
     ·exact absurd e (wQ (Nat.lt_succ_self _))
     ·rcases wF.mp hm with e | hm
      ·exact absurd e (vn ls)
      ·cases hm
    have kp:∀b o,s.heap.get? b=some o->((s.heap.push (i_ (fS w))).push {cls:=.type "tuple_iterator",data:=.fields #[.ref l,.int 0 0]}).get? b=some o:=λb o e=>wn _ (wn _ e)
    refine zD3 hv ((Walks.tuple (by simp[hh]) _ l ne its.toArray).toS) (S:=s.heap.objs.size) nf (by show A.units+1+1+1<_;lia) (led:=fS w) (key:=key) (ad:=ad)
     (λi v hp=>hi i v (by simpa using hp)) ?hI (by simpa using hn) (λj hj=>hU j (by simpa using hj)) (its.toArray.size-0) 0 _ [] rfl (Wm _) ⟨⟨_,wN _ rfl,rfl,rfl⟩,il.at λo e=>wn _ e⟩
     (λj hj=>x_ (hk j (by simpa using hj)) λo eo=>kp _ o eo) (TS.new (wn _ gS)) (λx=>⟨λh=>absurd h WA,λ⟨j,j1,_⟩=>absurd j1 (WI _)⟩) (wo _) ?fin
    case hI =>
     intro i s9 a9 k9 st9 x9 hm;obtain⟨⟨o8,u1,u2,_⟩,_⟩:=st9;obtain⟨o9,_,_,v1,v2,_⟩:=x9;rcases wF.mp hm with e | hm
     ·subst e
      rw[u1]at v1;cases v1;rw[u2]at v2;exact absurd (Value.type.inj v2) (by decide)
     ·cases hm
    case fin =>
     intro s9 ks9 mv f9 ts9 m9;obtain⟨g,x1,x2,x3,x4⟩:=s9;obtain rfl:x1=s.gens:=mv.gens;obtain rfl:x2=s.drawn:=mv.drawn;obtain rfl:x4=s.os:=mv.os;refine wp (wp ⟨rfl,g,x3,ks9,rfl,ts9,by simpa using m9,λb o e=>?_⟩);have lb:b<s.heap.objs.size:=wD e;refine mv.heap b o (λhm=>?_) (kp b o e);rcases wF.mp hm with e' | hm
     ·exact absurd e' (wQ lb)
     ·rcases wF.mp hm with e' | hm
      ·rw[zs]at e';exact absurd e' (wQ (VO lb))
      ·cases hm
   ·cases r2 with
    | error e=>exact hr2
    | ok fl2 =>
     cases fl2 with
     | ret v =>
      obtain⟨rfl,g,tk,ks,rfl,a1,a2,a3⟩:=hr2
      repeat(any_goals(first | assumption | wp_step))
      exact q g tk ks a1 a2 a3
     | _=>exact hr2.elim
  | _=>exact hr.elim
end
end TB
namespace L2
open PySem PySem.Spec PyProof.Rows GM
def yI(K:wb)(w:wJ):List V->Hp->VK->Prop:=λxs H Q=>∃(p:we)(vs:List V)(key:Nat->List Int),xs=[.ref p]/\aU K H p vs/\vs.length<=999/\(∀j v,vs[j]? = some v->F_ K H v (key j)) /\
 ∀(l:we)(ws:List V)(ks:List (List Int)),H l=none->ws.length=ks.length->(∀(i:Nat)(v:V)(k:List Int),ws[i]? = some v->ks[i]? = some k->F_ K H v k)->ks.Nodup->(∀x,x∈ks ↔ ∃j,j<vs.length/\key j=x) ->
  Q (.ref l) (upd H l (mP w l ws))
theorem UH{X:Cx}(hu:X.A.units+64<WD)(hc:X.calm=true):aJ X (.type "set") (yI X.K X.w):=by
 intro pins s σ H xs us Q I r h;obtain⟨p,vs,key,rfl,hq,hn,hk,q⟩:=h;obtain⟨u,rfl,rx⟩:=gK r;cases rx;obtain⟨its,r',pl,hz⟩:=I.tuple hq;have hlen:=r'.length
 have hx:∀j:Nat,∃ad:we,∀v,vs[j]? = some v->v=.ref ad/\aU X.K H ad ((key j).map V.int):=λj=>by
  cases e:vs[j]? with
  | none=>exact⟨0,λv h=>by cases h⟩
  | some v =>
   obtain⟨ad,h1,h2⟩:=hk j v e;exact⟨ad,λv' h=>by cases h;exact⟨h1,h2⟩⟩
 obtain⟨ad,had⟩:∃ad:Nat->we,∀j v,vs[j]? = some v->v=.ref (ad j)/\aU X.K H (ad j) ((key j).map V.int):=⟨λj=>(hx j).choose,λj=>(hx j).choose_spec⟩;have hg:∀j,j<its.length->∃v,vs[j]? = some v:=λj hj=>⟨vs[j]'(by lia),wc _⟩
 refine TB.YR (knd:=intKind X.prog X.w) (U:=λa k=>aU X.K H a (k.map V.int)) zwu (key:=key) (ad:=ad) (I.ok.hd hc) hu (let ⟨o,e,hc,n,hd⟩:=pl;⟨o,e,hc,n,hd⟩) (λj v hv=>?_) (λj hj=>?_) (by lia) (λj hj=>?_) λg tk ks hS hm kp=>?_
 ·obtain⟨v',hv'⟩:=hg j (by rcases wA j its.length with h | h;exact h;rw[wL h]at hv;cases hv)
  obtain⟨rfl,_⟩:=had j v' hv';have:=Nz r' hv';rw[hv]at this;exact wM this
 ·obtain⟨v',hv'⟩:=hg j hj
  exact I.key (had j v' hv').2
 ·obtain⟨v',hv'⟩:=hg j hj
  exact(had j v' hv').2
 ·obtain⟨o,es,ep,t,e1,e2,e3,e4,e5,e6,e7,e8,e9,e10⟩:=hS
  obtain⟨f1,f2⟩:=e9
  have kl:ks.length<=999:=Wa (mT e10 (l:=(wt its.length).map key) λx hx=>by
   obtain⟨j,h1,h2⟩:=(hm x).mp hx;exact wU.mpr ⟨j,wH.mpr h1,h2⟩) (by rw[wm,vx];lia)
  have hz':es.size=ks.length:=by rw[<- f1,wK]
  have hr:∀e∈es.toList,∃a,e.2=.ref a:=λe he=>by
   obtain⟨i,hi⟩:=x5.mp he;obtain⟨k,hk'⟩:∃k,ks[i]? = some k:=⟨_,wc (by rw[<- f1];exact(Wt.mp hi).1)⟩;obtain⟨a,h1,_⟩:=f2 i e k hi hk';exact⟨a,h1⟩
  refine⟨.ref s.heap.objs.size,_,I.laid (t':=tk) kp (wo _) (show dN X.prog X.w _ _ _ (mP X.w s.heap.objs.size (es.toList.map λe=>zW e.2))from⟨⟨es,ep,t,⟨⟨o,e1,e2,e3⟩,?_,?_,e4.jx,e8,e7,by lia⟩,?_⟩,⟨o,e1⟩,?_⟩),rfl,
   q _ _ ks (I.aI.fresh (wo _)) (by rw[wm];exact f1) (λi v k hv hk'=>?_) e10 λx=>by rw[hlen];exact hm x⟩
  ·have:=e4.fits
   rwa[wm,wK]at this
  ·rw[e4.size,wm,wK]
  ·exact zp4 _ hr
  ·rintro h1 h2 ⟨es',ep',t',a1,a2⟩ hh
   exact⟨es',ep',t',a1.same hh,a2⟩
  ·rw[wu]at hv
   cases e:es.toList[i]? with
   | none=>rw[e]at hv;cases hv
   | some x =>
    rw[e]at hv;cases hv;obtain⟨a,h1,_,_,h2⟩:=f2 i x k e hk';exact⟨a,by show zW x.2=_;rw[h1];rfl,h2⟩
section
variable{K:wb}{w:wJ}{H H':Hp}{Q:VK}{v:V}{p l:we}{xs ys:List Rat}{us ws:List V}
theorem UI(h:Is K H v (TN xs))(hn:xs.length<=999)(q:∀(l:we)(H':Hp)(ws:List V)(ys:List Rat),H l=none->ah H H'->H' l=some (mP w l ws)->ak K H' ws (ys.map N)->ys.Nodup->(∀y,y∈ys ↔ y∈xs)->Q (.ref l) H'):yI K w [v] H Q:=by
 obtain⟨p,vs,rfl,hs,t⟩:=bX.mp h;have hl:=t.length;rw[wm]at hl;refine⟨p,vs,λj=>[(xs.getD j 0).num,((xs.getD j 0).den:Int)],rfl,hs,by lia,λj v hv=>Pn.mp (dC t hv).2,λl ws ks h1 h2 h3 h4 h5=>?_⟩
 obtain⟨ys,rfl⟩:=PX ks λk hk=>by
  obtain⟨j,_,e⟩:=(h5 k).mp hk;exact⟨_,e.symm⟩
 have S:ah H (upd H l (mP w l ws)):=ah.upd h1;rw[wm]at h2;refine q l _ ws ys h1 S cZ (LP h2 λi v r hv hr=>(Pn.mpr (h3 i v _ hv (by rw[wu,hr];rfl))).by S) ?_ λy=>?_
 ·unfold List.Nodup at h4 ⊢
  rw[qw]at h4;exact h4.imp λ{a b} h e=>h (by rw[e])
 ·have:=h5 [y.num,(y.den:Int)]
  constructor
  ·intro hy
   obtain⟨j,hj,e⟩:=this.mp (wU.mpr ⟨y,hy,rfl⟩);rw[<- Sd e];exact getD_mem (by lia)
  ·intro hy
   obtain⟨j,hj,e⟩:=wX hy;obtain⟨r,hr,er⟩:=wU.mp (this.mpr ⟨j,by lia,by show [(xs.getD j 0).num,((xs.getD j 0).den:Int)]=_;rw[wa,wc hj,Qw,e]⟩);rw[<- Sd er];exact hr
end
end L2
namespace GM
section
variable(rs:List Int)(us ts:List (List Int))(ps cs:List Int)
end
section
variable{rs:List Int}{us ts:List (List Int)}{ps cs:List Int}
end
section
variable(rs:List Int)(us ts:List (List Int))(ps cs:List Int)
end
section
variable{rs:List Int}{us ts:List (List Int)}{ps cs:List Int}{f:Nat}{g:List Nat}{acc:List (List Nat)}
end
section
variable(rs:List Int)(us ts:List (List Int))(ps:List Int)(cm:List (List Int))
end
section
variable{rs:List Int}{us ts:List (List Int)}{ps:List Int}{cm:List (List Int)}
end
end GM
namespace L2
open PySem PySem.Spec PyProof.Rows GM
section
variable{K:wb}{H H':Hp}{Q:VK}{v:V}{rs ps:List Int}{us ts cm rows:List (List Int)}{m:Int}{ws:List (List Nat)}
end
theorem zCu{i:Nat}{te:TE}{ti:rZ}{D:cv}{σ : L2.St}{H:Hp}(h:∃x,σ[i]? = some (some x)/\te σ H λy H1=>ti x y H1 λz H2=>D.nx (σ.set i (some z)) H2):Rh i te ti D σ H:=h
theorem Zv{v:V}{P:V->Prop}{o:Option (Option V)}(h:o=some (some v))(q:P v):∃x,o=some (some x)/\P x:=⟨v,h,q⟩
theorem ZI{f:Int->Int->Int}{m n:Int}{H:Hp}{Q:VK}(q:Q (.int (f m n)) H):To f (.int m) (.int n) H Q:=⟨m,n,rfl,rfl,q⟩
end L2
namespace TB
open PySem PySem.W PyProof.Rows
inductive d8{α β : Type}(R : α -> β -> Prop):List α -> List β -> Prop
 | nil:d8 R [] []
 | cons {a : α} {b : β} {l:List α} {m:List β} : R a b->d8 R l m->d8 R (a::l) (b::m)
structure HV(prog:wI)(w:wJ)(K:Type)[DecidableEq K] where
 is:wG->K->wg->Prop
 hash:K->Int
 draws:K->Nat
 deep:Nat
 inj:∀{h:wG}{v:wg}{x y:K},is h x v->is h y v->x=y
 keeps:∀{h h':wG}{k:K}{v:wg}{d:we}{o:Obj}{es ep},is h k v->h.get? d=some o->o.data=.dict es ep->vv d h h'->is h' k v
 pyHash:∀{A:vb}{E:wg->wl->Prop}{s:wl}{k:K}{v:wg}{Q:Int->wl->Prop},A.units+deep<WD->is s.heap k v->Q (hash k) {s with toks:=s.toks+draws k}->wx (model prog w) A (PySem.pyHash v) Q E s
 eqBool:∀{A:vb}{E:wg->wl->Prop}{s:wl}{x y:K}{u v:wg}{Q:Bool->wl->Prop},A.units+deep<WD->is s.heap x u->is s.heap y v->Q (decide (x=y)) s->wx (model prog w) A (PySem.eqBool u v) Q E s
 quiet:∀{A:vb}{E:wg->wl->Prop}{s:wl}{k:K}{v:wg}{Q:Bool->wl->Prop}(n:Nat),deep<=n->is s.heap k v->Q true s->wx (model prog w) A (eqIsQuiet n v) Q E s
section
variable{prog:wI}{w:wJ}{A:vb}{E:wg->wl->Prop}{s:wl}
variable{a:we}
theorem KS{o:Obj}{items:Array wg}{n:Nat}{hs:List (Int × Nat)}{Q:Int->wl->Prop}(hu:A.units<WD)(ho:s.heap.get? a=some o)(hc:o.cls=.type "tuple")(hd:o.data=.seq items n)
  (hi:d8 (λv (x:Int × Nat)=>∀(E:wg->wl->Prop)(Q:Int->wl->Prop)(s':wl),s'.heap=s.heap->Q x.1 {s' with toks:=s'.toks+x.2}->wx (model prog w) A.in1 (pyHash v) Q E s') items.toList hs)
  (h:Q (reduceHash (vZ (hs.map (·.1)))) {s with toks:=s.toks+((hs.map (·.2)).sum+1)}) :
  wx (model prog w) A (pyHash (.ref a)) Q E s:=by
 have hT:s.TypeIs (.ref a) "tuple":=⟨o,ho,hc⟩;unfold pyHash
 first | unfold pyHashByItsType | skip
 first | refine wf (wpAny_cRoomFor_or (.inr hu) ?_) | skip
 refine wf (qU hT qx.lookup ?_)
 show wx _ _ (if(some (Value.builtin "tuple.__hash__") == some Value.none)=true then _ else _) Q E s
 rw[if_neg (by rw[beq_builtin_none];exact vF)];refine wf (qU hT qx.lookup ?_)
 show wx _ _ (callSpecialIfBoundUnlessNone? (.ref a) "__hash__" _ >>= _) Q E s
 refine wf (wpAny_callSpecialIfBoundUnlessNone?_slot hT qx (Wd qx hT F.entry_tuple_hash ?_ (F.args_tuple_hash_1 _)))
 show wx _ _ (Q4 (.ref a) >>= _) _ _ s
 refine wf (wpAny_tupleItemsOf ho hd ?_);refine wf ?_;rw[<- Vz]
 refine qc _
  (λdq (b:Array Int) s'=>∃done left,hs=done++left/\d8 (λv (x:Int × Nat)=>∀(E:wg->wl->Prop)(Q:Int->wl->Prop)(s':wl),s'.heap=s.heap->Q x.1 {s' with toks:=s'.toks+x.2}->wx (model prog w) A.in1 (pyHash v) Q E s') dq left/\b.toList=done.map (·.1)/\s' = {s with toks:=s.toks+(done.map (·.2)).sum})
  _ ?_ ?_ _ _ ⟨[],hs,rfl,hi,rfl,rfl⟩
 ·rintro x dq b s' ⟨done,left,rfl,hl,hb,rfl⟩
  cases hl with
  | @cons _ k _ ks' h1 hl' =>
   refine wf (h1 _ _ _ rfl ?_)
   first
    | exact wp ⟨done++[k],ks',by simp,hl',by simp[hb],by simp[WS]⟩
    | exact wf (wp (wp ⟨done++[k],ks',by simp,hl',by simp[hb],by simp[WS]⟩))
 ·rintro b s' ⟨done,left,rfl,hl,hb,rfl⟩
  cases hl;rw[Wh]at h
  show wx _ _ (retInt (vZ b.toList)) _ _ _
  rw[hb];refine wpAny_ret_mkInt ?_
  show wx _ _ (if(decide (-(2:Int)^63<=vZ (done.map (·.1)))&&decide (vZ (done.map (·.1))<2^63))=true then _ else _) Q E _
  unfold reduceHash at h
  by_cases hr:(decide (-(2:Int)^63<=vZ (done.map (·.1)))&&decide (vZ (done.map (·.1))<2^63))=true
  ·rw[if_pos hr]
   rw[if_pos hr]at h;exact wp (by simpa [WS] using h)
  ·rw[if_neg hr]
   rw[if_neg hr]at h;exact wf (wpAny_rule (wp (by simpa [WS] using h)))
theorem zCr{b:we}{oa ob:Obj}{xs ys:Array wg}{na nb:Nat}{bs:List Bool}{P:PySem.Fin->wl->Prop}(hoa:s.heap.get? a=some oa)(hda:oa.data=.seq xs na)(hob:s.heap.get? b=some ob)(hcb:ob.cls=.type "tuple")(hdb:ob.data=.seq ys nb)
  (hi:d8 (λ(p:wg × wg)(c:Bool)=>∀(E:wg->wl->Prop)(Q:Bool->wl->Prop),Q c s->wx (model prog w) A (eqBool p.1 p.2) Q E s) (xs.toList.zip ys.toList) bs)
  (h:P (.done (.ret (.bool (bs.all id&&xs.size == ys.size)))) s) :
  wx (model prog w) A (Builtin.«tuple.__eq__» ⟨[.ref a,.ref b],[]⟩) P E s:=by
 have hTb:s.TypeIs (.ref b) "tuple":=⟨ob,hob,hcb⟩
 show wx _ _ (isInstance (.ref b) (.type "tuple") >>= _) _ _ s
 refine wf (Vr hTb isSubtype_tuple_tuple ?_);simp only[Wv,ve,if_false];refine wf (wpAny_tupleItemsOf hoa hda ?_);refine wf (wpAny_tupleItemsOf hob hdb ?_);refine wf ?_
 refine qc _
  (λdq r s'=>r.1=none/\s'=s /\ ∃cs,d8 (λ(p:wg × wg)(c:Bool)=>∀(E:wg->wl->Prop)(Q:Bool->wl->Prop),Q c s->wx (model prog w) A (eqBool p.1 p.2) Q E s) dq cs/\bs.all id=cs.all id)
  _ ?_ ?_ _ _ ⟨rfl,rfl,bs,hi,rfl⟩
 ·rintro ⟨u,v⟩ dq r s' ⟨hr,rfl,cs,hcs,hall⟩
  cases hcs with
  | @cons _ c _ cs' h1 h2 =>
   refine wf (h1 _ _ ?_);cases c with
   | true =>
    simp only[Wv,ve,if_false];exact wp ⟨rfl,rfl,cs',h2,by rw[hall];simp⟩
   | false =>
    simp only[QN,if_true];have hf:bs.all id=false:=by rw[hall];simp
    rw[hf,Ww]at h;exact wf (wp (wp (wp h)))
 ·rintro ⟨r1,r2⟩ s' ⟨hr,rfl,cs,hcs,hall⟩
  simp only at hr;subst hr;refine wp ?_;cases hcs;rw[hall]at h;have h':P (.done (.ret (.bool (xs.size == ys.size)))) s':=by simpa using h
  exact h'
theorem Nu{o:Obj}{items:Array wg}{n m:Nat}{Q:Bool->wl->Prop}(ho:s.heap.get? a=some o)(hc:o.cls=.type "tuple")(hd:o.data=.seq items n)
  (hi:∀v∈items.toList,∀(E:wg->wl->Prop)(Q:Bool->wl->Prop),Q true s->wx (model prog w) A (eqIsQuiet m v) Q E s) (h:Q true s):wx (model prog w) A (eqIsQuiet (m+1) (.ref a)) Q E s:=by
 have hT:s.TypeIs (.ref a) "tuple":=⟨o,ho,hc⟩;unfold eqIsQuiet;refine wf (qU hT xF.lookup ?_)
 show wx _ _ (isInstance (.ref a) (.type "tuple") >>= _) _ _ s
 refine wf (Vr hT isSubtype_tuple_tuple ?_);simp only[Wv,ve,if_false];refine wf (Wg ho hd ?_);refine wf ?_
 show wx _ _ (forIn items _ _) _ _ s
 rw[<- Vz];refine qc _ (λdq r s'=>r.1=none/\s'=s /\ ∀v∈dq,v∈items.toList) _ ?_ ?_ _ _ ⟨rfl,rfl,λ_ h=>h⟩
 ·rintro v dq r s' ⟨hr,rfl,hall⟩
  refine wf (hi v (hall v wz) _ _ ?_);simp only[Wv,ve,if_false];exact wp ⟨rfl,rfl,λu hu'=>hall u (wy _ hu')⟩
 ·rintro ⟨r1,r2⟩ s' ⟨hr,rfl,_⟩
  simp only at hr;subst hr;exact wp h
theorem Pw{b:we}{oa ob:Obj}{xs ys:Array wg}{na nb:Nat}{bs:List Bool}{Q:Bool->wl->Prop}(hu:A.units<WD)(hoa:s.heap.get? a=some oa)(hca:oa.cls=.type "tuple")(hda:oa.data=.seq xs na)(hob:s.heap.get? b=some ob)(hcb:ob.cls=.type "tuple")(hdb:ob.data=.seq ys nb)
  (he:a=b->(bs.all id&&xs.size == ys.size)=true)
  (hi:d8 (λ(p:wg × wg)(c:Bool)=>∀(E:wg->wl->Prop)(Q:Bool->wl->Prop),Q c s->wx (model prog w) A.in1 (eqBool p.1 p.2) Q E s) (xs.toList.zip ys.toList) bs)
  (h:Q (bs.all id&&xs.size == ys.size) s):wx (model prog w) A (eqBool (.ref a) (.ref b)) Q E s:=by
 unfold eqBool
 try with_reducible refine Wk ?_
 show wx _ _ (if(Value.ref a == Value.ref b)=true then _ else _) Q E s
 by_cases hab:(Value.ref a == Value.ref b)=true
 ·rw[if_pos hab]
  have e:a=b:=by have:=eq_of_beq hab;injection this
  rw[he e]at h;exact wf (wpAny_rule (wp h))
 ·rw[if_neg hab]
  have ta:s.TypeIs (.ref a) "tuple":=⟨oa,hoa,hca⟩;have tb:s.TypeIs (.ref b) "tuple":=⟨ob,hob,hcb⟩
  exact wf (wpAny_richCompare_same_room (op:=.Eq) ta tb xF
   (Wd xF ta F.entry_tuple_eq (zCr hoa hda hob hcb hdb hi ⟨_,rfl,(λe=>nomatch e),Wo h⟩) (F.args_tuple_eq_2 _ _)) hu)
end
def kQ(R:List wg->Prop)(h:wG)(v:wg):Prop:=∃a o items n,v=.ref a/\h.get? a=some o/\o.cls=.type "tuple"/\o.data=.seq items n/\R items.toList
theorem kQ.inj{R S:List wg->Prop}{h:wG}{v:wg}(x:kQ R h v)(y:kQ S h v):∃l,R l/\S l:=by
 obtain⟨a,o,items,n,rfl,ho,_,hd,hi⟩:=x;obtain⟨a',o',items',n',e,ho',_,hd',hi'⟩:=y;cases e;obtain rfl:o=o':=wM (ho.symm.trans ho');rw[hd]at hd'
 injection hd' with h1 _
 subst h1;exact⟨_,hi,hi'⟩
theorem kQ.keeps{R S:List wg->Prop}{h h':wG}{v:wg}{d:we}{o:Obj}{es ep}(x:kQ R h v)(ho:h.get? d=some o)(hd:o.data=.dict es ep)(hs:vv d h h')(r:∀l,R l->S l):kQ S h' v:=by
 obtain⟨a,o',items,n,rfl,ho',hc,hd',hi⟩:=x
 have hne:a≠d:=by
  rintro rfl;obtain rfl:o'=o:=wM (ho'.symm.trans ho);rw[hd]at hd';exact nomatch hd'
 exact⟨a,o',items,n,rfl,(hs.2 a hne).trans ho',hc,hd',r _ hi⟩
def gh(prog:wI)(w:wJ):HV prog w Int where
 is:=λ_ k v=>∃t,v=.int k t
 hash:=hashInt
 draws:=λ_=>1
 deep:=0
 inj:=λ⟨t,e⟩ ⟨u,f⟩=>by subst e;injection f
 keeps:=λh _ _ _=>h
 pyHash:=λ_ ⟨t,e⟩ h=>by subst e;exact wpAny_pyHash_int h
 eqBool:=λ_ ⟨t,e⟩ ⟨u,f⟩ h=>by subst e f;exact wpAny_eqBool_int h
 quiet:=λn _ ⟨t,e⟩ h=>by subst e;rw[eqIsQuiet_byValue n rfl];exact wp h
section
variable{prog:wI}{w:wJ}{K:Type}[DecidableEq K](e:HV prog w K)
theorem M3{A:vb}{s:wl}(hu:A.in1.units+e.deep<WD):∀{ks:List K}{vs:List wg},d8 (e.is s.heap) ks vs ->
  d8 (λv (x:Int × Nat)=>∀(E:wg->wl->Prop)(Q:Int->wl->Prop)(s':wl),s'.heap=s.heap->Q x.1 {s' with toks:=s'.toks+x.2}->wx (model prog w) A.in1 (pyHash v) Q E s') vs (ks.map λk=>(e.hash k,e.draws k))
 | _,_,.nil=>.nil
 | _,_,.cons h t=>.cons (λE Q s' he q=>e.pyHash hu (he ▸ h) q) (M3 hu t)
theorem Yv{A:vb}{s:wl}(hu:A.in1.units+e.deep<WD):∀{ks js:List K}{us vs:List wg},d8 (e.is s.heap) ks us->d8 (e.is s.heap) js vs ->
  ∃bs,d8 (λ(p:wg × wg)(c:Bool)=>∀(E:wg->wl->Prop)(Q:Bool->wl->Prop),Q c s->wx (model prog w) A.in1 (eqBool p.1 p.2) Q E s) (us.zip vs) bs/\(bs.all id&&us.length == vs.length)=decide (ks=js)
 | _,_,_,_,.nil,.nil=>⟨[],.nil,by simp⟩
 | _,_,_,_,.nil,.cons _ _=>⟨[],.nil,by simp⟩
 | _,_,_,_,.cons _ _,.nil=>⟨[],.nil,by simp⟩
 | k::ks,j::js,_,_,.cons h t,.cons h' t'=>by
  obtain⟨bs,b1,b2⟩:=Yv hu t t';refine⟨decide (k=j)::bs,.cons (λE Q q=>e.eqBool hu h h' q) b1,?_⟩;rw[Xn,Bool.and_assoc,vo,vo,show ∀a b:Nat,(a+1 == b+1)=(a == b)from λa b=>by simp,b2]
  by_cases h1:k=j<;>by_cases h2:ks=js<;>simp[h1,h2]
theorem Ce{h:wG} : ∀{ks js:List K}{vs:List wg},d8 (e.is h) ks vs->d8 (e.is h) js vs->ks=js
 | _,_,_,.nil,.nil=>rfl
 | _,_,_,.cons h t,.cons h' t'=>by rw[e.inj h h',Ce t t']
theorem Ky{α β : Type}{R S : α -> β -> Prop}(f:∀a b,R a b->S a b):∀{l:List α}{m:List β},d8 R l m->d8 S l m
 | _,_,.nil=>.nil
 | _,_,.cons h t=>.cons (f _ _ h) (Ky f t)
theorem Ml{α β : Type}{R : α -> β -> Prop} : ∀{l:List α}{m:List β},d8 R l m->∀y∈m,∃x,R x y
 | _,_,.nil,y,hy=>by cases hy
 | _,_,.cons h t,y,hy=>by
  rcases wF.mp hy with rfl | hy
  ·exact⟨_,h⟩
  ·exact Ml t y hy
def gb:HV prog w (List K) where
 is:=λh ks v=>kQ (d8 (e.is h) ks) h v
 hash:=λks=>reduceHash (vZ ((ks.map λk=>(e.hash k,e.draws k)).map (·.1)))
 draws:=λks=>((ks.map λk=>(e.hash k,e.draws k)).map (·.2)).sum+1
 deep:=e.deep+1
 inj:=λx y=>by
  obtain⟨l,h1,h2⟩:=x.inj y;exact Ce e h1 h2
 keeps:=λx ho hd hs=>x.keeps ho hd hs λl h=>Ky (λa b r=>e.keeps r ho hd hs) h
 pyHash:=λ{A E s k v Q} hu x h=>by
  obtain⟨a,o,items,n,rfl,ho,hc,hd,hi⟩:=x;exact KS (by lia) ho hc hd (M3 e (show A.units+1+e.deep<WD by lia) hi) h
 eqBool:=λ{A E s x y u v Q} hu hx hy h=>by
  have hj:u=v->x=y:=λev=>by
   subst ev;obtain⟨l,h1,h2⟩:=hx.inj hy;exact Ce e h1 h2
  obtain⟨a,o,items,n,rfl,ho,hc,hd,hi⟩:=hx;obtain⟨a',o',items',n',rfl,ho',hc',hd',hi'⟩:=hy;obtain⟨bs,b1,b2⟩:=Yv e (A:=A) (show A.units+1+e.deep<WD by lia) hi hi';have b3:(bs.all id&&items.size == items'.size)=decide (x=y):=by rw[<- b2];rfl
  refine Pw (by lia) ho hc hd ho' hc' hd' (λea=>?_) b1 (by rw[b3];exact h);rw[b3];exact decide_eq_true (hj (by rw[ea]))
 quiet:=λ{A E s k v Q} n hn x h=>by
  obtain⟨a,o,items,m,rfl,ho,hc,hd,hi⟩:=x;obtain⟨j,rfl⟩:∃j,n=j+1:=⟨n-1,by lia⟩
  exact Nu ho hc hd (λu hu E Q q=>by
   obtain⟨x,hx⟩:=Ml hi u hu;exact e.quiet j (by lia) hx q) h
end
section
variable{prog:wI}{w:wJ}{J K:Type}[DecidableEq J][DecidableEq K](d:HV prog w J)(e:HV prog w K)
def Two(h:wG)(k:J × K)(l:List wg):Prop:=∃u v,l=[u,v]/\d.is h k.1 u/\e.is h k.2 v
def Ot:HV prog w (J × K) where
 is:=λh k v=>kQ (Two d e h k) h v
 hash:=λk=>reduceHash (vZ ([(d.hash k.1,d.draws k.1),(e.hash k.2,e.draws k.2)].map (·.1)))
 draws:=λk=>([(d.hash k.1,d.draws k.1),(e.hash k.2,e.draws k.2)].map (·.2)).sum+1
 deep:=max d.deep e.deep+1
 inj:=λ{h v x y} hx hy=>by
  obtain⟨l,⟨u,v,rfl,h1,h2⟩,u',v',e',h3,h4⟩:=hx.inj hy;cases e';exact VH (d.inj h1 h3) (e.inj h2 h4)
 keeps:=λx ho hd hs=>x.keeps ho hd hs λl ⟨u,v,r,h1,h2⟩=>⟨u,v,r,d.keeps h1 ho hd hs,e.keeps h2 ho hd hs⟩
 pyHash:=λ{A E s k v Q} hu x h=>by
  obtain⟨a,o,items,n,rfl,ho,hc,hd,u,v,hl,h1,h2⟩:=x
  exact KS (by lia) ho hc hd (by
   rw[hl];exact .cons (λE Q s' he q=>d.pyHash (show A.units+1+d.deep<WD by lia) (he ▸ h1) q) (.cons (λE Q s' he q=>e.pyHash (show A.units+1+e.deep<WD by lia) (he ▸ h2) q) .nil)) h
 eqBool:=λ{A E s x y u v Q} hu hx hy h=>by
  have hj:u=v->x=y:=λev=>by
   subst ev;obtain⟨l,⟨u,v,rfl,h1,h2⟩,u',v',e',h3,h4⟩:=hx.inj hy;cases e';exact VH (d.inj h1 h3) (e.inj h2 h4)
  obtain⟨a,o,items,n,rfl,ho,hc,hd,u,v,hl,h1,h2⟩:=hx;obtain⟨a',o',items',n',rfl,ho',hc',hd',u',v',hl',h1',h2'⟩:=hy
  have b3:([decide (x.1=y.1),decide (x.2=y.2)].all id&&items.size == items'.size)=decide (x=y):=by
   rw[<- wK,<- wK,hl,hl'];obtain⟨x1,x2⟩:=x;obtain⟨y1,y2⟩:=y
   by_cases h1:x1=y1<;>by_cases h2:x2=y2<;>simp[h1,h2]
  refine Pw (bs:=[decide (x.1=y.1),decide (x.2=y.2)]) (by lia) ho hc hd ho' hc' hd' (λea=>?_) ?_ (by rw[b3];exact h)
  ·rw[b3]
   exact decide_eq_true (hj (by rw[ea]))
  ·rw[hl,hl']
   exact .cons (λE Q q=>d.eqBool (show A.units+1+d.deep<WD by lia) h1 h1' q) (.cons (λE Q q=>e.eqBool (show A.units+1+e.deep<WD by lia) h2 h2' q) .nil)
 quiet:=λ{A E s k v Q} n hn x h=>by
  obtain⟨a,o,items,m,rfl,ho,hc,hd,u,v,hl,h1,h2⟩:=x;obtain⟨j,rfl⟩:∃j,n=j+1:=⟨n-1,by lia⟩
  exact Nu ho hc hd (λu hu E Q q=>by
   rw[hl]at hu;rcases wF.mp hu with rfl | hu
   ·exact d.quiet j (by lia) h1 q
   ·rw[w6]at hu
    subst hu;exact e.quiet j (by lia) h2 q) h
end
abbrev SK:=List Int × List (List Int)
def ku(prog:wI)(w:wJ):HV prog w SK:=Ot (gb (gh prog w)) (gb (gb (gh prog w)))
def zCz(prog:wI)(w:wJ):HeapKind prog w SK where
 is:=λh k a=>(ku prog w).is h k (.ref a)
 hash:=(ku prog w).hash
 draws:=(ku prog w).draws
 room:=λA=>A.units+3<WD
 inj:=λx y=>(ku prog w).inj x y
 keeps:=λx ho hd hs=>(ku prog w).keeps x ho hd hs
 pyHash:=λhu hk h=>(ku prog w).pyHash hu hk h
 eqBool:=λhu hx hy h=>(ku prog w).eqBool hu hx hy h
 quiet:=λhk h=>(ku prog w).quiet 8 (by show 3<=8;decide) hk h
end TB
namespace L2
open PySem PySem.Spec PyProof.Rows GM
open TB (SK zCz ku gb gh Ot d8)
theorem Oi{P:wI}{w:wJ}{h:wG} : ∀{us:List wg}{ns:List Int},IntsAre us ns->d8 ((gh P w).is h) ns us
 | _,_,.nil=>.nil
 | _,_,.cons n t r=>.cons ⟨t,rfl⟩ (Oi r)
section
variable{X:Cx}{pins:List (we × Obj)}{σ : St}{H:Hp}{s:wl}
theorem Inv.Zh(I:Inv X pins σ H s){v:V}{u:wg}{k:List Int}(h:Is X.K H v (TZ k))(r:bj v u):(gb (gh X.prog X.w)).is s.heap k u:=by
 obtain⟨q,rfl,hs⟩:=rL.mp h;obtain⟨its,r',⟨o,e,hc,n,hd⟩,_⟩:=I.tuple hs;cases (show u=Value.ref q from r);exact⟨q,o,its.toArray,n,rfl,e,hc,hd,Oi (AF r')⟩
end
def zEH(l:List (Int × Nat)):Int:=reduceHash (vZ (l.map (·.1)))
def zDZ(ks:List Int):Int:=zEH (ks.map λk=>(hashInt k,1))
section
variable{X:Cx}{pins:List (we × Obj)}{σ : St}{H:Hp}{s:wl}{a b:we}{xs:List (SK × we × Int)}{ps:List Int}{cm:List (List Int)}{A:vb}{E:wg->wl->Prop}
end
section
variable{X:Cx}{pos pos':Pos}{i o value:Expr}{ty td tv:TE}
end
section
variable{K:wb}{H H':Hp}{Q:VK}{D:cv}{σ : St}{td ty tv:TE}{a b:we}{xs:List (SK × we × Int)}{ps:List Int}{cm:List (List Int)}{n:Int}
end
section
variable{X:Cx}{N':List Str}{scope:Scope}{cl:List (Str × we)}{src:List (Option Nat)}{elt tgt iter:Expr}{ifs:List Expr}{pos:Pos}{wi:TI}{g:TG}{tt:TT}{te:TE}
end
end L2
namespace TB
open PySem PySem.Spec PyProof.Rows
def dJ(prog:wI)(w:wJ):HeapKind prog w (List Int) where
 is:=λh k a=>(gb (gh prog w)).is h k (.ref a)
 hash:=(gb (gh prog w)).hash
 draws:=(gb (gh prog w)).draws
 room:=λA=>A.units+1<WD
 inj:=λx y=>(gb (gh prog w)).inj x y
 keeps:=λx ho hd hs=>(gb (gh prog w)).keeps x ho hd hs
 pyHash:=λhu hk h=>(gb (gh prog w)).pyHash hu hk h
 eqBool:=λhu hx hy h=>(gb (gh prog w)).eqBool hu hx hy h
 quiet:=λhk h=>(gb (gh prog w)).quiet 8 (by show 1<=8;decide) hk h
section
variable{prog:wI}{w:wJ}{K:Type}[DecidableEq K]{knd:HeapKind prog w K}{A:vb}{E:wg->wl->Prop}{s:wl}
end
end TB
namespace L2
open PySem PySem.Spec PyProof.Rows GM
open TB (dJ gb gh)
abbrev NE:=List Int × we × we
def pe(x:NE)(e:DictEntry):Prop:=e=⟨zDZ x.1,.ref x.2.1,.ref x.2.2⟩
def hJ(a:we)(ep:Nat)(xs:List NE):HO:=.ext λh=>xs.length<=1000/\(a == sysModules)=false/\(xs.map (·.1)).Nodup /\ ∃o es,h.get? a=some o/\o.ExactDict/\o.data=.dict es ep/\Paired pe xs es.toList
def yH(K:wb)(H:Hp)(xs:List NE):Prop:=∀x∈xs,Is K H (.ref x.2.1) (TZ x.1)
def lS(xs:List NE)(k:List Int):Option we:=(xs.find? λx=>decide (x.1=k)).map (·.2.2)
theorem zA0{P:wI}{w:wJ}{H:Hp}{h:wG}{a:we}{ep:Nat}{xs:List NE}(z:xs.length<=1000)(hd:(a == sysModules)=false)(nd:(xs.map (·.1)).Nodup){o:Obj}{es:Array DictEntry}(ho:h.get? a=some o)(hx:o.ExactDict)(hda:o.data=.dict es ep)(r:Paired pe xs es.toList) :
  dN P w H h a (hJ a ep xs):=⟨⟨z,hd,nd,o,es,ho,hx,hda,r⟩,⟨o,ho⟩,λh1 h2 ⟨z,hd,nd,o,es,ho,q⟩ k=>⟨z,hd,nd,o,es,k _ ho,q⟩⟩
def iZ(xs:List NE):List (List Int × we × wg):=xs.map λx=>(x.1,x.2.1,.ref x.2.2)
theorem zEd{P:wI}{w:wJ}{xs:List NE}{es:List DictEntry}(r:Paired pe xs es):es=(iZ xs).map (entryOfKey (dJ P w)):=by
 induction r with
 | nil=>rfl
 | @cons x e xs es hx r ih =>
  show e::es=_::(iZ xs).map (entryOfKey (dJ P w))
  rw[<- ih,show e=_ from hx]
  rfl
theorem K_{P:wI}{w:wJ} : ∀xs:List NE,Paired pe xs ((iZ xs).map (entryOfKey (dJ P w)))
 | []=>.nil
 | x::xs=>.cons rfl (K_ xs)
theorem zCv(xs:List NE)(k:List Int):(atKey (iZ xs) k).map (·.2)=(lS xs k).map Value.ref:=by
 induction xs with
 | nil=>rfl
 | cons x xs ih =>
  unfold atKey lS iZ at *;rw[vd,uV,uV]
  by_cases e:x.1=k
  ·simp[e]
  ·simp only[e,decide_false]
   exact ih
section
variable{X:Cx}{pins:List (we × Obj)}{σ : St}{H:Hp}{s:wl}{a b q:we}{ep:Nat}{xs:List NE}{k:List Int}{A:vb}{E:wg->wl->Prop}
theorem Inv.nK(I:Inv X pins σ H s)(h:Is X.K H (.ref b) (TZ k)):(dJ X.prog X.w).is s.heap k b:=I.Zh h rfl
theorem Inv.Kl(I:Inv X pins σ H s)(e:H a=some (hJ a ep xs)):xs.length<=1000/\(a == sysModules)=false/\(xs.map (·.1)).Nodup /\ ∃o es,s.heap.get? a=some o/\o.ExactDict/\o.data=.dict es ep/\Paired pe xs es.toList :=
 (show dN X.prog X.w H s.heap a (hJ a ep xs)from I.aI a _ e).1
end
section
variable{X:Cx}{o e f:Expr}{apos cpos pos:Pos}{td ty tx:TE}{tg:Expr}
end
section
variable{K:wb}{H H':Hp}{Q:VK}{D:cv}{σ : St}{td ty tx te:TE}{g:TG}{tt:TT}{a b q:we}{ep:Nat}{xs:List NE}{k:List Int}{src:List (Option Nat)}
end
section
variable{X:Cx}{N':List Str}{scope:Scope}{cl:List (Str × we)}{src:List (Option Nat)}{elt tgt iter:Expr}{ifs:List Expr}{pos:Pos}{wi:TI}{g:TG}{tt:TT}{te:TE}
end
end L2
namespace TB
open PySem PySem.W PyProof.Rows
theorem MM:entryFor table "dict.update.loop"=some Builtin.«dict.update.loop»:=entryFor_of_tree (by kernel_rfl)
theorem tU:plainId "dict.update.loop"=true:=by decide +kernel
theorem zuQ:typeLookup (.type "zip") "keys"=pure none:=am_miss_of_fast (by decide +kernel)
theorem zlE:typeLookup (.type "zip") "__getattr__"=pure none:=by rw[typeLookup_type,builtinLookup_eq_fast];kernel_rfl
theorem zgS:entryFor table "zip.__getattribute__"=some Builtin.«object.__getattribute__» :=
 entryFor_alias (id':="object.__getattribute__") (by kernel_rfl) (by decide +kernel) (by decide +kernel) (by kernel_rfl)
theorem zsw(a:we)(fs:Array wg)(sl:Array (Option wg))(name:Str)(u:Tok)(hmiss:typeLookup (.type "zip") name=pure none)(hname:(["__module__","__name__","__qualname__","__doc__","__annotations__"]:List Str).contains name=false)(hsz:name.length+100<=w8:=by size_fits) :
  Meets (Builtin.«object.__getattribute__» ⟨[.ref a,.str name u],[]⟩) (λA R s=>s.heap.get? a=some {cls:=.type "zip",dict:=none,data:=.fields fs,slots:=sl}/\raisesAttr (.ref a) name A R s) :=
 Meets.of_wp λprog w A R s hs=>by
  obtain⟨hp,g,d,tk,os⟩:=s;obtain⟨hx,hs⟩:=hs;have hT:(⟨hp,g,d,tk,os⟩:wl).TypeIs (.ref a) "zip":=⟨_,hx,rfl⟩;unfold Builtin.«object.__getattribute__»
  repeat(any_goals(first | assumption | wp_step))
  simp only[hname,ve,if_false]
  repeat(any_goals(first | assumption | wp_step))
  exact wpAny_raiseAttrError hs.1 hs.2 (attrMsg_fits (by decide +kernel) hsz)
section
variable{prog:wI}{w:wJ}{A:vb}{E:wg->wl->Prop}{s:wl}
theorem zAt{a:we}{fs:Array wg}{sl:Array (Option wg)}{Q:Option wg->wl->Prop}
  (hx:s.heap.get? a=some {cls:=.type "zip",dict:=none,data:=.fields fs,slots:=sl}) (hA:A.handled=none)
  (q:∀h' tk,(∀b ob,s.heap.get? b=some ob->h'.get? b=some ob)->Q none {s with heap:=h',toks:=tk}) :
  wx (model prog w) A (getAttr? (.ref a) "keys") Q E s:=by
 obtain⟨hp,g,d,tk,os⟩:=s;have hT:∀tk',(⟨hp,g,d,tk',os⟩:wl).TypeIs (.ref a) "zip":=λ_=>⟨_,hx,rfl⟩
 have f1:=sub_AttributeError;have f3:=qu.lookup;have f4:=qu.bind (.ref a);have f5:=zlE;unfold getAttr? getAttrBy? getAttrBy
 repeat(any_goals(first | assumption | exact hT _ | ((with_reducible show wx _ _ (call (Value.builtin "zip.__getattribute__") _ _) _ _ _);refine call_meets qu (hT _) zgS (PySem.F.args_zip_getattribute_2 _ _) (zsw a fs sl "keys" _ zuQ (by decide +kernel)) ⟨hx,hA,λh' tk' e hx'=>?_⟩) | wp_step))
 obtain⟨t',u',he⟩:=hx'.there
 show wx _ _ (getattributeRaised _ _ _ _ _ _ _) _ _ _
 unfold getattributeRaised
 repeat(any_goals(first | assumption | wp_step))
 exact q _ _ hx'.keeps
theorem zzy{p:we}{x y:wg}(h:Wz s.heap p x y){Q:List wg->wl->Prop}(q:Q [x,y] s):wx (model prog w) A (xV (.ref p)) Q E s:=by
 have hT:s.TypeIs (.ref p) "tuple":=⟨_,h,rfl⟩;unfold xV;refine wf (wpAny_typeOf hT ?_);rw[if_pos (by decide)];refine wf (Wg h rfl ?_);exact wp q
abbrev mB(h:wG)(z TI TO p:we)(f:Bool):Prop :=
 h.get? z=some {cls:=.type "zip",dict:=none,data:=.fields #[VS p,.bool f,.bool false,.ref TI,.ref TO],slots:=#[]}
end
section
variable{prog:wI}{w:wJ}{A:vb}{E:wg->wl->Prop}{s:wl}{z TI TO i1 i2 p:we}{f:Bool}{f1 f2:List we}{n1 n2 k:Nat}{P1 P2:Nat->wg->Prop}{S1 S2:Nat->wG->Prop}{a b:wg}
variable{op:Obj}
theorem NK{Q:Bool->wl->Prop}(hz:mB s.heap z TI TO p f)(hp:s.heap.get? p=some op)
  (q:∀g,mB g z TI TO p true->vv z s.heap g->Q false {s with heap:=g}):wx (model prog w) A (vG (.ref z)) Q E s:=by
 unfold vG;refine wf (vD hz rfl (x:=VS p) rfl ?_)
 show wx _ _ (loadIfAlive ((p:Int).toNat) >>= _) _ _ _
 rw[wP];refine wf (kdx_alive hp ?_);simp only[Option.isNone_some,ve,if_false];refine wf (vD hz rfl (x:=.bool f) rfl ?_);cases f with
 | true =>
  rw[if_neg (show ¬ ((Value.bool true != Value.bool true)=true)from vF)];exact wp (q _ hz (X9 _ _))
 | false =>
  rw[if_pos (show(Value.bool false != Value.bool true)=true from rfl)];refine wf (Vd hz (by simp) λg hg sb=>?_);exact wp (q g hg sb)
theorem zE2{Q:wg->wl->Prop}(D1:Draws prog w A i1 f1 n1 P1 S1)(D2:Draws prog w A i2 f2 n2 P2 S2)(ap:L2.ZA z TI TO i1 i2 f1 f2)(hz:mB s.heap z TI TO p f)(hi:Wz s.heap TI (.ref i1) (.ref i2))(hp:s.heap.get? p=some op)
  (h1:S1 k s.heap) (h2:S2 k s.heap) (l1:k<n1) (l2:k<n2)
  (fin:∀x y h' tk,P1 k x->P2 k y->mB h' z TI TO p true->S1 (k+1) h'->S2 (k+1) h'->Wz h' s.heap.objs.size x y ->
   (∀c o,c≠z->c≠i1->c≠i2->s.heap.get? c=some o->h'.get? c=some o)->Q (.ref s.heap.objs.size) {s with heap:=h',toks:=tk}) :
  wx (model prog w) A (Builtin.«zip.__next__» ⟨[.ref z],[]⟩) (λr s'=>∃v,r=.done (.ret v)/\Q v s') E s:=by
 show wx _ _ (field (.ref z) 2 >>= _) _ _ _;refine wf (vD hz rfl (x:=.bool false) rfl ?_)
 show wx _ _ (field (.ref z) 3 >>= _) _ _ _;refine wf (vD hz rfl (x:=.ref TI) rfl ?_)
 refine wf (Wg hi rfl ?_);show wx _ _ (vG (.ref z) >>= _) _ _ _
 refine wf (NK hz hp λg0 hz0 sb0=>?_);have sb0:vv z s.heap g0:=sb0;simp only[ve,if_false];refine wf ?_;rw[<- Vz];simp only[qR,QR];have h1a:S1 k g0:=D1.frame _ _ _ h1 λc hc o e=>sb0.extBut c o (λq=>ap.b1 (q ▸ hc)) e
 have h2a:S2 k g0:=D2.frame _ _ _ h2 λc hc o e=>sb0.extBut c o (λq=>ap.b2 (q ▸ hc)) e
 refine wf (wf (Wk ?_))
 show wx _ _ (vJ (.ref i1) >>= _) _ _ _
 refine wf (D1.item k _ _ _ l1 h1a λx g1 t1 px h1b sb1=>wp ?_);have sb1:vv i1 g0 g1:=sb1;have h2b:S2 k g1:=D2.frame _ _ _ h2a λc hc o e=>sb1.extBut c o (λq=>ap.b5 (q ▸ hc)) e
 refine wp ?_;refine wf (wf (Wk ?_))
 show wx _ _ (vJ (.ref i2) >>= _) _ _ _
 refine wf (D2.item k _ _ _ l2 h2b λy g2 t2 py h2c sb2=>wp ?_);have sb2:vv i2 g1 g2:=sb2;have h1c:S1 (k+1) g2:=D1.frame _ _ _ h1b λc hc o e=>sb2.extBut c o (λq=>ap.b6 (q ▸ hc)) e
 refine wp (wp ?_);refine wf (wpAny_newTuple (hsz:=by show 2<=w8;rw[Vw];decide) ?_);have hsz:g2.objs.size=s.heap.objs.size:=by rw[sb2.1,sb1.1,sb0.1]
 have kept:∀c o,c≠z->c≠i1->c≠i2->s.heap.get? c=some o->g2.get? c=some o:=λc o c1 c3 c4 e=>sb2.extBut _ _ c4 (sb1.extBut _ _ c3 (sb0.extBut _ _ c1 e))
 have zz:mB g2 z TI TO p true:=sb2.extBut _ _ ap.a4.symm (sb1.extBut _ _ ap.a3.symm hz0);refine wp ⟨_,rfl,?_⟩
 show Q (.ref g2.objs.size) _
 have new:Wz (g2.push {cls:=.type "tuple",data:=.seq #[x,y]}) g2.objs.size x y:=wN _ rfl;rw[hsz]at new ⊢;exact fin x y _ _ px py (wn _ zz) (D1.frame _ _ _ h1c λc hc o e=>wn _ e) (D2.frame _ _ _ h2c λc hc o e=>wn _ e) new λc o c1 c3 c4 e=>wn _ (kept c o c1 c3 c4 e)
theorem zDU{Q:Fin->wl->Prop}(D1:Draws prog w A i1 f1 n1 P1 S1)(ap:L2.ZA z TI TO i1 i2 f1 f2)(hz:mB s.heap z TI TO p f)(hi:Wz s.heap TI (.ref i1) (.ref i2))(hp:s.heap.get? p=some op)(h1:S1 n1 s.heap)
  (fin:∀h' e tk,(∀c o,c≠z->c≠i1->s.heap.get? c=some o->h'.get? c=some o)->(∃o,h'.get? e=some o/\o.cls=.type "StopIteration")->E (.ref e) {s with heap:=h',toks:=tk}) :
  wx (model prog w) A (Builtin.«zip.__next__» ⟨[.ref z],[]⟩) Q E s:=by
 show wx _ _ (field (.ref z) 2 >>= _) _ _ _;refine wf (vD hz rfl (x:=.bool false) rfl ?_)
 show wx _ _ (field (.ref z) 3 >>= _) _ _ _;refine wf (vD hz rfl (x:=.ref TI) rfl ?_)
 refine wf (Wg hi rfl ?_);show wx _ _ (vG (.ref z) >>= _) _ _ _
 refine wf (NK hz hp λg0 hz0 sb0=>?_);have sb0:vv z s.heap g0:=sb0;simp only[ve,if_false];refine wf ?_;rw[<- Vz];simp only[qR,QR];have h1a:S1 n1 g0:=D1.frame _ _ _ h1 λc hc o e=>sb0.extBut c o (λq=>ap.b1 (q ▸ hc)) e
 refine wf (wf (Wk ?_))
 show wx _ _ (vJ (.ref i1) >>= _) _ _ _
 exact wf (D1.done _ _ _ h1a λg1 e sb1 he=>fin g1 e _ (λc o c1 c3 q=>sb1 _ _ c3 (sb0.extBut _ _ c1 q)) he)
end
theorem oP{prog:wI}{w:wJ}{h h':wG}{k:List Int}{a:we}(x:(dJ prog w).is h k a)(e:∀o,h.get? a=some o->h'.get? a=some o):(dJ prog w).is h' k a:=by
 obtain⟨a',o,items,n,ea,ho,hc,hd,r⟩:=x;cases ea;exact⟨a,o,items,n,rfl,e o ho,hc,hd,r⟩
def ko(base:we)(h h':wG):Prop:=∀b o,b<base->h.get? b=some o->h'.get? b=some o
theorem ko.trans{base:we}{h h' h'':wG}(x:ko base h h')(y:ko base h' h''):ko base h h'':=λb o hb e=>y b o hb (x b o hb e)
structure ZB(base z TI TO i1 i2 d a b:we):Prop where
 ap:L2.ZA z TI TO i1 i2 [i1,a] [i2,b]
 na:a≠i1
 nb:b≠i2
 bz:base<=z
 bO:base<=TO
 b1:base<=i1
 b2:base<=i2
 bd:base<=d
 dz:d≠z
 dI:d≠TI
 dO:d≠TO
 d1:d≠i1
 d2:d≠i2
 la:a<base
 lb:b<base
def lX(z TI TO i1 i2 d a b:we)(its jts:Array wg)(i:Nat)(h:wG):Prop:=Wz h TI (.ref i1) (.ref i2)/\(h.IsTupleIter i1 a i/\h.IsTuple a its)/\(h.IsTupleIter i2 b i/\h.IsTuple b jts) /\
 ((∃x y,IsZip h z TI TO .none/\Wz h TO x y) \/ ∃p f op,mB h z TI TO p f/\h.get? p=some op/\p≠z/\p≠i1/\p≠i2/\p≠d)
section
variable{prog:wI}{w:wJ}{A:vb}{E:wg->wl->Prop}{s:wl}{base z TI TO i1 i2 d a b:we}{its jts:Array wg}{i:Nat}
theorem jA(hh:A.handled=none)(it l:we)(hne:l≠it)(items:Array wg):Draws prog w A it [it,l] items.size (λi v=>items[i]? = some v) (λi h=>h.IsTupleIter it l i/\h.IsTuple l items):=L2.oO true hh it l hne items
theorem zD6(B:ZB base z TI TO i1 i2 d a b)(hh:A.in1.handled=none)(st:lX z TI TO i1 i2 d a b its jts i s.heap)(hd:d<s.heap.objs.size){x y:wg}(hx:its[i]? = some x)(hy:jts[i]? = some y){Q:Option wg->wl->Prop}
  (q:∀(h':wG) tk,Wz h' s.heap.objs.size x y->lX z TI TO i1 i2 d a b its jts (i+1) h'->(∀c o,c≠z->c≠TO->c≠i1->c≠i2->s.heap.get? c=some o->h'.get? c=some o)->Q (some (.ref s.heap.objs.size)) {s with heap:=h',toks:=tk}) :
  wx (model prog w) A (VR (.ref z)) Q E s:=by
 obtain⟨hi,s1,s2,hz⟩:=st
 have lt1:i<its.size:=by
  rcases wA i its.size with z | z
  ·exact z
  ·rw[Vv z]at hx;cases hx
 have lt2:i<jts.size:=by
  rcases wA i jts.size with z | z
  ·exact z
  ·rw[Vv z]at hy;cases hy
 have ap:=B.ap;unfold VR;rcases hz with⟨x0,y0,hz,ho⟩ | ⟨p,f,op,hz,hp,p1,p2,p3,p4⟩
 ·have hT:s.TypeIs (.ref z) "zip":=⟨_,hz,rfl⟩
  have ltz:=wD hz
  refine wf (VL (wpAny_callSpecial?_slot (name:=vW "__next__") hT Wp (Wd Wp hT qa
   (L2.Kj (jA (A:=A.in1) hh i1 a B.na its) (jA (A:=A.in1) hh i2 b B.nb jts) ap hz hi ho s1 s2 lt1 lt2 λv1 v2 h1 tk e1 e2 hz1 ho1 st1 st2 hT1 hk=>wp ?_) (VP _))))
  rw[hx]at e1;cases e1;rw[hy]at e2;cases e2;have l1:i1<s.heap.objs.size:=by obtain⟨o,e,_⟩:=s1.1;exact wD e
  have l2:i2<s.heap.objs.size:=by obtain⟨o,e,_⟩:=s2.1;exact wD e
  exact q h1 tk hT1 ⟨hk _ _ ap.a1 ap.a5 ap.a6 ap.a7 hi,st1,st2,.inr ⟨s.heap.objs.size,false,_,hz1,hT1,vn ltz,vn l1,vn l2,vn hd⟩⟩ hk
 ·have hT:s.TypeIs (.ref z) "zip":=⟨_,hz,rfl⟩
  refine wf (VL (wpAny_callSpecial?_slot (name:=vW "__next__") hT Wp (Wd Wp hT qa
   (zE2 (jA (A:=A.in1) hh i1 a B.na its) (jA (A:=A.in1) hh i2 b B.nb jts) ap hz hi hp s1 s2 lt1 lt2 λv1 v2 h1 tk e1 e2 hz1 st1 st2 hT1 hk=>wp ?_) (VP _))))
  rw[hx]at e1;cases e1;rw[hy]at e2;cases e2;exact q h1 tk hT1 ⟨hk _ _ ap.a1 ap.a6 ap.a7 hi,st1,st2,.inr ⟨p,true,op,hz1,hk _ _ p1 p2 p3 hp,p1,p2,p3,p4⟩⟩ λc o c1 _ c3 c4 e=>hk c o c1 c3 c4 e
theorem zE4(B:ZB base z TI TO i1 i2 d a b)(hh:A.in1.handled=none)(st:lX z TI TO i1 i2 d a b its jts its.size s.heap){Q:Option wg->wl->Prop}
  (q:∀(h':wG) tk,(∀c o,c≠z->c≠TO->c≠i1->c≠i2->s.heap.get? c=some o->h'.get? c=some o)->Q none {s with heap:=h',toks:=tk}) :
  wx (model prog w) A (VR (.ref z)) Q E s:=by
 obtain⟨hi,s1,s2,hz⟩:=st;have ap:=B.ap;unfold VR;rcases hz with⟨x0,y0,hz,ho⟩ | ⟨p,f,op,hz,hp,p1,p2,p3,p4⟩
 ·have hT:s.TypeIs (.ref z) "zip":=⟨_,hz,rfl⟩
  refine wf (VL (wpAny_callSpecial?_slot (name:=vW "__next__") hT Wp (Wd Wp hT qa
   (L2.Km (k:=its.size) (jA (A:=A.in1) hh i1 a B.na its) (jA (A:=A.in1) hh i2 b B.nb jts) ap hz hi ho s1 s2 (.inl rfl) λh' y tk hk hx'=>?_) (VP _))))
  obtain⟨o,ho',hcl⟩:=hx';exact wf (Vr (T:="StopIteration") (b:=true) ⟨o,ho',hcl⟩ isSubtype_stop (wp (q h' tk hk)))
 ·have hT:s.TypeIs (.ref z) "zip":=⟨_,hz,rfl⟩
  refine wf (VL (wpAny_callSpecial?_slot (name:=vW "__next__") hT Wp (Wd Wp hT qa
   (zDU (jA (A:=A.in1) hh i1 a B.na its) ap hz hi hp s1 λh' y tk hk hx'=>?_) (VP _))))
  obtain⟨o,ho',hcl⟩:=hx';exact wf (Vr (T:="StopIteration") (b:=true) ⟨o,ho',hcl⟩ isSubtype_stop (wp (q h' tk λc o c1 _ c3 _ e=>hk c o c1 c3 e)))
end
theorem lX.but{base z TI TO i1 i2 d a b:we}{its jts:Array wg}{i:Nat}{h g:wG}(st:lX z TI TO i1 i2 d a b its jts i h)(B:ZB base z TI TO i1 i2 d a b)(sb:vv d h g):lX z TI TO i1 i2 d a b its jts i g:=by
 obtain⟨hi,s1,s2,hz⟩:=st;have da:a≠d:=wQ (wV B.la B.bd);have db:b≠d:=wQ (wV B.lb B.bd);refine⟨sb.extBut _ _ B.dI.symm hi,⟨s1.1.at λo e=>sb.extBut _ _ B.d1.symm e,s1.2.at λo e=>sb.extBut _ _ da e⟩,⟨s2.1.at λo e=>sb.extBut _ _ B.d2.symm e,s2.2.at λo e=>sb.extBut _ _ db e⟩,?_⟩;rcases hz with⟨x0,y0,hz,ho⟩ | ⟨p,f,op,hz,hp,p1,p2,p3,p4⟩
 ·exact .inl ⟨x0,y0,sb.extBut _ _ B.dz.symm hz,sb.extBut _ _ B.dO.symm ho⟩
 ·exact .inr ⟨p,f,op,sb.extBut _ _ B.dz.symm hz,sb.extBut _ _ p4 hp,p1,p2,p3,p4⟩
section
variable{prog:wI}{w:wJ}{A:vb}{R:Result->wl->Prop}{base z TI TO i1 i2 d a b:we}{its jts:Array wg}{key:Nat->List Int}{ka:Nat->we}{val:Nat->wg}
theorem zD2(B:ZB base z TI TO i1 i2 d a b)(hh:A.in1.in1.handled=none)(hu:A.in1.units+1<WD)(hl:jts.size=its.size)(hn:its.size<=999)(hx:∀i,i<its.size->its[i]? = some (.ref (ka i)))(hy:∀i,i<its.size->jts[i]? = some (val i))
  (lk:∀i,i<its.size->ka i<base) (hk:∀i j,i<its.size->j<its.size->key i=key j->i=j) :
  ∀(c i:Nat)(s:wl),its.size-i=c->i<=its.size->lX z TI TO i1 i2 d a b its jts i s.heap->(∀j,j<its.size->(dJ prog w).is s.heap (key j) (ka j))->s.heap.DictOfH (dJ prog w) d ((wt i).map λj=>(key j,ka j,val j)) ->
   (∀(g:wG)(tk:Nat),ko base s.heap g->g.DictOfH (dJ prog w) d ((wt its.size).map λj=>(key j,ka j,val j))->R (.ok (.ret .none)) {s with heap:=g,toks:=tk}) ->
   codeAny (model prog w) A (.builtin "dict.update.loop" ⟨[.ref d,.ref z,VS i,.none],[]⟩) R s:=by
 have lift:∀{h h':wG}{xs:List (List Int × we × wg)},h.DictOfH (dJ prog w) d xs->(∀x∈xs,x.2.1<base)->ko base h h'->(∀o,h.get? d=some o->h'.get? d=some o)->h'.DictOfH (dJ prog w) d xs:=λx hb bl hd=>by
  obtain⟨o,es,ep,ho,hc,hda,he,his,hn⟩:=x;exact⟨o,es,ep,hd o ho,hc,hda,he,λx hx=>oP (his x hx) λo e=>bl _ o (hb x hx) e,hn⟩
 have lo:∀{h h':wG},(∀c o,c≠z->c≠TO->c≠i1->c≠i2->h.get? c=some o->h'.get? c=some o)->ko base h h':=λhk c o hc e=>hk c o (wQ (wV hc B.bz)) (wQ (wV hc B.bO)) (wQ (wV hc B.b1)) (wQ (wV hc B.b2)) e
 intro c
 induction c with
 | zero =>
  intro i s ec ei st ht hs r;obtain rfl:i=its.size:=by omega
  refine qr MM ?_;rw[VY tU _];refine wf (m:=VR (.ref z)) (zE4 B hh st λh' tk hk'=>?_);refine wf (wp ?_);refine wp (r h' tk (lo hk') (lift hs (λx hx=>?_) (lo hk') λo e=>hk' d o B.dz B.dO B.d1 B.d2 e));obtain⟨j,hj,rfl⟩:=wU.mp hx;exact lk j (wH.mp hj)
 | succ c ih =>
  intro i s ec ei st ht hs r;have lt:i<its.size:=by omega
  have hdl:d<s.heap.objs.size:=by obtain⟨o,_,_,ho,_⟩:=hs;exact wD ho
  refine qr MM ?_;rw[VY tU _];refine wf (m:=VR (.ref z)) (zD6 B hh st hdl (hx i lt) (hy i lt) λh' tk hp st' hk'=>?_);have bl:=lo hk'
  have hs':h'.DictOfH (dJ prog w) d ((wt i).map λj=>(key j,ka j,val j)):=lift hs (λx hx=>by
   obtain⟨j,hj,rfl⟩:=wU.mp hx;have:=wH.mp hj;exact lk j (by omega)) bl λo e=>hk' d o B.dz B.dO B.d1 B.d2 e
  have ht':∀j,j<its.size->(dJ prog w).is h' (key j) (ka j):=λj hj=>oP (ht j hj) λo e=>bl _ o (lk j hj) e
  refine wf (Wk (wf (wpAny_tryCatch (zzy hp ?_))));refine Wk (wpAny_dictSet_heap (knd:=dJ prog w) (k:=key i) hu (ht' i lt) hs' (λh2 hd2 sb=>?_) (by rw[wm,vx,Vw];omega))
  have e2:storedH ((wt i).map λj=>(key j,ka j,val j)) (key i) (ka i) (val i)=(wt (i+1)).map λj=>(key j,ka j,val j):=by
   rw[storedH_new,QF,vA]
   ·rfl
   ·cases e:atKey ((wt i).map λj=>(key j,ka j,val j)) (key i)with
    | none=>rfl
    | some p =>
     unfold atKey at e;rw[Vs]at e;obtain⟨y,hy',_⟩:=e;have hm:=xj hy';have hp':=uW hy';obtain⟨j,hj,rfl⟩:=wU.mp hm;have hj:=wH.mp hj;have:=hk j i (by omega) lt (of_decide_eq_true hp');omega
  rw[e2]at hd2;have sb:vv d h' h2:=sb;refine wp ⟨plainId_quiet tU _,?_⟩;have bl2:ko base h' h2:=λc o hc e=>sb.extBut c o (wQ (wV hc B.bd)) e
  have:=ih (i+1) {s with heap:=h2,toks:=tk+(dJ prog w).draws (key i)} (by omega) lt (st'.but B sb) (λj hj=>oP (ht' j hj) λo e=>bl2 _ o (lk j hj) e) hd2 λg tk' bl3 dd=>r g tk' (bl.trans (bl2.trans bl3)) dd
  exact this
end
section
variable{prog:wI}{w:wJ}{A:vb}{E:wg->wl->Prop}{s:wl}{base z TI TO i1 i2 a b:we}{its jts:Array wg}{key:Nat->List Int}{ka:Nat->we}{val:Nat->wg}{x0 y0:wg}
theorem YQ(B:ZB base z TI TO i1 i2 s.heap.objs.size a b)(hh:A.handled=none)(hu:A.units+3<WD)(hl:jts.size=its.size)(hn:its.size<=999)(hx:∀i,i<its.size->its[i]? = some (.ref (ka i)))(hy:∀i,i<its.size->jts[i]? = some (val i))
  (lk:∀i,i<its.size->ka i<base) (hk:∀i j,i<its.size->j<its.size->key i=key j->i=j) (hz:IsZip s.heap z TI TO .none) (hi:Wz s.heap TI (.ref i1) (.ref i2)) (ho:Wz s.heap TO x0 y0) (s1:s.heap.IsTupleIter i1 a 0) (t1:s.heap.IsTuple a its) (s2:s.heap.IsTupleIter i2 b 0) (t2:s.heap.IsTuple b jts)
  (hK:∀j,j<its.size->(dJ prog w).is s.heap (key j) (ka j)) {Q:wg->wl->Prop}
  (q:∀(g:wG)(tk:Nat),ko base s.heap g->g.DictOfH (dJ prog w) s.heap.objs.size ((wt its.size).map λj=>(key j,ka j,val j))->Q (.ref s.heap.objs.size) {s with heap:=g,toks:=tk}) :
  wx (model prog w) A (call (.type "dict") [.ref z]) Q E s:=by
 refine callType_codes (Q₁:=λobj s₁=>obj=.ref s.heap.objs.size/\s₁ = {s with heap:=s.heap.push {cls:=.type "dict",data:=.dict #[]}}) PySem.F.kt_called_dict (PySem.F.kt_typeCall_dict_1 _) PySem.F.entry_dict_init (kt_code_dict_new _ ⟨rfl,rfl⟩) ?_;rintro obj s₁ ⟨rfl,rfl⟩;have hnew:(s.heap.push {cls:=.type "dict",data:=.dict #[]}).DictOfH (dJ prog w) s.heap.objs.size []:=Heap.DictOfH.new s.heap;have hz':IsZip (s.heap.push {cls:=.type "dict",data:=.dict #[]}) z TI TO .none:=wn _ hz;refine⟨hnew.typeIs,PySem.F.args_dict_init_2 _ _,?_⟩;unfold Builtin.«dict.__init__»;refine wf ?_;unfold Builtin.Dict.selfAndRest;refine wf (wpAny_notOrdered_dict hnew.typeIs ?_)
 show wx _ _ (pure (s.heap.objs.size,[Value.ref z])) _ _ _
 refine wp ?_
 show wx _ _ (xy "dict.__init__" s.heap.objs.size (.ref z) [] .none) _ _ _
 unfold xy;refine wf (wpAny_typeOf (T:="zip") ⟨_,hz',rfl⟩ ?_);rw[if_pos (by decide)];refine wf (zAt hz' (by exact hh) λh1 tk1 kp1=>?_);simp only[Option.isNone_none,if_true];refine wf (wpAny_rule ?_);have kp0:∀b o,s.heap.get? b=some o->h1.get? b=some o:=λb o e=>kp1 b o (wn _ e)
 have dn:h1.DictOfH (dJ prog w) s.heap.objs.size []:=by
  obtain⟨o,es,ep,ho,hc,hda,he,his,hn⟩:=hnew;exact⟨o,es,ep,kp1 _ _ ho,hc,hda,he,(λx hx=>by cases hx),hn⟩
 refine wf (wpAny_pyIter_zip (kp0 _ _ hz) ?_);refine wp ⟨plainId_quiet tU _,?_⟩;refine zD2 B (by exact hh) (show A.units+1+1+1<WD by omega) hl hn hx hy lk hk (its.size-0) 0 _ rfl (Wm _) ⟨kp0 _ _ hi,⟨s1.at λo e=>kp0 _ o e,t1.at λo e=>kp0 _ o e⟩,⟨s2.at λo e=>kp0 _ o e,t2.at λo e=>kp0 _ o e⟩,.inl ⟨x0,y0,kp0 _ _ hz,kp0 _ _ ho⟩⟩ (λj hj=>oP (hK j hj) λo e=>kp0 _ o e) dn λg tk bl dd=>?_
 exact⟨rfl,q g tk (λc o hc e=>bl c o hc (kp0 c o e)) dd⟩
end
end TB
namespace L2
open PySem PySem.Spec PyProof.Rows GM
open TB (dJ gb gh)
theorem zzw:vN "dict"=some (.type "dict"):=by decide +kernel
def gz(ks:List (List Int))(us ws:List we):List NE:=(wt us.length).map λj=>(ks.getD j [],us.getD j 0,ws.getD j 0)
def MA(K:wb)(vs:List V)(H1:Hp)(Q:VK):Prop:=∃(a b:we)(ks:List (List Int))(us ws:List we),vs=[.ref a,.ref b]/\aU K H1 a (us.map V.ref)/\aU K H1 b (ws.map V.ref)/\us.length=ws.length/\us.length<=999/\ak K H1 (us.map V.ref) (ks.map TZ)/\ks.Nodup /\
 ∀D ep,H1 D=none->Q (.ref D) (upd H1 D (hJ D ep (gz ks us ws)))
def NX(K:wb)(ta:TA):TE:=λσ H Q=>ta σ H λvs H1=>MA K vs H1 Q
theorem zEB{n d a b:Nat}(la:a<n)(lb:b<n)(hd:n+5<=d):TB.ZB n (n+4) (n+2) (n+3) n (n+1) d a b where
 ap:=NU la lb
 na:=wQ la
 nb:=wQ (VO lb)
 bz:=WP _ 4
 bO:=WP _ 3
 b1:=wo _
 b2:=WP _ 1
 bd:=by show n<=d;omega
 dz:=vn (by omega)
 dI:=vn (by omega)
 dO:=vn (by omega)
 d1:=vn (by omega)
 d2:=vn (by omega)
 la:=la
 lb:=lb
theorem zwR{ks:List (List Int)}{us ws:List we}(h:ks.length=us.length):(gz ks us ws).map (·.1)=ks:=by
 unfold gz;rw[WM];refine List.ext_getElem? λj=>?_
 rw[wu];rcases wA j us.length with z | z
 ·rw[vM z,wc (by omega:j<ks.length)]
  show some (ks.getD j [])=_
  rw[wa,wc (by omega:j<ks.length)]
  rfl
 ·rw[wL (by simpa using z),wL (by omega)]
  rfl
section
variable{X:Cx}{o i:Expr}{pos:Pos}{td ty:TE}
theorem Eh:∀{ws:List V}{us:List wg},aT ws us->∀{i:Nat}{q:we},ws[i]? = some (.ref q)->us[i]? = some (.ref q)
 | _,_,.nil,i,q,h=>by simp at h
 | _,_,.cons r1 r2,0,q,h=>by
  simp only[xx,Qp]at h ⊢;subst h;exact r1
 | _,_,.cons r1 r2,i+1,q,h=>by
  simp only[Qm]at h ⊢;exact Eh r2 h
theorem zyh{l m:Expr}{ta:TA}{p p2 pos2:Pos}(hc:X.calm=true)(hu:X.A.units+4<WD)(hg:Gl X "dict")(hm:X.mg "dict"=none)(hg2:Gl X "zip")(hm2:X.mg "zip"=none)(ha:PA X [l,m] ta)(hs:w5 [l,m] X.env=[(false,eval l X.env),(false,eval m X.env)]:=by rfl)(hs2:w5 [m] X.env=[(false,eval m X.env)]:=by rfl)
   (hs3:w5 [Expr.Call (.Name "zip" p2) [l,m] [] pos2] X.env=[(false,eval (.Call (.Name "zip" p2) [l,m] [] pos2) X.env)]:=by rfl):PE X (.Call (.Name "dict" p) [.Call (.Name "zip" p2) [l,m] [] pos2] [] pos) (NX X.K ta):=by
 intro pins s σ H Q I h;refine Call_ (gP I hg hm zzw ?_);refine vB ?_ hs3 rfl;rw[hs3]
 show wx _ _ (spliced ((false,eval _ X.env)::backTo pos [])) _ _ s
 refine QY ?_;refine Call_ (gP I hg2 hm2 Di (vB (aK (ha pos2 pins s σ H _ I h) λus s1 ⟨vs,H1,I1,r1,q1⟩=>?_) (by rw[hs,hs2]) (by rw[hs2];rfl)));obtain⟨a,b,ks,us',ws,rfl,hq1,hq2,hl,hn,hk,nd,q⟩:=q1;obtain⟨u,v,rfl,ru,rv⟩:=lF r1;cases ru;cases rv;obtain⟨its,ri,p1⟩:=I1.jc (t:=true) hq1;obtain⟨jts,rj,p2⟩:=I1.jc (t:=true) hq2;have p1:s1.heap.IsTuple a its.toArray:=p1;have p2:s1.heap.IsTuple b jts.toArray:=p2;have la:a<s1.heap.objs.size:=by obtain⟨o,e,_⟩:=p1;exact wD e
 have lb:b<s1.heap.objs.size:=by obtain⟨o,e,_⟩:=p2;exact wD e
 have li:=ri.length;have lj:=rj.length;have lk:=hk.length;simp only[wm]at li lj lk;refine YB p1 p2 λh' hz hi ho t1 t2 kp=>?_
 refine Q8 ?_;have hd:s1.heap.objs.size+5<=h'.objs.size:=wD hz
 have hx:∀j,j<its.toArray.size->its.toArray[j]? = some (Value.ref (us'.getD j 0)):=λj hj=>by
   have hj:j<us'.length:=by simpa [li] using hj
   have:=Eh ri (show(us'.map V.ref)[j]? = some (V.ref (us'.getD j 0)) by rw[wu,wa,wc hj];rfl)
   simpa using this
 have hy:∀j,j<its.toArray.size->jts.toArray[j]? = some (Value.ref (ws.getD j 0)):=λj hj=>by
   have hj : j < ws.length := by have : j < us'.length := by simpa [li] using hj
                                 omega
   have:=Eh rj (show(ws.map V.ref)[j]? = some (V.ref (ws.getD j 0)) by rw[wu,wa,wc hj];rfl)
   simpa using this
 have hK:∀j,j<its.toArray.size->(dJ X.prog X.w).is s1.heap (ks.getD j []) (us'.getD j 0):=λj hj=>by
   have hj:j<us'.length:=by simpa [li] using hj
   have:=(jF hk (i:=j) (x:=.ref (us'.getD j 0)) (by rw[wu,wa,wc hj];rfl)).2
   have ek:(ks.map TZ).getD j .none=TZ (ks.getD j []):=by
     rw[wa,wu,wa,wc (by omega:j<ks.length)]
     rfl
   rw[ek]at this;exact I1.nK this
 refine TB.YQ (zEB la lb hd) (I1.ok.hd hc) (by omega) (by simp only[wO];omega) (by simp only[wO];omega) hx hy (λj hj=>?_) (λi j hi' hj e=>?_) hz hi ho t1 (p1.at λo e=>kp _ o e) t2 (p2.at λo e=>kp _ o e) (λj hj=>TB.oP (hK j hj) λo e=>kp _ o e) λg tk bl dd=>?_
 . obtain⟨a',o,items,n,ea,ho',_⟩:=hK j hj
   cases ea;exact wD ho'
 . have hi' : i < ks.length := by have : i < its.length := by simpa using hi'
                                  omega
   have hj : j < ks.length := by have : j < its.length := by simpa using hj
                                 omega
   rw[wa,wa,wc hi',wc hj]at e;have pw:=We.mp nd;rcases WU i j with z | z | z
   . exact absurd e (pw i j hi' hj z)
   . exact z
   . exact absurd e.symm (pw j i hj hi' z)
 . obtain⟨o,es,ep,ho',hxd,hda,he,his,hnd⟩:=dd
   refine⟨.ref h'.objs.size,_,I1.laid (t':=tk) (a:=h'.objs.size) (o:=hJ h'.objs.size ep (gz ks us' ws)) (λc o e=>bl c o (wD e) (kp c o e)) (by omega) (zA0 ?_ (beq_eq_false_iff_ne.mpr (WE (wQ ?_))) ?_ ho' hxd hda ?_),rfl,q _ ep (I1.aI.fresh (by omega))⟩
   . unfold gz;rw[wm,vx];omega
   . exact wV I1.big (by omega)
   . rw[zwR (by omega)];exact nd
   . rw[he]
     have:((wt its.toArray.size).map λj=>(ks.getD j [],us'.getD j 0,Value.ref (ws.getD j 0)))=iZ (gz ks us' ws):=by
       unfold iZ gz;rw[WM,wO,<- li]
       rfl
     rw[this];exact K_ _
def Ec(K:wb)(td ty:TE):TE:=λσ H Q=>td σ H λx H1=>ty σ H1 λy H2=>∃a b ep xs k l,x=.ref a/\y=.ref b/\H2 a=some (hJ a ep xs)/\yH K H2 xs/\Is K H2 (.ref b) (TZ k)/\lS xs k=some l/\Q (.ref l) H2
theorem zCJ{pins:List (we × Obj)}{σ : St}{H:Hp}{s:wl}{a b l:we}{ep:Nat}{xs:List NE}{k:List Int}{A:vb}{E:wg->wl->Prop}{Q:wg->wl->Prop}(hu:A.units+4<WD)(I:Inv X pins σ H s)(e:H a=some (hJ a ep xs))(hk:yH X.K H xs)(hb:Is X.K H (.ref b) (TZ k))(hl:lS xs k=some l)(h:∀s',Inv X pins σ H s'->Q (.ref l) s') :
  wx (model X.prog X.w) A (getItem (.ref a) (.ref b)) Q E s:=by
 obtain⟨z,hd,nd,o,es,ho,hx,hda,r⟩:=I.Kl e;have zk:(iZ xs).map (·.1)=xs.map (·.1):=by unfold iZ;rw[WM];rfl
 have dd:s.heap.DictOfH (dJ X.prog X.w) a (iZ xs):=⟨o,es,ep,ho,hx,hda,zEd r,λx hx=>by
  obtain⟨y,hy,rfl⟩:=wU.mp hx;exact I.nK (hk y hy),by rw[zk];exact nd⟩
 have lk:=zCv xs k;rw[hl]at lk;cases e2:atKey (iZ xs) k with
 | none=>rw[e2]at lk;cases lk
 | some p =>
  rw[e2]at lk;have:p.2=Value.ref l:=wM lk;obtain⟨p1,p2⟩:=p;have:p2=Value.ref l:=this;subst this;exact wpAny_getItem_heap (knd:=dJ X.prog X.w) (show A.units+1+1<WD by omega) (I.nK hb) dd e2 (h _ (I.tok _))
theorem zxL(hu:X.A.units+4<WD)(ho:PE X o td)(hi:PE X i ty)(hs:RY i):PE X (.Subscript o i pos) (Ec X.K td ty):=by
 intro pins s σ H Q I h;refine zAZ PySem.F.slot_dict_getitem.lookup hs (aK (ho pins s σ H _ I h) λu s1 ⟨x,H1,I1,rx,q1⟩=>aK (hi pins s1 σ H1 _ I1 q1) λiv s2 ⟨y,H2,I2,ry,a,b,ep,xs,k,l,ex,ey,e,hk,hb,hl,q2⟩=>?_);subst ex ey;obtain rfl:u=Value.ref a:=rx;obtain rfl:iv=Value.ref b:=ry;obtain⟨_,_,_,od,es,g1,g2,_,_⟩:=I2.Kl e;exact⟨⟨od,g1,g2.1⟩,zCJ hu I2 e hk hb hl λs3 I3=>⟨.ref l,H2,I3,rfl,q2⟩⟩
end
section
variable{K:wb}{σ : St}{H:Hp}{Q:VK}{td ty:TE}{ta:TA}
theorem zyM(h:ta σ H λvs H1=>MA K vs H1 Q):NX K ta σ H Q:=h
theorem zxT(h:td σ H λx H1=>ty σ H1 λy H2=>∃a b ep xs k l,x=.ref a/\y=.ref b/\H2 a=some (hJ a ep xs)/\yH K H2 xs/\Is K H2 (.ref b) (TZ k)/\lS xs k=some l/\Q (.ref l) H2):Ec K td ty σ H Q:=h
end
end L2
namespace G
open PySem PySem.Spec PyProof.Rows L2 GM
local macro_rules | `(tactic| wtm_at "sc")=>`(tactic| exact ⟨rfl,rfl,rfl,by decide +kernel,rfl,by decide +kernel,by decide +kernel⟩)
def top(i:Nat):w9:=Vx.main.body.getD i (.Pass ⟨0,0,0,0⟩)
abbrev Ei:w9:=top 10
abbrev DZ:List Str:=["thing"]
abbrev y9:=DZ
theorem zrC:aQ DZ y9 (aH Ei):=by wtm_at "sc"
abbrev Fy:w9:=top 11
abbrev DP:List Str:=["least","most","thing"]
abbrev zy:=DP
theorem zld:aQ DP zy (aH Fy):=by wtm_at "sc"
abbrev EM:w9:=top 12
abbrev UN:List Str:=["one","other","rest"]
abbrev zU:List Str:=["one","other"]
theorem zp:aQ UN zU (aH EM):=by wtm_at "sc"
abbrev Gf:w9:=top 13
abbrev Ef:List Str:=["thing"]
abbrev yK:=Ef
theorem zqi:aQ Ef yK (aH Gf):=by wtm_at "sc"
abbrev BL:w9:=top 14
abbrev OH:List Str:=["one","other","shared","top","divisor"]
abbrev Au:List Str:=["one","other"]
theorem zQ:aQ OH Au (aH BL):=by wtm_at "sc"
abbrev C2:w9:=top 15
abbrev Gn:List Str:=["one","other"]
abbrev yx:=Gn
theorem zx0:aQ Gn yx (aH C2):=by wtm_at "sc"
abbrev BR:w9:=top 16
abbrev MS:List Str:=["one","other","first","second"]
abbrev yN:List Str:=["one","other"]
theorem FZ:aQ MS yN (aH BR):=by wtm_at "sc"
abbrev FJ:w9:=top 17
abbrev OO:List Str:=["one","other","turned"]
abbrev sV:List Str:=["one","other"]
theorem LR:aQ OO sV (aH FJ):=by wtm_at "sc"
abbrev Bm:w9:=top 18
abbrev FR:List Str:=["one","other"]
abbrev zV:=FR
theorem zAp:aQ FR zV (aH Bm):=by wtm_at "sc"
abbrev DE:w9:=top 23
abbrev Gh:List Str:=["a"]
abbrev zA:=Gh
theorem zrm:aQ Gh zA (aH DE):=by wtm_at "sc"
abbrev Fp:w9:=top 24
abbrev Gi:List Str:=["b"]
abbrev yG:=Gi
theorem zr2:aQ Gi yG (aH Fp):=by wtm_at "sc"
abbrev F7:w9:=top 25
abbrev Dk:List Str:=["a","b"]
abbrev yO:=Dk
theorem Z3:aQ Dk yO (aH F7):=by wtm_at "sc"
abbrev CF:w9:=top 26
abbrev Gk:List Str:=["thing"]
abbrev yw:=Gk
theorem zuz:aQ Gk yw (aH CF):=by wtm_at "sc"
abbrev Cv:w9:=top 27
abbrev Cu:List Str:=["rule"]
abbrev sZ:=Cu
theorem zAx:aQ Cu sZ (aH Cv):=by wtm_at "sc"
abbrev Ds:w9:=top 28
abbrev PC:List Str:=["rule","many","factor","shift","done"]
abbrev w_:List Str:=["rule","many"]
theorem nq:aQ PC w_ (aH Ds):=by wtm_at "sc"
abbrev BA:w9:=top 29
abbrev FD:List Str:=["push","x"]
abbrev zR:=FD
theorem zqZ:aQ FD zR (aH BA):=by wtm_at "sc"
abbrev CD:w9:=top 33
abbrev Dh:List Str:=["thing"]
abbrev zD:=Dh
theorem zsf:aQ Dh zD (aH CD):=by wtm_at "sc"
abbrev CI:w9:=top 34
abbrev DX:List Str:=["thing"]
abbrev yL:=DX
theorem zoB:aQ DX yL (aH CI):=by wtm_at "sc"
abbrev El:w9:=top 35
abbrev F8:List Str:=["rule","phases"]
abbrev AD:=F8
theorem zrI:aQ F8 AD (aH El):=by wtm_at "sc"
abbrev Gq:w9:=top 36
abbrev LC:List Str:=["phases","told","phase"]
abbrev zY:List Str:=["phases"]
theorem yM:aQ LC zY (aH Gq):=by wtm_at "sc"
abbrev Fs:w9:=top 37
abbrev Ew:List Str:=["phases","phase"]
abbrev sM:=Ew
theorem zs4:aQ Ew sM (aH Fs):=by wtm_at "sc"
abbrev Fb:w9:=top 38
abbrev SO:List Str:=["swarm","told","left","phase"]
abbrev zF:List Str:=["swarm"]
theorem pG:aQ SO zF (aH Fb):=by wtm_at "sc"
abbrev DB:w9:=top 39
abbrev CG:List Str:=["worms","phases"]
abbrev yy:=CG
theorem zot:aQ CG yy (aH DB):=by wtm_at "sc"
abbrev Cy:w9:=top 40
abbrev SA:List Str:=["swarm","wait","phases","left","waves","wave","push","worm","anew"]
abbrev tf:List Str:=["swarm"]
theorem iN:aQ SA tf (aH Cy):=by wtm_at "sc"
abbrev Ge:w9:=top 42
abbrev Rc:List Str:=["swarm","many","rows","hour","stand","done","told"]
abbrev sT:List Str:=["swarm","many"]
theorem kS:aQ Rc sT (aH Ge):=by wtm_at "sc"
abbrev EZ:w9:=top 43
abbrev NN:List Str:=["swarm","many","rows","last"]
abbrev yp:List Str:=["swarm","many"]
theorem CA:aQ NN yp (aH EZ):=by wtm_at "sc"
abbrev DM:w9:=top 45
abbrev BJ:List Str:=["swarm"]
abbrev zP:=BJ
theorem zt8:aQ BJ zP (aH DM):=by wtm_at "sc"
abbrev Ff:w9:=top 46
abbrev LA:List Str:=["swarm","rows","sizes","places"]
abbrev zN:List Str:=["swarm"]
theorem yt:aQ LA zN (aH Ff):=by wtm_at "sc"
abbrev Fm:w9:=top 47
abbrev Lg:List Str:=["rule","size","phases","turn","wait","push","told"]
abbrev Ak:List Str:=["rule","size","phases","turn"]
theorem Aq:aQ Lg Ak (aH Fm):=by wtm_at "sc"
abbrev Es:w9:=top 48
abbrev Yt:List Str:=["rule","sizes","places","told","turn","size"]
abbrev tD:List Str:=["rule","sizes","places"]
theorem zi:aQ Yt tD (aH Es):=by wtm_at "sc"
abbrev Bs:w9:=top 49
abbrev Fq:List Str:=["rule","sizes","places"]
abbrev Ao:=Fq
theorem zmq:aQ Fq Ao (aH Bs):=by wtm_at "sc"
abbrev B1:w9:=top 50
abbrev Pp:List Str:=["rule","sizes","places","told","rows","turn"]
abbrev yJ:List Str:=["rule","sizes","places"]
theorem rC:aQ Pp yJ (aH B1):=by wtm_at "sc"
abbrev Ft:w9:=top 51
abbrev Rr:List Str:=["rule","sizes","places","rows","count"]
abbrev yb:List Str:=["rule","sizes","places"]
theorem Bv:aQ Rr yb (aH Ft):=by wtm_at "sc"
abbrev DA:w9:=top 52
abbrev M4:List Str:=["rule","sizes","places","steps"]
abbrev sP:List Str:=["rule","sizes","places"]
theorem SJ:aQ M4 sP (aH DA):=by wtm_at "sc"
abbrev Fd:w9:=top 53
abbrev LY:List Str:=["rule","sizes","factor","noughts"]
abbrev yZ:List Str:=["rule","sizes"]
theorem BZ:aQ LY yZ (aH Fd):=by wtm_at "sc"
abbrev EG:w9:=top 56
abbrev SQ:List Str:=["rule","sizes","both","gap"]
abbrev yX:List Str:=["rule","sizes"]
theorem CP:aQ SQ yX (aH EG):=by wtm_at "sc"
abbrev Gm:w9:=top 57
abbrev CU:List Str:=["both","places","of_place","of_shift"]
abbrev tK:=CU
theorem zt4:aQ CU tK (aH Gm):=by wtm_at "sc"
abbrev DW:w9:=top 58
abbrev Yb:List Str:=["both","places","many","push"]
abbrev z7:List Str:=["both","places","many"]
theorem S_:aQ Yb z7 (aH DW):=by wtm_at "sc"
abbrev Dp:w9:=top 59
abbrev CT:List Str:=["rule","sizes","places","many"]
abbrev Ac:=CT
theorem zk2:aQ CT Ac (aH Dp):=by wtm_at "sc"
abbrev CW:w9:=top 60
abbrev Kp:List Str:=["both","places","many","of_place","of_shift","done"]
abbrev Ar:List Str:=["both","places","many"]
theorem oh:aQ Kp Ar (aH CW):=by wtm_at "sc"
abbrev Dw:w9:=top 61
abbrev Mp:List Str:=["rule","sizes","places","many","count","mean"]
abbrev tW:List Str:=["rule","sizes","places","many"]
theorem FG:aQ Mp tW (aH Dw):=by wtm_at "sc"
abbrev BQ:w9:=top 62
abbrev Gr:List Str:=["rule","sizes"]
abbrev AG:=Gr
theorem zmr:aQ Gr AG (aH BQ):=by wtm_at "sc"
abbrev FU:w9:=top 63
abbrev SH:List Str:=["rule","sizes","places","way"]
abbrev zj:List Str:=["rule","sizes","places"]
theorem TX:aQ SH zj (aH FU):=by wtm_at "sc"
abbrev Cb:w9:=top 64
abbrev Mx:List Str:=["rule","sizes","places","both","ahead","count"]
abbrev AB:List Str:=["rule","sizes","places"]
theorem pT:aQ Mx AB (aH Cb):=by wtm_at "sc"
abbrev EV:w9:=top 68
abbrev CN:List Str:=["row","worms"]
abbrev yn:=CN
theorem Z4:aQ CN yn (aH EV):=by wtm_at "sc"
abbrev CQ:w9:=top 69
abbrev B6:List Str:=["thing","worms"]
abbrev zM:=B6
theorem zwG:aQ B6 zM (aH CQ):=by wtm_at "sc"
abbrev BX:w9:=top 70
abbrev FP:List Str:=["thing","worms"]
abbrev sJ:=FP
theorem znn:aQ FP sJ (aH BX):=by wtm_at "sc"
abbrev Ep:w9:=top 71
abbrev FY:List Str:=["thing","worms"]
abbrev sW:=FY
theorem zsV:aQ FY sW (aH Ep):=by wtm_at "sc"
abbrev Df:w9:=top 72
abbrev YD:List Str:=["swarm","rounds","both","last"]
abbrev tI:List Str:=["swarm","rounds"]
theorem Fz:aQ YD tI (aH Df):=by wtm_at "sc"
abbrev BY:w9:=top 73
abbrev MP:List Str:=["swarm","rounds","both","later","now","phases"]
abbrev zf:List Str:=["swarm","rounds"]
theorem rg:aQ MP zf (aH BY):=by wtm_at "sc"
abbrev CJ:w9:=top 74
abbrev KW:List Str:=["swarm","rounds","glows","first","then"]
abbrev ye:List Str:=["swarm","rounds","glows"]
theorem CB:aQ KW ye (aH CJ):=by wtm_at "sc"
abbrev Gb:w9:=top 75
abbrev UT:List Str:=["rule","row","following","swarm","told"]
abbrev zZ:List Str:=["rule","row","following"]
theorem Gd:aQ UT zZ (aH Gb):=by wtm_at "sc"
abbrev Dj:w9:=top 76
abbrev L0:List Str:=["swarm","both"]
abbrev yV:List Str:=["swarm"]
theorem Sx:aQ L0 yV (aH Dj):=by wtm_at "sc"
abbrev Bp:w9:=top 77
abbrev Rk:List Str:=["swarm","paper","row","following"]
abbrev v_:List Str:=["swarm","paper"]
theorem ER:aQ Rk v_ (aH Bp):=by wtm_at "sc"
abbrev CV:w9:=top 78
abbrev T1:List Str:=["swarm","count","told"]
abbrev zg:List Str:=["swarm"]
theorem rl:aQ T1 zg (aH CV):=by wtm_at "sc"
abbrev Cf:w9:=top 79
abbrev O1:List Str:=["hour","swarm","both","rounds","glows"]
abbrev yo:List Str:=["hour","swarm"]
theorem zC:aQ O1 yo (aH Cf):=by wtm_at "sc"
abbrev FE:w9:=top 80
abbrev R0:List Str:=["swarm","rows","word","row","told","hour"]
abbrev AE:List Str:=["swarm"]
theorem md:aQ R0 AE (aH FE):=by wtm_at "sc"
abbrev Bj:w9:=top 81
abbrev NV:List Str:=["swarm","last"]
abbrev zh:List Str:=["swarm"]
theorem Tw:aQ NV zh (aH Bj):=by wtm_at "sc"
abbrev BN:w9:=top 83
abbrev Dx:List Str:=["_law_script","_law_k"]
abbrev yF:=Dx
theorem zsJ:aQ Dx yF (aH BN):=by wtm_at "sc"
abbrev FI:w9:=top 84
abbrev Ox:List Str:=["_law_script","_law_k","_law_cell_here"]
abbrev z_:List Str:=["_law_script","_law_k"]
theorem Lp:aQ Ox z_ (aH FI):=by wtm_at "sc"
abbrev C_:w9:=top 85
abbrev ML:List Str:=["_law_pen_here","_law_most","_law_found","_law_mixed"]
abbrev yg:List Str:=["_law_pen_here","_law_most"]
theorem zS:aQ ML yg (aH C_):=by wtm_at "sc"
abbrev Bk:w9:=top 86
abbrev Rx:List Str:=["_law_top","_law_bottom","_law_one","_law_other"]
abbrev s_:List Str:=["_law_top","_law_bottom"]
theorem An:aQ Rx s_ (aH Bk):=by wtm_at "sc"
abbrev BW:w9:=top 87
abbrev B9:List Str:=["_law_one","_law_other"]
abbrev yl:=B9
theorem zuq:aQ B9 yl (aH BW):=by wtm_at "sc"
abbrev Cs:w9:=top 88
abbrev Th:List Str:=["_law_pen_here","_law_way","_law_bottom","_law_deep","_law_more","_law_top","_law_need"]
abbrev yR:List Str:=["_law_pen_here"]
theorem jY:aQ Th yR (aH Cs):=by wtm_at "sc"
abbrev FA:w9:=top 89
abbrev Nm:List Str:=["_law_pen_here","_law_most","_law_many","_law_bottom","_law_few","_law_apart"]
abbrev tN:List Str:=["_law_pen_here","_law_most"]
theorem oS:aQ Nm tN (aH FA):=by wtm_at "sc"
abbrev DV:w9:=top 90
abbrev Sl:List Str:=["_law_swarm","_law_found"]
abbrev sS:List Str:=["_law_swarm"]
theorem Aw:aQ Sl sS (aH DV):=by wtm_at "sc"
abbrev BV:w9:=top 91
abbrev NP:List Str:=["_law_swarm","_law_found"]
abbrev tF:List Str:=["_law_swarm"]
theorem sQ:aQ NP tF (aH BV):=by wtm_at "sc"
abbrev C5:w9:=top 92
abbrev MU:List Str:=["_law_swarm","_law_paper_here","_law_due","_law_kept","_law_found"]
abbrev sU:List Str:=["_law_swarm","_law_paper_here","_law_due"]
theorem FC:aQ MU sU (aH C5):=by wtm_at "sc"
abbrev Gg:w9:=top 93
abbrev CM:List Str:=["_law_one","_law_other"]
abbrev tH:=CM
theorem zrG:aQ CM tH (aH Gg):=by wtm_at "sc"
abbrev Fg:w9:=top 94
abbrev FX:List Str:=["_law_one","_law_other"]
abbrev sN:=FX
theorem zmN:aQ FX sN (aH Fg):=by wtm_at "sc"
abbrev CO:w9:=top 95
abbrev DF:List Str:=["_law_one","_law_other"]
abbrev Aa:=DF
theorem zs3:aQ DF Aa (aH CO):=by wtm_at "sc"
abbrev Fh:w9:=top 96
abbrev US:List Str:=["_law_rule","_law_many","_law_found","_law_k"]
abbrev Ap:List Str:=["_law_rule","_law_many"]
theorem yW:aQ US Ap (aH Fh):=by wtm_at "sc"
abbrev FT:w9:=top 97
abbrev UO:List Str:=["_law_rule","_law_sizes","_law_places","_law_phases","_law_time","_law_heights","_law_at","_law_wait","_law_often","_law_risen"]
abbrev zd:List Str:=["_law_rule","_law_sizes","_law_places"]
theorem jC:aQ UO zd (aH FT):=by wtm_at "sc"
abbrev Du:w9:=top 98
abbrev X_:List Str:=["_law_one","_law_many","_law_top","_law_bottom","_law_k"]
abbrev y7:List Str:=["_law_one","_law_many"]
theorem nB:aQ X_ y7 (aH Du):=by wtm_at "sc"
abbrev E_:w9:=top 99
abbrev TY:List Str:=["_law_rule","_law_sizes","_law_factor","_law_shifts"]
abbrev yh:List Str:=["_law_rule","_law_sizes"]
theorem Bh:aQ TY yh (aH E_):=by wtm_at "sc"
abbrev DH:w9:=top 100
abbrev Ri:List Str:=["_law_pen_here","_law_rule","_law_most","_law_found","_law_some","_law_one"]
abbrev tR:List Str:=["_law_pen_here","_law_rule","_law_most"]
theorem zev:aQ Ri tR (aH DH):=by wtm_at "sc"
abbrev Ay:w9:=top 101
abbrev Tq:List Str:=["_law_script","_law_rule","_law_swarm","_law_pen_here","_law_many","_law_hour","_law_later","_law_first","_law_second","_law_told","_law_left","_law_ahead"]
abbrev zc:List Str:=["_law_script"]
theorem iC:aQ Tq zc (aH Ay):=by wtm_at "sc"
set_option genInjectivity false in
structure Ad where
 Jv:we
 H_:wE
 Hi:we
 GB:wE
 GF:we
 Gu:wE
 IT:we
 HC:wE
 plus:we
 JR:wE
 minus:we
 Jz:wE
 times:we
 JD:wE
 over:we
 J1:wE
 less:we
 JW:wE
 Ja:we
 Hz:wE
 Jl:we
 HP:wE
 Jh:we
 Hu:wE
 JK:we
 Iz:wE
 Kf:we
 JL:wE
 J4:we
 Je:wE
 Jf:we
 Hm:wE
 Jo:we
 HH:wE
 IL:we
 G_:wE
 Jr:we
 HN:wE
 Ju:we
 HY:wE
 JE:we
 HK:wE
 J8:we
 I_:wE
 Ip:we
 Hl:wE
 mR:we
 JN:wE
 JT:we
 IC:wE
 behind:we
 Jb:wE
 JV:we
 Il:wE
 laid:we
 JY:wE
 Hf:we
 GL:wE
 sy:we
 IU:wE
 HD:we
 GU:wE
 IM:we
 G2:wE
 iI:we
 JH:wE
 JQ:we
 IS:wE
 IW:we
 Ho:wE
 J_:we
 Jw:wE
 JM:we
 Iw:wE
 J3:we
 I0:wE
 G9:we
 GI:wE
 GZ:we
 Gz:wE
 Ij:we
 G1:wE
 Hw:we
 GR:wE
 IA:we
 G6:wE
 HM:we
 GY:wE
 Jj:we
 Hv:wE
 J7:we
 Jk:wE
 HF:we
 GW:wE
 JF:we
 HG:wE
 JZ:we
 Ik:wE
 Hj:we
 GJ:wE
 Iq:we
 Hh:wE
 JC:we
 HJ:wE
 JO:we
 Iu:wE
 JP:we
 IF:wE
 G5:we
 GC:wE
 Jq:we
 HU:wE
 Jy:we
 HL:wE
 Ki:we
 JJ:wE
 Js:we
 Ic:wE
 J0:we
 ID:wE
 JG:we
 Ig:wE
 JS:we
 Iv:wE
 JI:we
 Im:wE
 GX:we
 Gx:wE
 GA:we
 Gv:wE
 IX:we
 Ht:wE
 G8:we
 GO:wE
 Jm:we
 HS:wE
 Jp:we
 Ib:wE
 Ih:we
 GV:wE
 Jn:we
 Ie:wE
 IH:we
 G4:wE
 Jd:we
 HA:wE
 IZ:we
 Hn:wE
 Ji:we
 Hx:wE
 IY:we
 HE:wE
 law:we
 J5:wE
 oJ:we
 fC:we
 dy:we
 dZ:we
 AI:we
 A7:we
structure Dn(K:wb)(mg:Str->Option wg)(n:Str)(st:w9)(ps:List Str)(f:we)(fd:wE):Prop where
 F:lz K n n st f fd
 g:mg n=some (.ref f)
 b:lT K fd ps []
section
variable{X:Cx}{x:Str}{f:we}{fd:wE}{ps:List Str}{sp:Sp}{j k:Nat}{e:Expr}{es:List Expr}{t:TA}{pos pp:Pos}{st:w9}{CX:gf}
theorem mE{E:XK}(F:aG X.prog X.w X.K X.mg X.base CX k f fd ps sp)(hr:eA j X.A)(D:Dn X.K X.mg x st ps f fd)(hx:ng CX X E)(ha:PA X (e::es) t)(hj:k<=j:=by decide)(hg:Gl X x:=by exact rfl)
  (hdb:(x == ("__debug__" : Str))=false:=by decide) (he:w5 (e::es) X.env=(false,eval e X.env)::w5 es X.env:=by rfl) (hpl:(backTo pos (w5 es X.env)).any (·.1)=false:=by rfl) :
  PE X (.Call (.Name x pp) (e::es) [] pos) (pX sp [] E t):=Tz F (hr.mono hj) hg D.g D.F.kp D.b .nil hx ha hdb he hpl
theorem au(F:aG X.prog X.w X.K X.mg X.base aS k f fd ps sp)(hr:eA j X.A)(D:Dn X.K X.mg x st ps f fd)(ha:PA X (e::es) t)(hj:k<=j:=by decide)(hg:Gl X x:=by exact rfl)
  (hdb:(x == ("__debug__" : Str))=false:=by decide) (he:w5 (e::es) X.env=(false,eval e X.env)::w5 es X.env:=by rfl) (hpl:(backTo pos (w5 es X.env)).any (·.1)=false:=by rfl) :
  PE X (.Call (.Name x pp) (e::es) [] pos) (pX sp [] E0 t):=Tz F (hr.mono hj) hg D.g D.F.kp D.b .nil zEl ha hdb he hpl
theorem ao{ta:TE}{i:Int}{kd}(ha:PE X e ta):PE X (.Subscript e (.Constant (.int i) kd pp) pos) (lK (dw X.K) ta (tC (.int i))):=dH dh ha ay (λ_ _=>rfl)
theorem mq{K:wb}{ta:TE}{i:Int}{kd}(hr:gM X (dw K))(ha:PE X e ta):PE X (.Subscript e (.Constant (.int i) kd pp) pos) (lK (dw K) ta (tC (.int i))):=dH hr ha ay (λ_ _=>rfl)
theorem az(i:Nat){te:TE}(hN:X.N.Nodup)(he:PE X e te)(hi:X.N[i]? = some x:=by exact rfl)(hx:Loc X.env.scope x:=by first | exact Or.inl rfl | exact Or.inr rfl)(hs:swapsWith e (some (.Name x pp)) pos.line X.env=pure false:=by rfl)(hf:X.fn x=true\/X.env.scope.names.lookup x=some .local:=by first | exact .inl rfl | exact .inr rfl | assumption) :
  PS X (.Assign [.Name x pp] e pos) (jS te (iB i)):=zDA hN hi hx he hs hf
end
structure Txt(K:wb)(mg:Str->Option wg)(a:Ad):Prop where
 r_:Dn K mg "is_whole" Ei y9 a.Jv a.H_
 AK:Dn K mg "is_whole_from" Fy zy a.Hi a.GB
 mI:Dn K mg "greatest_divisor" EM zU a.GF a.Gu
 mJ:Dn K mg "is_number" Gf yK a.IT a.HC
 fQ:Dn K mg "plus" BL Au a.plus a.JR
 oM:Dn K mg "minus" C2 yx a.minus a.Jz
 jL:Dn K mg "times" BR yN a.times a.JD
 Ba:Dn K mg "over" FJ sV a.over a.J1
 gk:Dn K mg "less" Bm zV a.less a.JW
 HQ:Dn K mg "is_factor" DE zA a.Ja a.Hz
 Ir:Dn K mg "is_shift" Fp yG a.Jl a.HP
 HW:Dn K mg "make_rule" F7 yO a.Jh a.Hu
 IV:Dn K mg "is_rule" CF yw a.JK a.Iz
 A9:Dn K mg "bend" Cv sZ a.Kf a.JL
 oK:Dn K mg "pushes" Ds w_ a.J4 a.Je
 AS:Dn K mg "pushed_by" BA zR a.Jf a.Hm
 Io:Dn K mg "is_phase" CD zD a.Jo a.HH
 HB:Dn K mg "are_phases" CI yL a.IL a.G_
 IQ:Dn K mg "swarm_of" El AD a.Jr a.HN
 AV:Dn K mg "greatest" Gq zY a.Ju a.HY
 IJ:Dn K mg "worms_at" Fs sM a.JE a.HK
 sk:Dn K mg "flocks" Fb zF a.J8 a.I_
 AR:Dn K mg "at_the_end" DB yy a.Ip a.Hl
 sC:Dn K mg "glow" Cy tf a.mR a.JN
 A0:Dn K mg "history" Ge sT a.JT a.IC
 A5:Dn K mg "behind" EZ yp a.behind a.Jb
 sa:Dn K mg "is_laid" DM zP a.JV a.Il
 oN:Dn K mg "laid" Ff zN a.laid a.JY
 GS:Dn K mg "phases_behind" Fm Ak a.Hf a.GL
 sh:Dn K mg "stands" Es tD a.sy a.IU
 AN:Dn K mg "round_behind" Bs Ao a.HD a.GU
 Hq:Dn K mg "round_time" B1 yJ a.IM a.G2
 A_:Dn K mg "tops" Ft yb a.iI a.JH
 mL:Dn K mg "is_free" DA sP a.JQ a.IS
 mK:Dn K mg "round_map" Fd yZ a.IW a.Ho
 A8:Dn K mg "still" EG yX a.J_ a.Jw
 AY:Dn K mg "weighed" Gm tK a.JM a.Iw
 A3:Dn K mg "led_on" DW z7 a.J3 a.I0
 AL:Dn K mg "rounds_behind" Dp Ac a.G9 a.GI
 GK:Dn K mg "sums_of_places" CW Ar a.GZ a.Gz
 G7:Dn K mg "rounds_time" Dw tW a.Ij a.G1
 AO:Dn K mg "draws_freely" BQ AG a.Hw a.GR
 Hy:Dn K mg "stays_free" FU zj a.IA a.G6
 G3:Dn K mg "free_rounds" Cb AB a.HM a.GY
 AU:Dn K mg "has_stand" EV yn a.Jj a.Hv
 JB:Dn K mg "is_row" CQ zM a.J7 a.Jk
 Hg:Dn K mg "is_last_row" BX sJ a.HF a.GW
 IG:Dn K mg "is_paper" Ep sW a.JF a.HG
 Jg:Dn K mg "go_free" Df tI a.JZ a.Ik
 AJ:Dn K mg "behind_rounds" BY zf a.Hj a.GJ
 AQ:Dn K mg "behind_row" CJ ye a.Iq a.Hh
 Iy:Dn K mg "leads_on" Gb zZ a.JC a.HJ
 AZ:Dn K mg "word_of" Dj yV a.JO a.Iu
 Jc:Dn K mg "lets_by" Bp v_ a.JP a.IF
 GQ:Dn K mg "glows_to_join" CV zg a.G5 a.GC
 IP:Dn K mg "next_row" Cf yo a.Jq a.HU
 oI:Dn K mg "paper_of" FE AE a.Jy a.HL
 sA:Dn K mg "fate" Bj zh a.Ki a.JJ
 IK:Dn K mg "_law_cell" BN yF a.Js a.Ic
 sf:Dn K mg "_law_pen" FI z_ a.J0 a.ID
 ff:Dn K mg "_law_draw" C_ yg a.JG a.Ig
 gj:Dn K mg "_law_low" Bk s_ a.JS a.Iv
 mM:Dn K mg "_law_sum" BW yl a.JI a.Im
 GP:Dn K mg "_law_drawn_rule" Cs yR a.GX a.Gx
 Gw:Dn K mg "_law_drawn_phases" FA tN a.GA a.Gv
 Ia:Dn K mg "_law_paper" DV sS a.IX a.Ht
 AM:Dn K mg "_law_fate_told" BV tF a.G8 a.GO
 AW:Dn K mg "_law_says" C5 sU a.Jm a.HS
 AX:Dn K mg "_law_rest" Gg tH a.Jp a.Ib
 r8:Dn K mg "_law_product" Fg sN a.Ih a.GV
 IE:Dn K mg "_law_part" CO Aa a.Jn a.Ie
 Hs:Dn K mg "_law_pushes" Fh Ap a.IH a.G4
 Ii:Dn K mg "_law_round" FT zd a.Jd a.HA
 HX:Dn K mg "_law_power" Du y7 a.IZ a.Hn
 HR:Dn K mg "_law_rests" E_ yh a.Ji a.Hx
 HZ:Dn K mg "_law_start" DH tR a.IY a.HE
 Y9:Dn K mg "law" Ay zc a.law a.J5
 h0s:mg "abs"=none
 h0t:mg "all"=none
 h0x:mg "any"=none
 h0l:mg "bool"=none
 h0n:mg "dict"=none
 h0f:mg "enumerate"=none
 h0q:mg "int"=none
 h0c:mg "isinstance"=none
 h0r:mg "len"=none
 h0m:mg "list"=none
 h0u:mg "min"=none
 h0j:mg "range"=none
 h0p:mg "set"=none
 h0o:mg "str"=none
 h0w:mg "sum"=none
 h0i:mg "tuple"=none
 h0v:mg "zip"=none
 YT:mg "NoStand"=some (.ref a.oJ)
 A2:mg "TooLong"=some (.ref a.fC)
 YU:qk K a.oJ rV "ValueError.__new__"=true
 aaa:qF K (.ref a.oJ) (.ref a.fC)=some false
 YV:qk K a.fC rV "ValueError.__new__"=true
 Gy:qF K (.ref a.fC) (.ref a.fC)=some true
 dW:mg "NOUGHT"=some (.ref a.dy)
 eU:∀H:Hp,aU K H a.dy [.int 0,.int 1]
 fg:mg "ONE"=some (.ref a.dZ)
 sE:∀H:Hp,aU K H a.dZ [.int 1,.int 1]
 YI:mg "GREATEST_FACTOR"=some (.ref a.AI)
 YH:∀H:Hp,aU K H a.AI [.int 4,.int 1]
 YJ:∃t,mg "FACTOR_BOTTOM"=some (.int 8 t)
 YL:∃t,mg "SHIFT_BOTTOM"=some (.int 12 t)
 YM:∃t,mg "MOST_WORMS"=some (.int 8 t)
 YK:∃t,mg "PHASE_BOTTOM"=some (.int 60 t)
 HI:∃t,mg "MOST_FREE"=some (.int 30 t)
 YN:∃t,mg "MOST_GLOWS"=some (.int 40 t)
 YW:mg "WORDS"=some (.ref a.A7)
 Y0:∀H:Hp,aU K H a.A7 [.str "one",.str "rests",.str "drawn"]
end G
open L2 GM in
local macro_rules | `(tactic| wtm_at "is")=>`(tactic| first
 | assumption
 | exact bW.mpr rfl
 | exact ky.mpr rfl
 | exact mf.mpr rfl
 | exact eZ.mpr rfl
 | exact Is.Zi (by assumption) (by wtm_at "same")
 | exact Is.Y_ (by assumption) (by wtm_at "keep")
 | exact Is.oQ (by assumption) (by wtm_at "keep")
 | ((with_reducible apply is_tupAt);(focus assumption);(focus wtm_at "isall");wtm_at "same")
 | ((with_reducible apply is_lstAt);(focus assumption);(focus wtm_at "isall");wtm_at "same")
 | ((with_reducible apply is_dctAt);(focus assumption);wtm_at "same")
 | exact d9 0 (G.Txt.eU (by assumption) _) rfl rfl | exact d9 1 (G.Txt.sE (by assumption) _) rfl rfl | exact d9 4 (G.Txt.YH (by assumption) _) rfl rfl
 | fail "is")
open L2 GM in
local macro_rules | `(tactic| wtm_at "isall")=>`(tactic| first
 | exact ak.nil
 | exact ak.cons (by wtm_at "is") (by wtm_at "isall")
 | fail "isall")
open L2 GM in
local macro_rules | `(tactic| wtm_at "ne")=>`(tactic| first
 | assumption
 | (apply WE;assumption))
open L2 GM in
local macro_rules | `(tactic| wtm_at "lst")=>`(tactic| first
 | assumption
 | exact ah.at (by assumption) (by wtm_at "lst")
 | exact Exc.at (by assumption) (by wtm_at "ne") (by wtm_at "lst")
 | fail "lst")
open L2 GM in
local macro_rules | `(tactic| wtm_at "same")=>`(tactic| first
 | assumption
 | exact ah.refl _
 | exact ah.back (by assumption) (by wtm_at "same")
 | fail "same")
open L2 GM in
local macro_rules | `(tactic| wtm_at "keep")=>`(tactic| first
 | assumption
 | exact bG.refl _
 | exact ah.keep (by assumption)
 | exact bG.back (by assumption) (by wtm_at "keep")
 | exact bG.back (ah.keep (by assumption)) (by wtm_at "keep")
 | fail "keep")
open L2 GM in
local macro_rules | `(tactic| wtm_at "exc")=>`(tactic| first
 | assumption
 | exact Exc.refl _ _
 | exact Exc.back (by assumption) (by wtm_at "exc")
 | exact Exc.back (ah.exc (by assumption)) (by wtm_at "exc")
 | fail "exc")
open L2 GM in
local macro_rules | `(tactic| wtm_at "sqf")=>`(tactic| first
 | assumption
 | exact bG.B8 (by wtm_at "keep") (by assumption)
 | fail "sqf")
open L2 GM in
local macro_rules | `(tactic| wtm_at "bd")=>`(tactic| first
 | assumption
 | exact Bd.mk (n:=128) (by decide)
 | exact Bd.mono (m:=128) ⟨by decide⟩ (by decide)
 | exact ag.t (by assumption)
 | exact ag.b (by assumption)
 | exact Bd.kC (by lia) (by lia)
 | (apply Bd.neg;wtm_at "bd")
 | (apply Bd.mul;(focus wtm_at "bd");wtm_at "bd")
 | (apply Bd.add;(focus wtm_at "bd");wtm_at "bd")
 | (apply Bd.sub;(focus wtm_at "bd");wtm_at "bd"))
open L2 GM PySem in
local macro_rules | `(tactic| wtm_at "mulok")=>`(tactic| first
 | exact ua (by decide)
 | exact uC (by decide)
 | exact ua (intBits_le_64 (by lia) (by lia))
 | exact uC (intBits_le_64 (by lia) (by lia))
 | (apply L2.Y8;(focus wtm_at "bd");(focus wtm_at "bd");(focus decide);decide))
open L2 GM PySem in
local macro_rules | `(tactic| wtm_at "side")=>`(tactic| first
 | assumption
 | decide
 | lia
 | wtm_at "mulok"
 | (refine And.intro ?_ ?_<;>wtm_at "side")
 | wtm_at "bd")
open L2 GM in
local macro_rules | `(tactic| wtm_at "gs")=>`(tactic| first
 | wtm_at "sq"
 | with_reducible (first | refine zDo ?_ | refine zCU ?_ | refine zC8 ?_ | refine zES ?_)
 | ((with_reducible apply zCy);(focus rfl))
 | with_reducible (first | refine zEX ?_ | refine zA3 ?_ | refine Zx ?_ | refine zBj ?_ | refine ZP ?_ | refine zA1 ?_ | refine zEm ?_ | refine zDw ?_ | refine zDI ?_ | refine zDl ?_ | refine zAC ?_)
 | ((with_reducible apply pS);(focus wtm_at "side"))
 | with_reducible (first | refine zD4 ?_ | refine zEh ?_ | refine zDK ?_ | refine zDn ?_ | refine zCL ?_ | refine zCR ?_ | refine zBa ?_ | refine nv ?_ | refine nR ?_)
 | with_reducible refine zAg (λ_=>?_) (λ_=>?_)
 | with_reducible refine zyr (λ_=>?_) (λ_=>?_)
 | with_reducible refine zyd (λ_=>?_) (λ_=>?_)
 | with_reducible refine zzY (λ_=>?_) (λ_=>?_)
 | with_reducible (first | refine zDB ?_ | refine zEP ?_ | refine zDb ?_ | refine zAu ?_ | refine zAe ?_ | refine zCC ?_ | refine zBd ?_ | refine zzX ?_ | refine zAR ?_ | refine zAF ?_ | refine zCS ?_ | refine zAq ?_ | refine zyy ?_ | refine zxE ?_ | refine zAz ?_ | refine zBu ?_)
 | ((with_reducible apply zBc);(focus wtm_at "is"))
 | ((with_reducible apply zBC);(focus wtm_at "is"))
 | ((with_reducible apply jb);(focus(apply aO.of;wtm_at "lst"));(focus rfl))
 | ((with_reducible apply As);(focus assumption);(focus rfl);intro hN eN lN;dsimp only[Int.reduceToNat,XQ,XR]at lN)
 | ((with_reducible apply Kr);(focus wtm_at "is"))
 | ((with_reducible apply zxV);(focus wtm_at "is"))
 | ((with_reducible apply UG);(focus wtm_at "is"))
 | dsimp only[XQ,XR])
set_option hygiene false in
open L2 GM in
local macro_rules | `(tactic| wtm_at "sq")=>`(tactic| with_reducible refine zAU (λ tl_ htl_=>?_))
set_option hygiene false in
open L2 GM in
local macro_rules | `(tactic| wtm_at "tl")=>`(tactic| ((with_reducible refine zo.go (by assumption) ?_); (try clear htl_ tl_)))
open L2 GM in
local macro_rules | `(tactic| wtm_at "bdr0")=>`(tactic| first
 | assumption
 | exact ag.zero
 | exact ag.one
 | exact ag.four
 | (apply ag.add;(focus wtm_at "bdr0");wtm_at "bdr0")
 | (apply ag.sub;(focus wtm_at "bdr0");wtm_at "bdr0")
 | (apply ag.mul;(focus wtm_at "bdr0");wtm_at "bdr0"))
open L2 GM in
local macro_rules | `(tactic| wtm_at "bdr")=>`(tactic| first
 | assumption
 | (apply ag.mono;(focus wtm_at "bdr0");(first | decide | lia)))
open L2 GM in
local macro_rules | `(tactic| wtm_at "ga1")=>`(tactic| first
 | wtm_at "gs"
 | ((with_reducible apply cB);(focus(simp only[vo,xG];decide));(focus wtm_at "isall");intro _ _ _ _)
 | ((with_reducible apply fB);(focus(simp only[vo,xG];decide));intro _ _ _ _ _)
 | ((with_reducible apply kn);(focus wtm_at "lst");(focus wtm_at "lst");(focus(simp only[wR,vo,xG];decide));intro _ _ _ _ _))
local macro_rules | `(tactic| wtm_at "ga")=>`(tactic| repeat' (first | wtm_at "ga1" | wtm_at "tl"))
local macro_rules | `(tactic| wtm_at "gg")=>`(tactic| repeat' (first | wtm_at "gs" | wtm_at "tl"))
local macro_rules | `(tactic| wtm_at "gt")=>`(tactic| repeat' (wtm_at "gs"))
open L2 GM in
local macro_rules | `(tactic| wtm_at "bd128")=>`(tactic| first
 | exact Bd.mono (m:=128) ⟨by decide⟩ (by decide)
 | exact(Bd.kC (by lia) (by lia)).mono (by decide))
open L2 GM in
local macro_rules | `(tactic| wtm_at "gs")=>`(tactic| first
 | with_reducible (first | refine Zq ?_ | refine zwN ?_ | refine zwI ?_ | refine zEg ?_ | refine zxb ?_ | refine zxA ?_ | refine zzV ?_ | refine zyR ?_ | refine zzt ?_ | refine UP ?_ | refine zza ?_ | refine zxH ?_ | refine zEi ?_ | refine zBG ?_ | refine zBK ?_ | refine zxy ?_ | refine zxd ?_ | refine zwl ?_ | refine zCx ?_ | refine zqI ?_ | refine zyM ?_ | refine zxT ?_)
 | with_reducible refine zA7 (λ_ _ _ _=>?_)
 | with_reducible (first | refine zAm ?_ | refine zzi ?_ | refine ZH ?_ | refine zx7 ?_ | refine zCu ?_ | refine zyJ ?_ | refine zwW ?_ | refine zAV ?_ | refine zx3 ?_)
 | ((with_reducible apply zwx);(focus wtm_at "is"))
 | ((with_reducible apply zAr);(focus wtm_at "is"))
 | ((with_reducible apply zBD);(focus wtm_at "is");intro _ _)
 | ((with_reducible apply zBg);(focus wtm_at "is");intro _ _)
 | ((with_reducible apply jb);(focus(apply aO.of;wtm_at "lst"));(focus rfl))
 | ((with_reducible apply zAP);(focus wtm_at "lst");(focus lia);(focus lia);intro _ _)
 | ((with_reducible apply Na);(focus wtm_at "is");(focus wtm_at "is"))
 | ((with_reducible apply Zj);(focus wtm_at "is");(focus wtm_at "is")))
set_option hygiene false in
local macro_rules | `(tactic| wtm_at "b1")=>`(tactic| (focus (intro vs H Q E h; obtain ⟨_,rfl,_⟩:=h; rfl)); (intro cdv A outer s H vs Q E hr h; obtain ⟨x0,rfl,h⟩:=h; have hu:=hr.units))
set_option hygiene false in
local macro_rules | `(tactic| wtm_at "b2")=>`(tactic| (focus (intro vs H Q E h; obtain ⟨_,_,rfl,_⟩:=h; rfl)); (intro cdv A outer s H vs Q E hr h; obtain ⟨x0,x1,rfl,h⟩:=h; have hu:=hr.units))
set_option hygiene false in
local macro_rules | `(tactic| wtm_at "b3")=>`(tactic| (focus (intro vs H Q E h; obtain ⟨_,_,_,rfl,_⟩:=h; rfl)); (intro cdv A outer s H vs Q E hr h; obtain ⟨x0,x1,x2,rfl,h⟩:=h; have hu:=hr.units))
set_option hygiene false in
local macro_rules | `(tactic| wtm_at "b4")=>`(tactic| (focus (intro vs H Q E h; obtain ⟨_,_,_,_,rfl,_⟩:=h; rfl)); (intro cdv A outer s H vs Q E hr h; obtain ⟨x0,x1,x2,x3,rfl,h⟩:=h; have hu:=hr.units))
set_option hygiene false in
local macro_rules | `(tactic| wtm_at "cl")=>`(tactic| ((clear hu); (try clear hgd); (first | dsimp only [iU,cxOfH] | dsimp only [iU] | skip)))
local macro_rules | `(tactic| k_few)=>`(tactic| wtm_at "gg")
local macro_rules | `(tactic| o_head $e)=>`(tactic| (wtm_at "gg"; refine $e))
namespace G
open PySem PySem.Spec PyProof.Rows L2 GM
section
variable{P:wI}{w:wJ}{K:wb}{mg:Str->Option wg}{base:wG}{a:Ad}
variable{H:Hp}{Q:VK}{E:XK}{u v:V}{i j k m n r:Nat}{b h ra rb x y:Rat}{ds:List wC}{e:wC}{ps ss xs ys:List Rat}{α:Type}{p p1:we}{ns:List Int}{fl:Nat->Nat}{B t:Int}{es:List (Nat × Nat × Nat)}
def isInt:wC->Bool
 | .int _=>true
 | _=>false
def TH(K:wb):Sp:=λvs H Q _=>∃x0,vs=[x0] /\ ∃d,Is K H x0 d/\Q (.bl (isInt d)) H
theorem zsU{d:wC}(h:Is K H v d)(q:Q (.bl (isInt d)) H):TH K [v] H Q E:=⟨v,rfl,d,h,q⟩
local macro_rules | `(tactic| wtm_at "gs")=>`(tactic| ((with_reducible apply zsU); (focus wtm_at "is")))
theorem Bu(T:Txt K mg a):aG P w K mg base aS 1 a.Jv a.H_ y9 (TH K):=by
 refine T.r_.F.ok zrC ?_ ?_;wtm_at "b1";refine⟨_,(av (aB (eO (bE (show aJ _ (.builtin "isinstance") (eJ K)from jw) rfl T.h0c iM (ae (pv 0) (ae (ik (v:=.ty "int") rfl T.h0q zC1 rfl) af))) (gE (nF (bE (show aJ _ (.builtin "isinstance") (eJ K)from jw) rfl T.h0c iM (ae (pv 0) (ae (ik (v:=.ty "bool") rfl T.h0l O3 rfl) af)))))))),?_⟩;wtm_at "cl";rw[show start DZ [x0]=[some x0]from rfl];obtain⟨d,hd,q⟩:=h;k_few
 all_goals(cases d<;>simp_all [isInt,Cz,EC])
def lM(l m:Int):wC->Bool
 | .int i=>decide (l<=i)&&decide (i<=m)
 | _=>false
theorem ztP{l m:Int}{d:wC}(h:isInt d=false):lM l m d=false:=by cases d<;>first | rfl | cases h
def M1(K:wb):Sp:=λvs H Q _=>∃x0 x1 x2,vs=[x0,x1,x2] /\ ∃(l m:Int)(d:wC),x0=.int l/\x1=.int m/\Is K H x2 d/\Q (.bl (lM l m d)) H
theorem Lq{l m:Int}{d:wC}(h:Is K H v d)(q:Q (.bl (lM l m d)) H):M1 K [.int l,.int m,v] H Q E:=⟨_,_,_,rfl,l,m,d,rfl,rfl,h,q⟩
theorem Sm(T:Txt K mg a):aG P w K mg base aS 2 a.Hi a.GB zy (M1 K):=by
 refine T.AK.F.ok zld ?_ ?_;wtm_at "b3";refine⟨_,(av (aB (eO (au (Bu T) hr T.r_ (ae (pv 2) af)) (gE (Sf j5 j5 (pv 0) (pv 2) (pv 1)))))),?_⟩;wtm_at "cl";rw[show start DP [x0,x1,x2]=[some x0,some x1,some x2]from rfl];obtain⟨l,m,d,rfl,rfl,hd,q⟩:=h;have hc:(∃i,d=.int i)\/isInt d=false:=by cases d<;>simp[isInt]
 rcases hc with⟨i,rfl⟩ | hn
 ·cases bW.mp hd
  have q:Q (.bl (decide (l<=i)&&decide (i<=m))) H:=q;k_few
  ·rename_i z
   rw[decide_eq_true z,ql]at q;exact q
  ·rename_i z
   rw[decide_eq_false z,Ww]at q;exact q
  ·rename_i z;cases (show true=false from z)
 ·rw[ztP hn]at q
  k_few
  ·rename_i z1;rw[hn]at z1;cases z1
  ·exact q
def Oj(K:wb):Sp:=λvs H Q _=>∃x0 x1,vs=[x0,x1] /\ ∃a b:Int,x0=.int a/\x1=.int b/\0<=a/\0<=b/\Q (.int (vE a b:Nat)) H
theorem rz{a b:Int}(ha:0<=a)(hb:0<=b)(q:Q (.int (vE a b:Nat)) H):Oj K [.int a,.int b] H Q E:=⟨_,_,rfl,a,b,rfl,rfl,ha,hb,q⟩
theorem pM(T:Txt K mg a):aG P w K mg base aS 1 a.GF a.Gu zU (Oj K):=by
 refine T.mI.F.ok zp ?_ ?_;wtm_at "b2"
 refine⟨_,(ar (nE vP (bZ (show aN _ (wT .NotEq) (f_ K)from jO hu) (pv 1) ay (bC _)) (ar (az 2 zp.nd (aC gW (pv 0) (pv 1)))
     (ar (az 0 zp.nd (pv 1))
     (av (az 1 zp.nd (pv 2))))))
     (av (aB (pv 0)))),?_⟩
 wtm_at "cl";rw[show start UN [x0,x1]=[some x0,some x1,none]from rfl];obtain⟨a',b',rfl,rfl,ha,hb,q⟩:=h;refine zDD ?_;refine RW (λσ H'=>∃(x y:Int)(r:Option V),σ = [some (.int x),some (.int y),r]/\0<=x/\0<=y/\vE x y=vE a' b'/\H'=H) (λσ=>(Mo σ 1).toNat) ⟨a',b',none,rfl,ha,hb,rfl,rfl⟩ ?_;rintro σ H' ⟨x,y,r,rfl,hx,hy,hg,rfl⟩;k_few
 . refine Me ?_
   k_few;have h1:=QI x (show y≠0 by assumption);have h2:=Qe x (show 0<y by lia);refine⟨?_,_,_,_,rfl,hy,h1,?_,rfl⟩
   . show(x % y).toNat<y.toNat
     lia
   . rw[<- hg];exact MI (by lia) hx
 . rename_i h0
   subst h0
   have e:((vE a' b':Nat):Int)=x:=by
     rw[<- hg,XS];lia
   rw[e]at q;exact q
def bS:wC->Bool
 | .tuple [.int p,.int q]=>gO p q
 | _=>false
theorem pj(r:Rat):bS (N r)=true:=NO r
theorem ztR{d:wC}(h:iW d=false):bS d=false:=by
 cases d<;>first | rfl | (simp[iW]at h)
theorem zul(h:¬ ds.length=2):bS (.tuple ds)=false:=by
 match ds with
 | []=>rfl
 | [_]=>simp[bS]
 | [_,_]=>exact absurd rfl h
 | _::_::_::_=>simp[bS]
theorem zra{d:wC}(h:isInt d=false):bS (.tuple [d,e])=false:=by
 cases d<;>first | rfl | (simp[isInt]at h)
theorem ZK{d:wC}(h:isInt e=false):bS (.tuple [d,e])=false:=by
 cases d<;>cases e<;>first | rfl | (simp[isInt]at h)
theorem M9{d:wC} : isInt d=true ↔ ∃i,d=.int i:=by cases d<;>simp[isInt]
def LB(K:wb):Sp:=λvs H Q _=>∃x0,vs=[x0] /\ ∃d,Is K H x0 d/\Q (.bl (bS d)) H
theorem ZW{d:wC}(h:Is K H v d)(q:Q (.bl (bS d)) H):LB K [v] H Q E:=⟨v,rfl,d,h,q⟩
local macro_rules | `(tactic| wtm_at "gs")=>`(tactic| ((with_reducible apply ZW); (focus wtm_at "is")))
theorem rG(T:Txt K mg a):aG P w K mg base aS 2 a.IT a.HC yK (LB K):=by
 refine T.mJ.F.ok zqi ?_ ?_;wtm_at "b1"
 refine⟨_,(ar (bQ (PW.pt (fN (cU (cz (bE (show aJ _ (.builtin "isinstance") (eJ K)from jw) rfl T.h0c iM (ae (pv 0) (ae (ik (v:=.ty "tuple") rfl T.h0i ee rfl) af))))) (iD (bZ (show aN _ (wT .NotEq) (f_ K)from jO hu) (bE (show aJ _ (.builtin "len") (dj K)from d6) rfl T.h0r dU (ae (pv 0) af)) ay (bC _))))) (av (aB eI)) bR)
     (ar (bQ (PW.pt (fN (cU (cz (au (Bu T) hr T.r_ (ae (ao (pv 0)) af)))) (iD (cU (cz (au (Bu T) hr T.r_ (ae (ao (pv 0)) af))))))) (av (aB eI)) bR)
     (av (aB (eO (e_ C1 (ao (pv 0)) ay (bC _)) (gE (e_ (show aN _ (wT .Eq) (cO K)from dG hu) (au (pM T) hr T.mI (ae (bE lO rfl T.h0s mC (ae (ao (pv 0)) af)) (ae (ao (pv 0)) af))) ay (bC _)))))))),?_⟩
 wtm_at "cl";rw[show start Ef [x0]=[some x0]from rfl];obtain⟨d,hd,q⟩:=h;k_few
 . rename_i e
   rw[ztR e]at q;exact q
 . rename_i e
   obtain⟨ds,rfl⟩:=UA.mp e;refine lg hd ?_;k_few
   . rename_i e
     rw[zul (by lia)]at q;exact q
   . rename_i e
     obtain⟨d0,d1,rfl⟩:∃d0 d1,ds=[d0,d1]:=by
       match ds,e with
       | [d0,d1],_=>exact⟨d0,d1,rfl⟩
       | [],e=>simp at e
       | [_],e=>simp at e
       | _::_::_::_,e=>simp at e;lia
     refine aA (j:=0) hd rfl (λy0 h0=>?_);k_few
     . rename_i e
       rw[zra e]at q;exact q
     . rename_i e0
       obtain⟨i,rfl⟩:=M9.mp e0;refine aA (j:=1) hd rfl (λy1 h1=>?_);k_few
       . rename_i e
         rw[ZK e]at q;exact q
       . rename_i e1
         obtain⟨j,rfl⟩:=M9.mp e1;refine aA (j:=1) hd rfl (λy2 h2=>?_);cases bW.mp h2;k_few
         . refine aA (j:=0) hd rfl (λy3 h3=>?_)
           cases bW.mp h3;o_head aA (j:=1) hd rfl (λy4 h4=>?_);cases bW.mp h4;o_head rz (by split<;>lia) (by lia) ?_;k_few
           have e3:bS (.tuple [.int i,.int j])=decide ((vE (if i<0 then -i else i) j:Nat)=(1:Int)):=by
             have e4:vE (if i<0 then -i else i) j=vE i j:=by
               split<;>simp
             rw[e4]
             show gO i j=_
             rename_i e5;simp only[gO,e5,decide_true,ql];rw[vL,decide_eq_true_eq,decide_eq_true_eq];lia
           rw[e3]at q;exact q
         . rename_i e5
           have e3:bS (.tuple [.int i,.int j])=false:=by
             show gO i j=false
             simp only[gO,e5,decide_false,Ww]
           rw[e3]at q;exact q
def Ll(K:wb):Sp:=λvs H Q _=>∃x0 x1,vs=[x0,x1] /\ ∃(x y:Rat),Is K H x0 (N x)/\Is K H x1 (N y)/\ag 8999 x/\ag 8999 y /\ ∀v H',ah H H'->Is K H' v (N (x+y))->Q v H'
theorem MH{w:V}(h1:Is K H v (N x))(h2:Is K H w (N y))(b1:ag 8999 x)(b2:ag 8999 y)(q:∀v H',ah H H'->Is K H' v (N (x+y))->Q v H'):Ll K [v,w] H Q E:=⟨_,_,rfl,x,y,h1,h2,b1,b2,q⟩
local macro_rules | `(tactic| wtm_at "gs")=>`(tactic| ((with_reducible apply MH); (focus wtm_at "is"); (focus wtm_at "is"); (focus wtm_at "bdr"); (focus wtm_at "bdr"); intro _ _ _ _))
theorem gu(T:Txt K mg a):aG P w K mg base aS 2 a.plus a.JR Au (Ll K):=by
 refine T.fQ.F.ok zQ ?_ ?_;wtm_at "b2"
 refine⟨_,(ar (az 2 zQ.nd (au (pM T) hr T.mI (ae (ao (pv 0)) (ae (ao (pv 1)) af))))
     (ar (az 3 zQ.nd (aC cF (aC cV (ao (pv 0)) (aC fu (ao (pv 1)) (pv 2))) (aC cV (ao (pv 1)) (aC fu (ao (pv 0)) (pv 2)))))
     (ar (az 4 zQ.nd (au (pM T) hr T.mI (ae (bE lO rfl T.h0s mC (ae (pv 3) af)) (ae (pv 2) af))))
     (av (aB (br (ae (aC fu (pv 3) (pv 4)) (ae (aC cV (aC fu (ao (pv 0)) (pv 2)) (aC fu (ao (pv 1)) (pv 4))) af)))))))),?_⟩
 wtm_at "cl";rw[show start OH [x0,x1]=[some x0,some x1,none,none,none]from rfl];obtain⟨x,y,hx,hy,⟨bx1,bx2⟩,⟨by1,by2⟩,q⟩:=h;have px:=den_pos x;have py:=den_pos y;have ps:=yr x y;have pd:=EK x y;have c1:oq 0 (fq x y):=⟨by lia,pP bx2 (rX x y) px⟩;have c2:oq 0 (jy x y):=⟨by lia,pP (pP bx2 (rX x y) px) (De x y) ps⟩;have f1:=l_ by2 (Ae x y) ps;have f2:=l_ bx2 (rX x y) ps;have f3:=l_ by2 (qj (De x y) (Ae x y)) pd;o_head rz (by lia) (by lia) ?_;rw[show((vE (x.den:Int) (y.den:Int):Nat):Int)=fq x y from rfl];k_few;rw[show x.num*(y.den:Int).fdiv (fq x y)+y.num*(x.den:Int).fdiv (fq x y)=kM x y from rfl];o_head rz (by split<;>lia) (by lia) ?_;rw[tm,show((vE (kM x y) (fq x y):Nat):Int)=jy x y from rfl];k_few;exact eY (zBq x y) (zzZ x y) q
def SM(K:wb):Sp:=λvs H Q _=>∃x0 x1,vs=[x0,x1] /\ ∃(x y:Rat),Is K H x0 (N x)/\Is K H x1 (N y)/\ag 8999 x/\ag 8999 y /\ ∀v H',ah H H'->Is K H' v (N (x-y))->Q v H'
theorem zzH{w:V}(h1:Is K H v (N x))(h2:Is K H w (N y))(b1:ag 8999 x)(b2:ag 8999 y)(q:∀v H',ah H H'->Is K H' v (N (x-y))->Q v H'):SM K [v,w] H Q E:=⟨_,_,rfl,x,y,h1,h2,b1,b2,q⟩
local macro_rules | `(tactic| wtm_at "gs")=>`(tactic| ((with_reducible apply zzH); (focus wtm_at "is"); (focus wtm_at "is"); (focus wtm_at "bdr"); (focus wtm_at "bdr"); intro _ _ _ _))
theorem sO(T:Txt K mg a):aG P w K mg base aS 3 a.minus a.Jz yx (SM K):=by
 refine T.oM.F.ok zx0 ?_ ?_;wtm_at "b2";refine⟨_,(av (aB (au (gu T) hr T.fQ (ae (pv 0) (ae (br (ae (gr gH (ao (pv 1))) (ae (ao (pv 1)) af))) af))))),?_⟩;wtm_at "cl";rw[show start Gn [x0,x1]=[some x0,some x1]from rfl];obtain⟨x,y,hx,hy,bx,by',q⟩:=h;o_head eY (r:=-y) (by simp) (by simp) (λv H' s hv=>?_);o_head MH (by wtm_at "is") hv bx (ZJ by') (λw H'' s2 hw=>?_);rw[ztB]at hw;k_few;exact q w H'' (s.trans s2) hw
def Rq(K:wb):Sp:=λvs H Q _=>∃x0 x1,vs=[x0,x1] /\ ∃(x y:Rat),Is K H x0 (N x)/\Is K H x1 (N y)/\ag 8999 x/\ag 8999 y /\ ∀v H',ah H H'->Is K H' v (N (x*y))->Q v H'
theorem Er{w:V}(h1:Is K H v (N x))(h2:Is K H w (N y))(b1:ag 8999 x)(b2:ag 8999 y)(q:∀v H',ah H H'->Is K H' v (N (x*y))->Q v H'):Rq K [v,w] H Q E:=⟨_,_,rfl,x,y,h1,h2,b1,b2,q⟩
local macro_rules | `(tactic| wtm_at "gs")=>`(tactic| ((with_reducible apply Er); (focus wtm_at "is"); (focus wtm_at "is"); (focus wtm_at "bdr"); (focus wtm_at "bdr"); intro _ _ _ _))
theorem kN(T:Txt K mg a):aG P w K mg base aS 2 a.times a.JD yN (Rq K):=by
 refine T.jL.F.ok FZ ?_ ?_;wtm_at "b2"
 refine⟨_,(ar (az 2 FZ.nd (au (pM T) hr T.mI (ae (bE lO rfl T.h0s mC (ae (ao (pv 0)) af)) (ae (ao (pv 1)) af))))
     (ar (az 3 FZ.nd (au (pM T) hr T.mI (ae (bE lO rfl T.h0s mC (ae (ao (pv 1)) af)) (ae (ao (pv 0)) af))))
     (av (aB (br (ae (aC cV (aC fu (ao (pv 0)) (pv 2)) (aC fu (ao (pv 1)) (pv 3))) (ae (aC cV (aC fu (ao (pv 0)) (pv 3)) (aC fu (ao (pv 1)) (pv 2))) af))))))),?_⟩
 wtm_at "cl";rw[show start MS [x0,x1]=[some x0,some x1,none,none]from rfl];obtain⟨x,y,hx,hy,⟨bx1,bx2⟩,⟨by1,by2⟩,q⟩:=h;have px:=den_pos x;have py:=den_pos y;have p1:=mS x y;have p2:=mS y x;have c1:oq 0 (gv x y):=⟨by lia,pP by2 (nk x y) py⟩;have c2:oq 0 (gv y x):=⟨by lia,pP bx2 (nk y x) px⟩;have f1:=l_ bx1 (yE x y) p1;have f2:=l_ by1 (yE y x) p2;have f3:=l_ bx2 (nk y x) p2;have f4:=l_ by2 (nk x y) p1;o_head rz (by split<;>lia) (by lia) ?_;rw[tm,show((vE x.num (y.den:Int):Nat):Int)=gv x y from rfl];o_head rz (by split<;>lia) (by lia) ?_;rw[tm,show((vE y.num (x.den:Int):Nat):Int)=gv y x from rfl];k_few;exact eY (ZF x y) (zAj x y) q
def Li(K:wb):Sp:=λvs H Q _=>∃x0 x1,vs=[x0,x1] /\ ∃(x y:Rat),Is K H x0 (N x)/\Is K H x1 (N y)/\ag 8999 x/\ag 8999 y/\y≠0 /\ ∀v H',ah H H'->Is K H' v (N (x / y))->Q v H'
theorem RN{w:V}(h1:Is K H v (N x))(h2:Is K H w (N y))(b1:ag 8999 x)(b2:ag 8999 y)(hy:y≠0)(q:∀v H',ah H H'->Is K H' v (N (x / y))->Q v H'):Li K [v,w] H Q E:=⟨_,_,rfl,x,y,h1,h2,b1,b2,hy,q⟩
theorem UD(T:Txt K mg a):aG P w K mg base aS 3 a.over a.J1 sV (Li K):=by
 refine T.Ba.F.ok LR ?_ ?_;wtm_at "b2"
 refine⟨_,(ar (bQ (bZ (show aN _ (wT .Eq) (cO K)from dG hu) (ao (pv 1)) ay (bC _)) (av Em) bR)
     (ar (az 2 LR.nd (tP (bZ oy (ao (pv 1)) ay (bC _)) (br (ae (ao (pv 1)) (ae (ao (pv 1)) af))) (br (ae (gr gH (ao (pv 1))) (ae (gr gH (ao (pv 1))) af)))))
     (av (aB (au (kN T) hr T.jL (ae (pv 0) (ae (pv 2) af))))))),?_⟩
 wtm_at "cl";rw[show start OO [x0,x1]=[some x0,some x1,none]from rfl];obtain⟨x,y,hx,hy,bx,by',hn,q⟩:=h;k_few
 . rename_i z
   exact absurd z (yf hn)
 . rename_i z0 z
   refine eY (r:=y⁻¹) (zO z).1.symm (zO z).2.symm (λv1 H1 S1 i1=>?_);o_head Er (hx.by S1) i1 bx (Se by' hn) (λv2 H2 S2 i2=>?_);rw[<- xN]at i2;k_few;exact q v2 H2 (S1.trans S2) i2
 . rename_i z0 z
   have z:y.num<0:=by lia
   refine eY (r:=y⁻¹) (yS z).1.symm (yS z).2.symm (λv1 H1 S1 i1=>?_);o_head Er (hx.by S1) i1 bx (Se by' hn) (λv2 H2 S2 i2=>?_);rw[<- xN]at i2;k_few;exact q v2 H2 (S1.trans S2) i2
def Ss(K:wb):Sp:=λvs H Q _=>∃x0 x1,vs=[x0,x1] /\ ∃(x y:Rat),Is K H x0 (N x)/\Is K H x1 (N y)/\ag 8999 x/\ag 8999 y/\Q (.bl (decide (x<y))) H
theorem zAY{w:V}(h1:Is K H v (N x))(h2:Is K H w (N y))(b1:ag 8999 x)(b2:ag 8999 y)(q:Q (.bl (decide (x<y))) H):Ss K [v,w] H Q E:=⟨_,_,rfl,x,y,h1,h2,b1,b2,q⟩
local macro_rules | `(tactic| wtm_at "gs")=>`(tactic| ((with_reducible apply zAY); (focus wtm_at "is"); (focus wtm_at "is"); (focus wtm_at "bdr"); (focus wtm_at "bdr")))
theorem gZ(T:Txt K mg a):aG P w K mg base aS 1 a.less a.JW zV (Ss K):=by
 refine T.gk.F.ok zAp ?_ ?_;wtm_at "b2";refine⟨_,(av (aB (e_ mW (aC cV (ao (pv 0)) (ao (pv 1))) (aC cV (ao (pv 1)) (ao (pv 0))) (bC _)))),?_⟩;wtm_at "cl";rw[show start FR [x0,x1]=[some x0,some x1]from rfl];obtain⟨x,y,hx,hy,⟨bx1,bx2⟩,⟨by1,by2⟩,q⟩:=h;k_few;rw[zEA];exact q
def pN(x:Rat):Bool:=decide (0<x)&&(!decide (4<x))&&decide ((x.den:Int)<=8)
def MO(K:wb):Sp:=λvs H Q _=>∃x0,vs=[x0] /\ ∃x:Rat,Is K H x0 (N x)/\ag 4000 x/\Q (.bl (pN x)) H
theorem zqX(h:Is K H v (N x))(b:ag 4000 x)(q:Q (.bl (pN x)) H):MO K [v] H Q E:=⟨_,rfl,x,h,b,q⟩
local macro_rules | `(tactic| wtm_at "gs")=>`(tactic| ((with_reducible apply zqX); (focus wtm_at "is"); (focus wtm_at "bdr")))
theorem zp2(T:Txt K mg a):aG P w K mg base aS 2 a.Ja a.Hz zA (MO K):=by
 refine T.HQ.F.ok zrm ?_ ?_;wtm_at "b1";refine⟨_,(av (aB (eO (au (gZ T) hr T.gk (ae (b_ (v:=.ref a.dy) rfl T.dW rfl) (ae (pv 0) af))) (eO (nF (au (gZ T) hr T.gk (ae (b_ (v:=.ref a.AI) rfl T.YI rfl) (ae (pv 0) af)))) (gE (e_ j5 (ao (pv 0)) (mH rfl T.YJ) (bC _))))))),?_⟩;wtm_at "cl";rw[show start Gh [x0]=[some x0]from rfl];obtain⟨x,hx,bx,q⟩:=h;unfold pN at q;k_few
 ·rename_i h1 h2
  rw[decide_eq_true h1,decide_eq_false h2]at q;exact q
 ·rename_i h1 h2
  rw[decide_eq_true h1,decide_eq_true h2]at q;exact q
 ·rename_i h1
  rw[decide_eq_false h1]at q;exact q
def pH(x:Rat):Bool:=(!decide (x<0))&&(!decide (1<x))&&decide ((x.den:Int)<=12)
def Nx(K:wb):Sp:=λvs H Q _=>∃x0,vs=[x0] /\ ∃x:Rat,Is K H x0 (N x)/\ag 4000 x/\Q (.bl (pH x)) H
theorem zsI(h:Is K H v (N x))(b:ag 4000 x)(q:Q (.bl (pH x)) H):Nx K [v] H Q E:=⟨_,rfl,x,h,b,q⟩
local macro_rules | `(tactic| wtm_at "gs")=>`(tactic| ((with_reducible apply zsI); (focus wtm_at "is"); (focus wtm_at "bdr")))
theorem zsE(T:Txt K mg a):aG P w K mg base aS 2 a.Jl a.HP yG (Nx K):=by
 refine T.Ir.F.ok zr2 ?_ ?_;wtm_at "b1";refine⟨_,(av (aB (eO (nF (au (gZ T) hr T.gk (ae (pv 0) (ae (b_ (v:=.ref a.dy) rfl T.dW rfl) af)))) (eO (nF (au (gZ T) hr T.gk (ae (b_ (v:=.ref a.dZ) rfl T.fg rfl) (ae (pv 0) af)))) (gE (e_ j5 (ao (pv 0)) (mH rfl T.YL) (bC _))))))),?_⟩;wtm_at "cl";rw[show start Gi [x0]=[some x0]from rfl];obtain⟨x,hx,bx,q⟩:=h;unfold pH at q;k_few
 ·rename_i h1 h2
  rw[decide_eq_false h1,decide_eq_false h2]at q;exact q
 ·rename_i h1 h2
  rw[decide_eq_false h1,decide_eq_true h2]at q;exact q
 ·rename_i h1
  rw[decide_eq_true h1]at q;exact q
def lV(x y:Rat):Bool:=pN x&&pH y && !decide (x+y<1)
def C6(K:wb):Sp:=λvs H Q _=>∃x0 x1,vs=[x0,x1]/\((∃d e,Is K H x0 d/\Is K H x1 e/\(bS d&&bS e)=false /\ ∀H',ah H H'->Q (.bl false) H')\/(∃x y:Rat,Is K H x0 (N x)/\Is K H x1 (N y)/\ag 1000 x/\ag 1000 y /\ ∀H',ah H H'->Q (.bl (lV x y)) H'))
theorem zoz{d:wC}{w:V}(h1:Is K H v d)(h2:Is K H w e)(n:(bS d&&bS e)=false)(q:∀H',ah H H'->Q (.bl false) H'):C6 K [v,w] H Q E:=⟨_,_,rfl,.inl ⟨d,e,h1,h2,n,q⟩⟩
theorem zqP{w:V}(h1:Is K H v (N x))(h2:Is K H w (N y))(b1:ag 1000 x)(b2:ag 1000 y)(q:∀H',ah H H'->Q (.bl (lV x y)) H'):C6 K [v,w] H Q E:=⟨_,_,rfl,.inr ⟨x,y,h1,h2,b1,b2,q⟩⟩
theorem zqa(T:Txt K mg a):aG P w K mg base aS 3 a.Jh a.Hu yO (C6 K):=by
 refine T.HW.F.ok Z3 ?_ ?_;wtm_at "b2"
 refine⟨_,(ar (bQ (PW.pt (fN (cU (cz (au (rG T) hr T.mJ (ae (pv 0) af)))) (iD (cU (cz (au (rG T) hr T.mJ (ae (pv 1) af))))))) (av (aB eI)) bR)
     (av (aB (eO (au (zp2 T) hr T.HQ (ae (pv 0) af)) (eO (au (zsE T) hr T.Ir (ae (pv 1) af)) (gE (nF (au (gZ T) hr T.gk (ae (au (gu T) hr T.fQ (ae (pv 0) (ae (pv 1) af))) (ae (b_ (v:=.ref a.dZ) rfl T.fg rfl) af)))))))))),?_⟩
 wtm_at "cl";rw[show start Dk [x0,x1]=[some x0,some x1]from rfl];rcases h with⟨d,e,hd,he,hn,q⟩ | ⟨x,y,hx,hy,bx,by',q⟩
 . k_few
   . exact q _ (ah.refl _)
   . exact q _ (ah.refl _)
   . rename_i h1 h2
     exact absurd hn (by rw[h1,h2];decide)
 . unfold lV at q
   k_few
   . rename_i z;rw[pj]at z;cases z
   . rename_i z;rw[pj]at z;cases z
   . rename_i h1 h2 v H' S hv
     rw[h1,h2]at q;exact q _ S
   . rename_i h1 h2
     rw[h1,h2]at q;exact q _ (ah.refl _)
   . rename_i h1
     rw[h1]at q;exact q _ (ah.refl _)
def OG:wC->Bool
 | .tuple [d,e]=>!(bS d&&bS e)
 | _=>true
theorem zr5{d:wC}(h:OG (.tuple [d,e])=true):(bS d&&bS e)=false:=by
 have h:(!(bS d&&bS e))=true:=h;cases z:(bS d&&bS e)with
 | false=>rfl
 | true=>rw[z]at h;exact absurd h (by decide)
def Oy(K:wb):Sp:=λvs H Q _=>∃x0,vs=[x0]/\((∃d,Is K H x0 d/\OG d=true /\ ∀H',ah H H'->Q (.bl false) H')\/(∃x y:Rat,Is K H x0 (R x y)/\ag 1000 x/\ag 1000 y /\ ∀H',ah H H'->Q (.bl (lV x y)) H'))
theorem zty(h:Is K H v (R x y))(b1:ag 1000 x)(b2:ag 1000 y)(q:∀H',ah H H'->Q (.bl (lV x y)) H'):Oy K [v] H Q E:=⟨_,rfl,.inr ⟨x,y,h,b1,b2,q⟩⟩
theorem zuo(T:Txt K mg a):aG P w K mg base aS 4 a.JK a.Iz yw (Oy K):=by
 refine T.IV.F.ok zuz ?_ ?_;wtm_at "b1";refine⟨_,(av (aB (eO (bE (show aJ _ (.builtin "isinstance") (eJ K)from jw) rfl T.h0c iM (ae (pv 0) (ae (ik (v:=.ty "tuple") rfl T.h0i ee rfl) af))) (eO (e_ (show aN _ (wT .Eq) (cO K)from dG hu) (bE (show aJ _ (.builtin "len") (dj K)from d6) rfl T.h0r dU (ae (pv 0) af)) ay (bC _)) (gE (au (zqa T) hr T.HW (ae (ao (pv 0)) (ae (ao (pv 0)) af)))))))),?_⟩;wtm_at "cl";rw[show start Gk [x0]=[some x0]from rfl];rcases h with⟨d,hd,hn,q⟩ | ⟨x,y,hr,bx,by',q⟩
 ·k_few
  ·rename_i e
   obtain⟨ds,rfl⟩:=UA.mp e;refine lg hd ?_;k_few
   ·rename_i e
    obtain⟨d0,d1,rfl⟩:∃d0 d1,ds=[d0,d1]:=by
     match ds,e with
     | [d0,d1],_=>exact⟨d0,d1,rfl⟩
     | [],e=>simp at e
     | [_],e=>simp at e
     | _::_::_::_,e=>simp at e;lia
    refine aA (j:=0) hd rfl (λy0 h0=>?_);o_head aA (j:=1) hd rfl (λy1 h1=>?_);o_head zoz h0 h1 (zr5 hn) (λH' S=>?_);k_few;exact q _ S
   ·exact q _ (ah.refl _)
  ·exact q _ (ah.refl _)
 ·k_few
  refine zqP (by assumption) (by assumption) bx by' (λH' S=>?_);k_few;exact q _ S
def rF(x:Rat):Str:=if 1<x then "rising" else if x=1 then "even" else "falling"
def PU(K:wb):Sp:=λvs H Q _=>∃x0,vs=[x0] /\ ∃x y:Rat,Is K H x0 (R x y)/\ag 4000 x/\Q (.str (rF x)) H
theorem MZ(h:Is K H v (R x y))(b:ag 4000 x)(q:Q (.str (rF x)) H):PU K [v] H Q E:=⟨_,rfl,x,y,h,b,q⟩
theorem U6(T:Txt K mg a):aG P w K mg base aS 2 a.Kf a.JL sZ (PU K):=by
 refine T.A9.F.ok zAx ?_ ?_;wtm_at "b1"
 refine⟨_,(ar (bQ (cz (au (gZ T) hr T.gk (ae (b_ (v:=.ref a.dZ) rfl T.fg rfl) (ae (ao (pv 0)) af)))) (av (aB iY)) bR)
     (ar (bQ (bZ (show aN _ (wT .Eq) (cO K)from dG hu) (ao (pv 0)) (b_ (v:=.ref a.dZ) rfl T.fg rfl) (bC _)) (av (aB iY)) bR)
     (av (aB iY)))),?_⟩
 wtm_at "cl";rw[show start Cu [x0]=[some x0]from rfl];obtain⟨x,y,hx,bx,q⟩:=h;unfold rF at q;k_few
 . rename_i h1
   rw[if_pos h1]at q;exact q
 . rename_i h1 _ _ h2
   rw[if_neg h1,if_pos h2]at q;exact q
 . rename_i h1 _ _ h2
   rw[if_neg h1,if_neg h2]at q;exact q
def Dg(K:wb):Sp:=λvs H Q _=>∃x0 x1,vs=[x0,x1] /\ ∃(a b:Rat)(n:Int),x1=.int n/\Is K H x0 (R a b)/\ag 4000 a/\ag 4000 b/\0<=n/\n<=64/\(∀i,i<=n.toNat->ag 4000 (a^i))/\(∀i,i<=n.toNat->ag 4000 (aD a b i)) /\ ∀v H',ah H H'->Is K H' v (R (a^n.toNat) (aD a b n.toNat))->Q v H'
theorem P9{a:Rat}{n:Int}(h1:Is K H v (R a b))(b1:ag 4000 a)(b2:ag 4000 b)(h0:0<=n)(h64:n<=64)(f1:∀i,i<=n.toNat->ag 4000 (a^i))(f2:∀i,i<=n.toNat->ag 4000 (aD a b i))(q:∀v H',ah H H'->Is K H' v (R (a^n.toNat) (aD a b n.toNat))->Q v H'):Dg K [v,.int n] H Q E:=⟨_,_,rfl,a,b,n,rfl,h1,b1,b2,h0,h64,f1,f2,q⟩
theorem CZ{a:Rat}{n:Int}(h1:Is K H v (R a b))(b1:ag 10 a)(b2:ag 10 b)(h0:0<=n)(h64:n<=64)(q:∀v H',ah H H'->Is K H' v (R (a^n.toNat) (aD a b n.toNat))->Q v H'):Dg K [v,.int n] H Q E :=
 P9 h1 (b1.mono (by decide)) (b2.mono (by decide)) h0 h64 (λi hi=>(b1.pow i).mono (by lia)) (λi hi=>(b1.aD b2 i).mono (by lia)) q
theorem zm(T:Txt K mg a):aG P w K mg base aS 3 a.J4 a.Je w_ (Dg K):=by
 refine T.oK.F.ok nq ?_ ?_;wtm_at "b2"
 refine⟨_,(ar (az 2 nq.nd (b_ (v:=.ref a.dZ) rfl T.fg rfl))
     (ar (az 3 nq.nd (b_ (v:=.ref a.dy) rfl T.dW rfl))
     (ar (g6 vP rfl (jR rfl T.h0j (ae (pv 1) af)) (bP (i:=4) nq.nd rfl (Or.inl rfl)) (ar (az 2 nq.nd (au (kN T) hr T.jL (ae (ao (pv 0)) (ae (pv 2) af))))
     (av (az 3 nq.nd (au (gu T) hr T.fQ (ae (au (kN T) hr T.jL (ae (ao (pv 0)) (ae (pv 3) af))) (ae (ao (pv 0)) af)))))))
     (av (aB (br (ae (pv 2) (ae (pv 3) af)))))))),?_⟩
 wtm_at "cl";rw[show start PC [x0,x1]=[some x0,some x1,none,none,none]from rfl];obtain⟨r,s',n,rfl,hr',ba,bb,h0,h64,f1,f2,q⟩:=h;o_head lD (n:=n) (by lia) (by lia) (λi σ H'=>∃(f g:V)(o:Option V),σ = [some x0,some (.int n),some f,some g,o]/\ah H H'/\Is K H' f (N (r^i))/\Is K H' g (N (aD r s' i))) ⟨_,_,_,rfl,ah.refl H,by rw[V8];exact nz.mpr ⟨_,rfl,T.sE H⟩,nz.mpr ⟨_,rfl,T.eU H⟩⟩ ?_ ?_
 . rintro i σ H' hi ⟨f,g,o,rfl,S1,hf,hg⟩
   have hr1:=hr'.by S1;have bf:ag 4000 (r^i):=f1 i (by lia);have bg:ag 4000 (aD r s' i):=f2 i (by lia);have bg2:ag 8999 (r*aD r s' i):=(ba.mul bg).mono (by decide);o_head ⟨_,_,_,rfl,S1.trans (ah.trans (by assumption) (ah.trans (by assumption) (by assumption))),?_,?_⟩
   . rw[WL,Qf]
     wtm_at "is"
   . wtm_at "is"
 . rintro σ H' ⟨f,g,o,rfl,S1,hf,hg⟩
   wtm_at "ga";exact q _ _ (S1.trans (by assumption)) (by assumption)
def Yx(K:wb):Sp:=λvs H Q _=>∃x0 x1,vs=[x0,x1] /\ ∃(f g x:Rat),Is K H x0 (R f g)/\Is K H x1 (N x)/\ag 700 f/\ag 1500 g/\ag 8100 x /\ ∀v H',ah H H'->Is K H' v (N (f*x+g))->Q v H'
theorem P7{f g:Rat}{w:V}(h1:Is K H v (R f g))(h2:Is K H w (N x))(b1:ag 700 f)(b2:ag 1500 g)(b3:ag 8100 x)(q:∀v H',ah H H'->Is K H' v (N (f*x+g))->Q v H'):Yx K [v,w] H Q E:=⟨_,_,rfl,f,g,x,h1,h2,b1,b2,b3,q⟩
theorem M0(T:Txt K mg a):aG P w K mg base aS 3 a.Jf a.Hm zR (Yx K):=by
 refine T.AS.F.ok zqZ ?_ ?_;wtm_at "b2";refine⟨_,(av (aB (au (gu T) hr T.fQ (ae (au (kN T) hr T.jL (ae (ao (pv 0)) (ae (pv 1) af))) (ae (ao (pv 0)) af))))),?_⟩;wtm_at "cl";rw[show start FD [x0,x1]=[some x0,some x1]from rfl];obtain⟨f,g,x,hp,hx,bf,bg,bx,q⟩:=h;k_few;rename_i hz;exact q _ _ (ah.trans (by assumption) (by assumption)) hz
def yA(K:wb):Sp:=λvs H Q _=>∃x0,vs=[x0]/\((∃d,Is K H x0 d/\bS d=false/\Q (.bl false) H)\/(∃x:Rat,Is K H x0 (N x)/\ag 4000 x/\Q (.bl (jN x)) H))
theorem Zt{d:wC}(h:Is K H v d)(n:bS d=false)(q:Q (.bl false) H):yA K [v] H Q E:=⟨_,rfl,.inl ⟨d,h,n,q⟩⟩
theorem zrB(h:Is K H v (N x))(b:ag 4000 x)(q:Q (.bl (jN x)) H):yA K [v] H Q E:=⟨_,rfl,.inr ⟨x,h,b,q⟩⟩
theorem zs5(T:Txt K mg a):aG P w K mg base aS 3 a.Jo a.HH zD (yA K):=by
 refine T.Io.F.ok zsf ?_ ?_;wtm_at "b1"
 refine⟨_,(ar (bQ (PW.pt (fN (cU (cz (au (rG T) hr T.mJ (ae (pv 0) af)))) (iD (cz (au (gZ T) hr T.gk (ae (pv 0) (ae (b_ (v:=.ref a.dy) rfl T.dW rfl) af))))))) (av (aB eI)) bR)
     (av (aB (eO (au (gZ T) hr T.gk (ae (pv 0) (ae (b_ (v:=.ref a.dZ) rfl T.fg rfl) af))) (gE (e_ j5 (ao (pv 0)) (mH rfl T.YK) (bC _))))))),?_⟩
 wtm_at "cl";rw[show start Dh [x0]=[some x0]from rfl];rcases h with⟨d,hd,hn,q⟩ | ⟨x,hx,bx,q⟩
 . k_few
   . exact q
   . rename_i e;rw[hn]at e;cases e
 . unfold jN at q
   k_few
   . rename_i z;rw[pj]at z;cases z
   . rename_i h1
     rw[decide_eq_true h1]at q;exact q
   . rename_i h1 h2
     rw[decide_eq_false h1,decide_eq_true h2]at q;exact q
   . rename_i h1 h2
     rw[decide_eq_false h1,decide_eq_false h2]at q;exact q
def fR:wC->Bool
 | .tuple [.int p,.int q]=>gO p q&&jN (wB p q)
 | _=>false
theorem U0(x:Rat):fR (N x)=jN x:=by
 show(gO x.num x.den&&jN (wB x.num x.den))=jN x
 rw[NO,Vy,ql]
theorem zuu{d:wC}(h:bS d=true):∃x:Rat,d=N x:=by
 match d with
 | .tuple [.int p,.int q] =>
  obtain⟨r,e1,e2⟩:=zqU (show gO p q=true from h);exact⟨r,by rw[e1,e2];rfl⟩
 | .none=>simp[bS]at h
 | .bool _=>simp[bS]at h
 | .int _=>simp[bS]at h
 | .str _=>simp[bS]at h
 | .list _=>simp[bS]at h
 | .dict _=>simp[bS]at h
 | .tuple []=>simp[bS]at h
 | .tuple [_]=>simp[bS]at h
 | .tuple (_::_::_::_)=>simp[bS]at h
 | .tuple [.none,_]=>simp[bS]at h
 | .tuple [.bool _,_]=>simp[bS]at h
 | .tuple [.str _,_]=>simp[bS]at h
 | .tuple [.tuple _,_]=>simp[bS]at h
 | .tuple [.list _,_]=>simp[bS]at h
 | .tuple [.dict _,_]=>simp[bS]at h
 | .tuple [.int _,.none]=>simp[bS]at h
 | .tuple [.int _,.bool _]=>simp[bS]at h
 | .tuple [.int _,.str _]=>simp[bS]at h
 | .tuple [.int _,.tuple _]=>simp[bS]at h
 | .tuple [.int _,.list _]=>simp[bS]at h
 | .tuple [.int _,.dict _]=>simp[bS]at h
theorem zAK{d:wC}(h:bS d=false):fR d=false:=by
 unfold fR
 split
 ·rename_i p q
  rw[show gO p q=false from h];rfl
 ·rfl
theorem Rz{d:wC}(h:Is K H v d)(b:∀x,d=N x->ag 4000 x)(q:Q (.bl (fR d)) H):yA K [v] H Q E:=by
 cases e:bS d with
 | false=>rw[zAK e]at q;exact Zt h e q
 | true =>
  obtain⟨x,rfl⟩:=zuu e;rw[U0]at q;exact zrB h (b x rfl) q
def KN(K:wb):Sp:=λvs H Q _=>∃x0,vs=[x0]/\((∃d,Is K H x0 d/\(k_ d || iW d)=false /\ ∀H',ah H H'->Q (.bl false) H')\/(∃ds,(Is K H x0 (.list ds)\/Is K H x0 (.tuple ds))/\(∀e∈ds,∀x,e=N x->ag 4000 x) /\ ∀H',ah H H'->Q (.bl (decide (1<=ds.length)&&decide (ds.length<=8)&&ds.all fR)) H'))
theorem zoH(h:Is K H v (.list ds)\/Is K H v (.tuple ds))(b:∀e∈ds,∀x,e=N x->ag 4000 x)(q:∀H',ah H H'->Q (.bl (decide (1<=ds.length)&&decide (ds.length<=8)&&ds.all fR)) H'):KN K [v] H Q E:=⟨_,rfl,.inr ⟨ds,h,b,q⟩⟩
theorem zoq(T:Txt K mg a):aG P w K mg base aS 4 a.IL a.G_ yL (KN K):=by
 refine T.HB.F.ok zoB ?_ ?_;wtm_at "b1"
 refine⟨_,(ar (bQ (PW.pt (fN (cU (cz (bE (show aJ _ (.builtin "isinstance") (Cj K)from zuJ) rfl T.h0c iM (ae (pv 0) (ae (br (ae (ik (v:=.ty "list") rfl T.h0m kH rfl) (ae (ik (v:=.ty "tuple") rfl T.h0i ee rfl) af))) af))))) (iD (cU (zya j5 j5 ay (bE (show aJ _ (.builtin "len") (dj K)from d6) rfl T.h0r dU (ae (pv 0) af)) (mH rfl T.YM)))))) (av (aB eI)) bR)
     (av (aB (bE (show aJ _ (.builtin "all") (lA K)from nP rfl) rfl T.h0t oj (ae (d7 rfl (cR.by (N':=["one"]) (src:=[none]) rfl (by kernel_rfl)) (Pc (pv 0)) (λ_ _ _ _ _=>(bP (i:=0) (of_decide_eq_true (by kernel_rfl)) rfl (Or.inl rfl))) (λ_ _ _ _ _=>dM) (λ_ _ _ _ _=>(au (zs5 (K:=K) (mg:=mg) (a:=a) T) hr T.Io (ae (pv 0) af)))) af))))),?_⟩
 wtm_at "cl";rw[show start DX [x0]=[some x0]from rfl];rcases h with⟨d,hd,hn,q⟩ | ⟨ds,hd,bd,q⟩
 . k_few
   refine ou (by simp) (λtp H1 _ S1 e1=>?_);o_head Bl (hd.by S1) e1 ?_;rw[hn];k_few;exact q H1 S1
 . rcases hd with hd | hd
   . k_few
     refine ou (by simp) (λtp H1 _ S1 e1=>?_);o_head Bl (hd.by S1) e1 ?_;rw[show(k_ (.list ds) || iW (.list ds))=true from rfl];obtain⟨ap,us,rfl,hs,tu⟩:=cC.mp (hd.by S1);have hul:=tu.length;o_head jf hs ?_;rw[hul];k_few
     . rename_i z0 z
       have:=q H1 S1;rw[decide_eq_false (show ¬ ds.length<=8 by lia),QT,Ww]at this;exact this
     . rename_i z0 z
       have h1:1<=ds.length:=by lia
       have h8:ds.length<=8:=by lia
       refine .inl (ju (o0:=none) (tl:=[]) hs rfl (λj y H'=>y=.bl (fR (ds.getD j .none))) ?_ ?_)
       . intro D i x ys o H2 hx inv
         obtain⟨hi,ix⟩:=jF tu hx;o_head Rz (ix.by inv.same) (λx e=>bd _ (getD_mem hi) x e) ?_;k_few;exact d5 inv (by lia) (λ_ _ _ _ _ z=>z) ⟨_,rfl⟩ (ah.refl _) rfl
       . intro D ys H2 hn S2 hD hl hr
         have hys:ys=(ds.map fR).map V.bl:=by
           refine WN (by rw[hl,hul,wm,wm]) λj h1 h2=>?_
           have:=hr j ys[j] (wc h1);rw[this,Vp,Vp,wa,wc]
           rfl
         subst hys;o_head mz (.of hD) ?_;k_few;have e:(ds.map fR).all id=ds.all fR:=by rw[XJ];rfl
         have:=q H2 (S1.trans S2);rw[decide_eq_true h1,decide_eq_true h8,<- e]at this;exact this
     . rename_i z
       have:=q H1 S1;rw[decide_eq_false (show ¬ 1<=ds.length by lia),Ww,Ww]at this;exact this
   . k_few
     refine ou (by simp) (λtp H1 _ S1 e1=>?_);o_head Bl (hd.by S1) e1 ?_;rw[show(k_ (.tuple ds) || iW (.tuple ds))=true from rfl];obtain⟨ap,us,rfl,hs,tu⟩:=bX.mp (hd.by S1);have hul:=tu.length;o_head UW hs ?_;rw[hul];k_few
     . rename_i z0 z
       have:=q H1 S1;rw[decide_eq_false (show ¬ ds.length<=8 by lia),QT,Ww]at this;exact this
     . rename_i z0 z
       have h1:1<=ds.length:=by lia
       have h8:ds.length<=8:=by lia
       refine .inr (jo (o0:=none) (tl:=[]) hs rfl (λj y H'=>y=.bl (fR (ds.getD j .none))) ?_ ?_)
       . intro D i x ys o H2 hx inv
         obtain⟨hi,ix⟩:=jF tu hx;o_head Rz (ix.by inv.same) (λx e=>bd _ (getD_mem hi) x e) ?_;k_few;exact d5 inv (by lia) (λ_ _ _ _ _ z=>z) ⟨_,rfl⟩ (ah.refl _) rfl
       . intro D ys H2 hn S2 hD hl hr
         have hys:ys=(ds.map fR).map V.bl:=by
           refine WN (by rw[hl,hul,wm,wm]) λj h1 h2=>?_
           have:=hr j ys[j] (wc h1);rw[this,Vp,Vp,wa,wc]
           rfl
         subst hys;o_head mz (.of hD) ?_;k_few;have e:(ds.map fR).all id=ds.all fR:=by rw[XJ];rfl
         have:=q H2 (S1.trans S2);rw[decide_eq_true h1,decide_eq_true h8,<- e]at this;exact this
     . rename_i z
       have:=q H1 S1;rw[decide_eq_false (show ¬ 1<=ds.length by lia),Ww,Ww]at this;exact this
theorem zxg{a:Rat}(h:aR a b):lV a b=true:=by
 obtain⟨h1,h2,h3,h4,h5,h6,h7⟩:=h;have k2:¬ (4:Rat)<a:=Vu.mpr h2;have k4:¬ b<0:=Vu.mpr h4;have k5:¬ (1:Rat)<b:=Vu.mpr h5;have k7:¬ a+b<1:=Vu.mpr h7;have k3:(a.den:Int)<=8:=by lia
 have k6:(b.den:Int)<=12:=by lia
 simp[lV,pN,pH,h1,k2,k3,k4,k5,k6,k7]
theorem zDc(h:∀x∈xs,fc x):(xs.map N).all fR=true:=by
 rw[WO];intro d hd;obtain⟨x,hx,rfl⟩:=wU.mp hd;rw[U0];exact(h x hx).is
theorem Z7(h:∀x∈xs,fc x):∀e∈xs.map N,∀x,e=N x->ag 4000 x:=by
 intro e he x hx;obtain⟨y,hy,rfl⟩:=wU.mp he;rw[<- zEx hx];exact(h y hy).d4.mono (by decide)
def LJ(K:wb):Sp:=λvs H Q _=>∃x0 x1,vs=[x0,x1] /\ ∃(a b:Rat)(xs:List Rat),Is K H x0 (R a b)/\aR a b/\(Is K H x1 (LN xs)\/Is K H x1 (TN xs))/\1<=xs.length/\xs.length<=8/\(∀x∈xs,fc x) /\ ∀v H',ah H H'->Is K H' v (aZ a b xs)->Q v H'
theorem zsn{a:Rat}{w:V}(h1:Is K H v (R a b))(ok:aR a b)(h2:Is K H w (LN xs)\/Is K H w (TN xs))(h3:1<=xs.length)(h4:xs.length<=8)(h5:∀x∈xs,fc x)(q:∀v H',ah H H'->Is K H' v (aZ a b xs)->Q v H'):LJ K [v,w] H Q E:=⟨_,_,rfl,a,b,xs,h1,ok,h2,h3,h4,h5,q⟩
theorem ztj(T:Txt K mg a):aG P w K mg base aS 5 a.Jr a.HN AD (LJ K):=by
 refine T.IQ.F.ok zrI ?_ ?_;wtm_at "b2"
 refine⟨_,(ar (bQ (cU (cz (au (zuo T) hr T.IV (ae (pv 0) af)))) (av Em) bR)
     (ar (bQ (cU (cz (au (zoq T) hr T.HB (ae (pv 1) af)))) (av Em) bR)
     (av (aB (br (ae (pv 0) (ae (dY (show aJ _ (.type "tuple") (eQ K)from fX) rfl T.h0i ee (ae (pv 1) af)) af))))))),?_⟩
 wtm_at "cl";rw[show start F8 [x0,x1]=[some x0,some x1]from rfl];obtain⟨ra,rb,xs,hr,ok,hp,h1,h8,hph,q⟩:=h;o_head zty hr (ok.ba.mono (by decide)) (ok.bb.mono (by decide)) (λH1 S1=>?_);rw[zxg ok];k_few;have hp1:Is K H1 x1 (LN xs)\/Is K H1 x1 (TN xs):=hp.imp (λz=>z.by S1) (λz=>z.by S1);refine zoH (ds:=xs.map N) hp1 (Z7 hph) (λH2 S2=>?_);rw[zDc hph,wm,decide_eq_true h1,decide_eq_true h8,show(true&&true&&true)=true from rfl];have hp2:Is K H2 x1 (LN xs)\/Is K H2 x1 (TN xs):=hp1.imp (λz=>z.by S2) (λz=>z.by S2);have hr2:Is K H2 x0 (R ra rb):=(hr.by S1).by S2;k_few;rcases hp2 with z | z
 . refine iQ z (λw H3 S3 i3=>?_)
   o_head cB (ds:=[R ra rb,TN xs]) (by simp) (.cons (hr2.by S3) (.cons i3 .nil)) (λv H4 S4 i4=>?_);exact q v H4 (S1.trans (S2.trans (S3.trans S4))) i4
 . refine N3 z ?_
   o_head cB (ds:=[R ra rb,TN xs]) (by simp) (.cons hr2 (.cons z .nil)) (λv H4 S4 i4=>?_);exact q v H4 (S1.trans (S2.trans S4)) i4
def KQ(K:wb):Sp:=λvs H Q _=>∃x0,vs=[x0] /\ ∃xs:List Rat,(Is K H x0 (LN xs)\/Is K H x0 (TN xs))/\1<=xs.length/\(∀i,ag 4000 (xs.getD i 0)) /\ ∀v,Is K H v (N (cb xs))->Q v H
theorem Lw(h:Is K H v (LN xs)\/Is K H v (TN xs))(h1:1<=xs.length)(b:∀i,ag 4000 (xs.getD i 0))(q:∀v,Is K H v (N (cb xs))->Q v H):KQ K [v] H Q E:=⟨_,rfl,xs,h,h1,b,q⟩
theorem U2(T:Txt K mg a):aG P w K mg base aS 2 a.Ju a.HY zY (KQ K):=by
 refine T.AV.F.ok yM ?_ ?_;wtm_at "b1"
 refine⟨_,(ar (az 1 yM.nd (ao (pv 0)))
     (ar (g6 vP rfl (Pc (pv 0)) (bP (i:=2) yM.nd rfl (Or.inl rfl)) (av (bQ (cz (au (gZ T) hr T.gk (ae (pv 1) (ae (pv 2) af)))) (av (az 1 yM.nd (pv 2))) bR)))
     (av (aB (pv 1))))),?_⟩
 wtm_at "cl";rw[show start LC [x0]=[some x0,none,none]from rfl];obtain⟨xs,hx,h1,bx,q⟩:=h;rcases hx with hx | hx
 . obtain⟨ap,us,rfl,hs,tu⟩:=cC.mp hx
   have hul:us.length=xs.length:=by rw[tu.length,wm]
   o_head kW hx (by decide) (by lia) (λv0 i0=>?_);have i0:Is K H v0 (N (mx (xs.getD 0 0) [])):=i0;o_head .inl (Fn hs (λi σ H'=>∃o v,σ = [some (.ref ap),some v,o]/\H'=H/\Is K H v (N (mx (xs.getD 0 0) (xs.take i)))) ⟨_,v0,rfl,rfl,by rw[Ua];exact i0⟩ (λi σ H' _ h=>by obtain⟨_,_,_,rfl,_⟩:=h;exact hs) ?_ ?_)
   . rintro i x σ H' hx' ⟨o,v,rfl,rfl,iv⟩
     obtain⟨hi,ix⟩:=dC tu hx';have b1:=MX bx h1 i;have b2:=bx i;k_few
     . rename_i z
       exact⟨_,x,rfl,rfl,by rw[nN hi,yz,if_pos z];exact ix⟩
     . rename_i z
       exact⟨_,v,rfl,rfl,by rw[nN hi,yz,if_neg z];exact iv⟩
   . rintro σ H' ⟨o,v,rfl,rfl,iv⟩
     rw[hul,Wr]at iv;k_few;exact q v iv
 . obtain⟨ap,us,rfl,hs,tu⟩:=bX.mp hx
   have hul:us.length=xs.length:=by rw[tu.length,wm]
   o_head zAD hx (by decide) (by lia) (λv0 i0=>?_);have i0:Is K H v0 (N (mx (xs.getD 0 0) [])):=i0;o_head .inr (ZM hs (λi σ H'=>∃o v,σ = [some (.ref ap),some v,o]/\H'=H/\Is K H v (N (mx (xs.getD 0 0) (xs.take i)))) ⟨_,v0,rfl,rfl,by rw[Ua];exact i0⟩ (λi σ H' _ h=>by obtain⟨_,_,_,rfl,_⟩:=h;exact hs) ?_ ?_)
   . rintro i x σ H' hx' ⟨o,v,rfl,rfl,iv⟩
     obtain⟨hi,ix⟩:=dC tu hx';have b1:=MX bx h1 i;have b2:=bx i;k_few
     . rename_i z
       exact⟨_,x,rfl,rfl,by rw[nN hi,yz,if_pos z];exact ix⟩
     . rename_i z
       exact⟨_,v,rfl,rfl,by rw[nN hi,yz,if_neg z];exact iv⟩
   . rintro σ H' ⟨o,v,rfl,rfl,iv⟩
     rw[hul,Wr]at iv;k_few;exact q v iv
def SG(K:wb):Sp:=λvs H Q _=>∃x0 x1,vs=[x0,x1] /\ ∃(xs:List Rat)(v:Rat),Is K H x0 (TN xs)/\Is K H x1 (N v)/\xs.length<=900 /\ ∀u H',ah H H'->Is K H' u (TW (fV xs v))->Q u H'
theorem Zy{v:Rat}{w:V}(h1:Is K H w (TN xs))(h2:Is K H u (N v))(hl:xs.length<=900)(q:∀u H',ah H H'->Is K H' u (TW (fV xs v))->Q u H'):SG K [w,u] H Q E:=⟨_,_,rfl,xs,v,h1,h2,hl,q⟩
theorem ztb(T:Txt K mg a):aG P w K mg base aS 1 a.JE a.HK sM (SG K):=by
 refine T.IJ.F.ok zs4 ?_ ?_;wtm_at "b2";refine⟨_,(av (aB (dY (show aJ _ (.type "tuple") (eQ K)from fX) rfl T.h0i ee (ae (d7 rfl (cR.by (N':=["worm","own","phase"]) (src:=[none,none,some 1]) rfl (by kernel_rfl)) (O9 rfl T.h0f (ae (pv 0) af)) (λ_ _ _ _ _=>by exact(show PG _ _ (lZ K 2 _)from my (n:=2) rfl (gx (bP (i:=0) (of_decide_eq_true (by kernel_rfl)) rfl (Or.inl rfl)) (gx (bP (i:=1) (of_decide_eq_true (by kernel_rfl)) rfl (Or.inl rfl)) lI)))) (λ_ _ _ _ _=>(tX (bZ (show aN _ (wT .Eq) (cO K)from dG hu) (pv 1) (pv 2) (bC _)))) (λ_ _ _ _ _=>(pv 0))) af)))),?_⟩;wtm_at "cl";rw[show start Ew [x0,x1]=[some x0,some x1]from rfl];obtain⟨xs,v,hx,hv,hl,q⟩:=h;obtain⟨ap,us,rfl,hu',tu⟩:=bX.mp hx;have hul:us.length=xs.length:=by rw[tu.length,wm]
 o_head zrM hu' (λD i ys σ' H'=>(∃o1 o2,σ'=[o1,o2,some x1])/\H D=none/\ah H H'/\H' D=some (.lst (vz ((wt i).filter λw=>decide (xs.getD w 0=v))))) (λD H' n s e=>⟨⟨_,_,rfl⟩,n,s,e⟩) (λD i ys σ' H' h=>h.2.2.1.j9 hu') ?_ ?_
 ·rintro D i x ys σ' H1 c H2 hx' ⟨⟨o1,o2,rfl⟩,n,S1,e1⟩ hc S2 e2
  obtain⟨hi,ix⟩:=dC tu hx';have T2:=S1.trans S2;have ix2:=ix.by T2;have hv2:=hv.by T2;have e12:=S2 _ _ e1
  have hfl:((wt i).filter λw=>decide (xs.getD w 0=v)).length<=i:=by
   have:=WK (λw=>decide (xs.getD w 0=v)) (wt i);rw[vx]at this;exact this
  refine mm (.of e2) rfl ?_;k_few
  ·rename_i z
   refine lJ e12 (by rw[j_];lia) (λH6 E6 e6=>⟨⟨_,_,rfl⟩,n,T2.grow n E6,?_⟩);rw[OC (n:=i),decide_eq_true z,if_pos rfl,EJ];exact e6
  ·rename_i z
   refine⟨[],⟨_,_,rfl⟩,n,T2,?_⟩;rw[OC (n:=i),decide_eq_false z,if_neg (by decide),Wh];exact e12
 ·rintro D ys σ' H1 ⟨_,n,S1,e1⟩
  rw[hul]at e1;o_head sR (.of e1) (λl H2 n2 S2 e3=>?_);exact q _ H2 (S1.trans S2) (DK.mpr ⟨l,rfl,.of e3⟩)
def Kw(K:wb):Sp:=λvs H Q _=>∃x0,vs=[x0] /\ ∃(a b:Rat)(xs:List Rat),Is K H x0 (aZ a b xs)/\xs.length<=8/\(∀i,ag 4000 (xs.getD i 0)) /\ ∀l H' us,H l=none->ah H H'->H' l=some (.lst us)->ak K H' us ((aj xs).map (jT xs))->Q (.ref l) H'
theorem Ex{a:Rat}(h:Is K H v (aZ a b xs))(h8:xs.length<=8)(bx:∀i,ag 4000 (xs.getD i 0))(q:∀l H' us,H l=none->ah H H'->H' l=some (.lst us)->ak K H' us ((aj xs).map (jT xs))->Q (.ref l) H'):Kw K [v] H Q E:=⟨_,rfl,a,b,xs,h,h8,bx,q⟩
theorem ztH(b:∀i,ag m (xs.getD i 0))(h:x∈xs):ag m x:=by
 obtain⟨j,hj,rfl⟩:=wX h;have:=b j;rw[wa,wc hj]at this;exact this
theorem ZO{β:Type}(f : α -> β)(l:List α):(!(l.map f).isEmpty) = !l.isEmpty:=by cases l<;>rfl
theorem Fj(T:Txt K mg a):aG P w K mg base aS 3 a.J8 a.I_ zF (Kw K):=by
 refine T.sk.F.ok pG ?_ ?_;wtm_at "b1"
 refine⟨_,(ar (az 1 pG.nd (fb af))
     (ar (az 2 pG.nd (dY (show aJ _ (.type "list") (kz K)from pk) rfl T.h0m kH (ae (ao (pv 0)) af)))
     (ar (nE vP (zB (pv 2)) (ar (az 3 pG.nd (au (U2 T) hr T.AV (ae (pv 2) af)))
     (ar (nA (nX WT WQ WR lH (pv 1) (ae (br (ae (pv 3) (ae (au (ztb T) hr T.IJ (ae (ao (pv 0)) (ae (pv 3) af))) af))) af)))
     (av (mF (i:=2) pG.nd rfl (Or.inl rfl) rfl (cR.by (N':=["other","phase"]) (src:=[none,some 3]) rfl (by kernel_rfl)) (gI (pv 2)) (λ_ _ _ _ _=>(bP (i:=0) (of_decide_eq_true (by kernel_rfl)) rfl (Or.inl rfl))) (λ_ _ _ _ _=>(tX (bZ (show aN _ (wT .NotEq) (f_ K)from jO hu) (pv 0) (pv 1) (bC _)))) (λ_ _ _ _ _=>(pv 0)))))))
     (av (aB (pv 1)))))),?_⟩
 wtm_at "cl";rw[show start SO [x0]=[some x0,none,none,none]from rfl];obtain⟨ra,rb,xs,hw,h8,bx,q⟩:=h;o_head fB (by simp) (λlt H1 n1 S1 e1=>?_);o_head aA (j:=1) (hw.by S1) rfl (λvp ip=>?_);o_head yc ip (λll H2 us n2 S2 e2 t2=>?_);have nlt:ll≠lt:=λz=>by subst z;rw[e1]at n2;cases n2
 o_head zI (λm σ' H'=>∃(ll:we)(left done:List Rat)(us ws:List V)(f:Nat)(o3:Option V),σ'=[some x0,some (.ref lt),some (.ref ll),o3]/\m=left.length/\ah H H'/\ll≠lt/\H' lt=some (.lst ws)/\ak K H' ws (done.map (jT xs))/\H' ll=some (.lst us)/\ak K H' us (left.map N)/\(∀y∈left,y∈xs)/\left.length<=f/\done.length+left.length<=xs.length/\done++iO f left=aj xs) _ ⟨ll,xs,[],us,[],xs.length,_,rfl,rfl,S1.trans S2,nlt,S2 _ _ e1,.nil,e2,t2,λy h=>h,wo _,by simp,rfl⟩ ?_;rintro m σ' H3 ⟨ll,left,done,us,ws,f,o3,rfl,rfl,S3,nl,et,tt',el,tl',sub,hf,hdl,heq⟩;o_head CH (dE el tl') ?_;rw[ZO]
 by_cases he:left=[]
 . rw[show(!left.isEmpty)=false by rw[he];rfl]
   refine nR ?_;rw[he,BE,Wh]at heq;rw[heq]at tt';k_few;exact q lt H3 ws n1 S3 et tt'
 . rw [show (!left.isEmpty) = true by cases left with
       | nil=>exact absurd rfl he
       | cons y l=>rfl]
   refine nv ?_;refine Ah ?_;have hpos:=qf.mpr he
   have bl:∀i,ag 4000 (left.getD i 0):=λi=>by
     rcases wA i left.length with z | z
     . exact ztH bx (sub _ (getD_mem z))
     . rw[wa,wL z];exact ag.zero.mono (by decide)
   obtain⟨f',rfl⟩:∃f',f=f'+1:=⟨f-1,by lia⟩;rw[mX he]at heq;have hless:=S0 he;have hwl:=tt'.length;rw[wm]at hwl;o_head Lw (.inl (dE el tl')) hpos bl (λvm im=>?_);o_head mr (aO.of et) ?_;o_head aA (j:=1) (hw.by S3) rfl (λvq iq=>?_);o_head Zy iq im (by lia) (λv4 H4 S4 i4=>?_);o_head cB (ds:=[N (cb left),TW (fV xs (cb left))]) (by simp) (.cons (im.by S4) (.cons i4 .nil)) (λv5 H5 S5 i5=>?_);k_few;have T5:=S4.trans S5;refine lR (T5 _ _ et) (by lia) (λH6 E6 e6=>?_);have K6:=E6.keep (T5 _ _ et);have el6:=E6 _ _ nl (T5 _ _ el);have tl6:ak K H6 us (left.map N):=ak.keep (T5.keep.trans K6) _ _ (gq _) tl'
   have tt6:ak K H6 (ws++[v5]) ((done++[cb left]).map (jT xs)):=by
     rw[vA];exact(ak.keep (T5.keep.trans K6) _ _ (zw1 ..) tt').snoc (i5.jm K6 (UR ..))
   have im6:=(im.by T5).gg K6;have S6:ah H H6:=(S3.trans T5).grow n1 E6;generalize hmx:cb left=mxx at *;o_head zX (.of el6) (λD i ys σ' H'=>(∃o,σ'=[o,some vm])/\H6 D=none/\ah H6 H'/\H' D=some (.lst ys)/\ak K H' ys (((left.take i).filter λy=>!decide (y=mxx)).map N)) (λD H' n s e=>⟨⟨_,rfl⟩,n,s,e,.nil⟩) (λD i ys σ' H' h=>h.2.2.1.seq (.of el6)) ?_ ?_
   . rintro D i x ys σ' H7 hx ⟨⟨o,rfl⟩,n7,S7,e7,t7⟩
     obtain⟨hi,ix⟩:=dC tl6 hx;have ix7:=ix.by S7;have im7:=im6.by S7;have hyl:=t7.length;rw[wm]at hyl;have hfl:=WK (λy=>!decide (y=mxx)) (left.take i);rw[Wq]at hfl;k_few
     . rename_i z
       refine lJ e7 (by lia) (λH8 E8 e8=>⟨⟨_,rfl⟩,n7,S7.grow n7 E8,e8,?_⟩);have K8:=E8.keep e7;rw[nN hi,Va,W4,decide_eq_false z,vA];exact(ak.keep K8 _ _ (gq _) t7).append (.cons (ix7.gg K8) .nil)
     . rename_i z
       refine⟨ys,⟨_,rfl⟩,n7,S7,e7,?_⟩;rw[nN hi,Va,W4,decide_eq_true (by first | exact z | exact qy.mp z)];have:([]:List Rat).filter (λy=>!decide (y=mxx))=[]:=rfl
       simpa using t7
   . rintro D ys σ' H7 ⟨_,n7,S7,e7,t7⟩
     have hul:=tl6.length;rw[wm]at hul;rw[hul,Wr]at t7;k_few;exact⟨(left.filter λy=>!decide (y=mxx)).length,by lia,D,_,done++[mxx],ys,ws++[v5],f',_,rfl,rfl,S6.trans S7,(λz=>by subst z;rw[e6]at n7;cases n7),S7 _ _ e6,ak.same S7 _ _ tt6,e7,t7,λy hy=>sub y (vg.mp hy).1,by lia,by rw[wR];simp only[vV];lia,by rw[Vh];exact heq⟩
def V_(K:wb):Sp:=λvs H Q _=>∃x0 x1,vs=[x0,x1] /\ ∃(lw:we)(left:List Nat)(ps:List Rat),x0=.ref lw/\H lw=some (.lst (vz left))/\Is K H x1 (LN ps)/\(∀w∈left,w<ps.length)/\left.length<=900/\(∀i,ag 4000 (ps.getD i 0)) /\ ∀v H',ah H H'->Is K H' v (TW (aF ps left))->Q v H'
theorem Nw{lw:we}{left:List Nat}(e:H lw=some (.lst (vz left)))(h:Is K H v (LN ps))(hw:∀w∈left,w<ps.length)(hl:left.length<=900)(b:∀i,ag 4000 (ps.getD i 0))(q:∀v H',ah H H'->Is K H' v (TW (aF ps left))->Q v H'):V_ K [.ref lw,v] H Q E:=⟨_,_,rfl,lw,left,ps,rfl,e,h,hw,hl,b,q⟩
theorem zxl(ps:List Rat)(l:List Nat):(aF ps l).length<=l.length:=WK _ _
theorem UB(T:Txt K mg a):aG P w K mg base aS 2 a.Ip a.Hl yy (V_ K):=by
 refine T.AR.F.ok zot ?_ ?_;wtm_at "b2";refine⟨_,(av (aB (dY (show aJ _ (.type "tuple") (eQ K)from fX) rfl T.h0i ee (ae (d7 rfl (cR.by (N':=["worm","phases"]) (src:=[none,some 1]) rfl (by kernel_rfl)) (gI (pv 0)) (λ_ _ _ _ _=>(bP (i:=0) (of_decide_eq_true (by kernel_rfl)) rfl (Or.inl rfl))) (λ_ _ _ _ _=>(tX (cU (cz (au (gZ (K:=K) (mg:=mg) (a:=a) T) hr T.gk (ae (dH (show gM _ (dw K)from dh) (pv 1) (pv 0) (λ_ _=>rfl)) (ae (b_ (v:=.ref a.dZ) rfl T.fg rfl) af))))))) (λ_ _ _ _ _=>(pv 0))) af)))),?_⟩;wtm_at "cl";rw[show start CG [x0,x1]=[some x0,some x1]from rfl];obtain⟨lw,left,ps,rfl,e1,hx,hw,hl,bp,q⟩:=h;o_head zX (.of e1) (λD i ys σ' H'=>(∃o,σ'=[o,some x1])/\H D=none/\ah H H'/\H' D=some (.lst (vz (aF ps (left.take i))))) (λD H' n s e=>⟨⟨_,rfl⟩,n,s,e⟩) (λD i ys σ' H' h=>h.2.2.1.seq (.of e1)) ?_ ?_
 ·rintro D i x ys σ' H1 hx' ⟨⟨o,rfl⟩,n,S1,e2⟩
  obtain⟨hi,rfl⟩:=Ey hx';have hx1:=hx.by S1;have hlt:=hw _ (vK hi);have bw:=bp left[i];have hle:=zxl ps (left.take i);have htl:(left.take i).length<=900:=by rw[Wq];lia
  o_head kW hx1 (by lia) (by lia) (λv iv=>?_);rw[wP]at iv;generalize hww:left[i]=ww at *;k_few
  ·rename_i z
   refine lJ e2 (by rw[j_];lia) (λH6 E6 e6=>⟨⟨_,rfl⟩,n,S1.grow n E6,?_⟩);rw[pq hi,hww,zxX z,EJ];exact e6
  ·rename_i z
   refine⟨[],⟨_,rfl⟩,n,S1,?_⟩;rw[pq hi,hww,zwH (by first | exact z | exact qy.mp z)];exact e2
 ·rintro D ys σ' H1 ⟨_,n,S1,e2⟩
  rw[j_,Wr]at e2;o_head sR (.of e2) (λl H2 n2 S2 e3=>?_);exact q _ H2 (S1.trans S2) (DK.mpr ⟨l,rfl,.of e3⟩)
def Mg(K:wb):Sp:=λvs H Q _=>∃x0,vs=[x0] /\ ∃(a b:Rat)(xs:List Rat)(m:Nat),Is K H x0 (aZ a b xs)/\ag 10 a/\ag 10 b/\1<=xs.length/\xs.length<=8/\Cm m xs/\m+2+21*xs.length<=3950 /\ ∀v H',ah H H'->Is K H' v (GD a b xs)->Q v H'
theorem DC{a:Rat}(h:Is K H v (aZ a b xs))(ba:ag 10 a)(bb:ag 10 b)(h1:1<=xs.length)(h8:xs.length<=8)(c:Cm m xs)(hm:m+2+21*xs.length<=3950)(q:∀v H',ah H H'->Is K H' v (GD a b xs)->Q v H'):Mg K [v] H Q E:=⟨_,rfl,a,b,xs,m,h,ba,bb,h1,h8,c,hm,q⟩
structure zCZ(K:wb)(a b:Rat)(xs:List Rat)(m:Nat)(H H':Hp)(vw:V)(lp lv ll:we)(left:List Nat)(ps:List Rat)(done:List (List Nat))(f:Nat)(pv wv:List V)(vwave:V):Prop where
 same:ah H H'
 hp:H lp=none
 hv:H lv=none
 iw:Is K H' vw (N (1-cb xs))
 oG:lp≠lv
 Cq:ll≠lp
 z6:ll≠lv
 ep:H' lp=some (.lst pv)
 tp:ak K H' pv (ps.map N)
 el:H' ll=some (.lst (vz left))
 ev:H' lv=some (.lst wv)
 tv:ak K H' wv (done.map TW)
 iv:Is K H' vwave (TW (aF ps left))
 nd:left.Nodup
 lt:∀w∈left,w<xs.length
 len:ps.length=xs.length
 fl:left.length<=f
 dl:done.length+left.length<=xs.length
 cm:Cm (m+2+21*(xs.length-left.length)) ps
 w1:done++(cS a b f ps left).1=cE a b xs
 w2:(cS a b f ps left).2=(eC a b xs).2
def NF(K:wb)(a b:Rat)(xs:List Rat)(m:Nat)(H:Hp)(x0 vw:V)(lp lv:we)(k:Nat)(σ':L2.St)(H':Hp):Prop:=∃(ll:we)(left:List Nat)(ps:List Rat)(done:List (List Nat))(f:Nat)(pv wv:List V)(vwave:V)(o6 o7:Option V),σ'=[some x0,some vw,some (.ref lp),some (.ref ll),some (.ref lv),some vwave,o6,o7,none]/\k=left.length/\zCZ K a b xs m H H' vw lp lv ll left ps done f pv wv vwave
theorem rh{q:we}{o:HO}(h:H p=none)(k:H q=some o):p≠q:=λe=>by rw[e,k]at h;cases h
theorem zxn{β γ:Type}(f : α -> β)(g : β -> γ)(l:List α):(!((l.map f).map g).isEmpty) = !l.isEmpty:=by cases l<;>rfl
theorem zy5{l:List α}(h:l≠[]):(!l.isEmpty)=true:=by cases l with
 | nil=>exact absurd rfl h
 | cons x l=>rfl
theorem FV(T:Txt K mg a):aG P w K mg base aS 4 a.mR a.JN tf (Mg K):=by
 refine T.sC.F.ok iN ?_ ?_;wtm_at "b1"
 refine⟨_,(ar (az 1 iN.nd (au (sO T) hr T.oM (ae (b_ (v:=.ref a.dZ) rfl T.fg rfl) (ae (au (U2 T) hr T.AV (ae (ao (pv 0)) af)) af))))
     (ar (mF (i:=2) iN.nd rfl (Or.inl rfl) rfl (cR.by (N':=["phase","wait"]) (src:=[none,some 1]) rfl (by kernel_rfl)) (j7 (ao (pv 0))) (λ_ _ _ _ _=>(bP (i:=0) (of_decide_eq_true (by kernel_rfl)) rfl (Or.inl rfl))) (λ_ _ _ _ _=>dM) (λ_ _ _ _ _=>(au (gu (K:=K) (mg:=mg) (a:=a) T) hr T.fQ (ae (pv 0) (ae (pv 1) af)))))
     (ar (az 3 iN.nd (Zz rfl rfl T.h0m rfl T.h0j (ae (bE (show aJ _ (.builtin "len") (dj K)from d6) rfl T.h0r dU (ae (pv 2) af)) af)))
     (ar (az 4 iN.nd (fb af))
     (ar (az 5 iN.nd (au (UB T) hr T.AR (ae (pv 3) (ae (pv 2) af))))
     (ar (nE vP (zB (pv 5)) (ar (nA (nX WT WQ WR lH (pv 4) (ae (pv 5) af)))
     (ar (az 3 iN.nd (d7 rfl (cR.by (N':=["worm","wave"]) (src:=[none,some 5]) rfl (by kernel_rfl)) (gI (pv 3)) (λ_ _ _ _ _=>(bP (i:=0) (of_decide_eq_true (by kernel_rfl)) rfl (Or.inl rfl))) (λ_ _ _ _ _=>(tX (bZ (show aN _ (wT .NotIn) (kJ K true)from zwZ) (pv 0) (pv 1) (by with_unfolding_all rfl)))) (λ_ _ _ _ _=>(pv 0))))
     (ar (az 6 iN.nd (au (zm T) hr T.oK (ae (ao (pv 0)) (ae (bE (show aJ _ (.builtin "len") (dj K)from d6) rfl T.h0r dU (ae (pv 5) af)) af))))
     (ar (g6 vP rfl (gI (pv 3)) (bP (i:=7) iN.nd rfl (Or.inl rfl)) (av (nH (au (M0 T) hr T.AS (ae (pv 6) (ae (dH dh (pv 2) (pv 7) (λ_ _=>rfl)) af))) (p9 (pv 2) (pv 7) pb))))
     (av (az 5 iN.nd (au (UB T) hr T.AR (ae (pv 3) (ae (pv 2) af))))))))))
     (ar (mF (i:=8) iN.nd rfl (Or.inl rfl) rfl (cR.by (N':=["worm","phase","left"]) (src:=[none,none,some 3]) rfl (by kernel_rfl)) (zxF rfl T.h0f (ae (pv 2) af)) (λ_ _ _ _ _=>by exact(show PG _ _ (lZ K 2 _)from my (n:=2) rfl (gx (bP (i:=0) (of_decide_eq_true (by kernel_rfl)) rfl (Or.inl rfl)) (gx (bP (i:=1) (of_decide_eq_true (by kernel_rfl)) rfl (Or.inl rfl)) lI)))) (λ_ _ _ _ _=>dM) (λ_ _ _ _ _=>(tP (bZ (show aN _ (wT .In) (kJ K false)from zDr) (pv 0) (pv 2) (by with_unfolding_all rfl)) (pv 1) (b_ (v:=.ref a.dy) rfl T.dW rfl))))
     (av (aB (br (ae (pv 1) (ae (dY (show aJ _ (.type "tuple") (eQ K)from fX) rfl T.h0i ee (ae (pv 4) af)) (ae (br (ae (ao (pv 0)) (ae (dY (show aJ _ (.type "tuple") (eQ K)from fX) rfl T.h0i ee (ae (pv 8) af)) af))) af))))))))))))),?_⟩
 wtm_at "cl";rw[show start SA [x0]=[some x0,none,none,none,none,none,none,none,none]from rfl];obtain⟨ra,rb,xs,m,hw,ba,bb,h1,h8,cm,hm,q⟩:=h;have bx:∀i,ag 4000 (xs.getD i 0):=λi=>(cm.get i).mono (by lia)
 have bm:ag 3950 (cb xs):=(cm.d4 (ic h1)).mono (by lia);o_head aA (j:=1) hw rfl (λvp ip=>?_);o_head Lw (.inr ip) h1 bx (λvm im=>?_);k_few;rename_i vw H1 S1 iw;refine aA (j:=1) (hw.by S1) rfl (λvp1 ip1=>?_);obtain⟨ap,us,rfl,hu,tu⟩:=bX.mp ip1;refine jo (o0:=none) (tl:=[some vw]) hu rfl (λj y H'=>Is K H' y (N ((bN xs).getD j 0))) ?_ ?_
 . intro D i x ys o H2 hx inv
   obtain⟨hi,ix⟩:=dC tu hx;have S2:=inv.same;have ix2:=ix.by S2;have iw2:=iw.by S2;have bi:=bx i;have bw:ag 3952 (1-cb xs):=(ag.one.sub bm).mono (by decide);k_few;rename_i v3 H3 S3 i3;exact d5 inv (by lia) fK ⟨_,rfl⟩ S3 (by rw[zw3 hi];exact i3)
 . intro lp ys H2 hnp S2 hD hl hr
   have hl':ys.length=(bN xs).length:=by rw[hl,tu.length,wm,fH]
   have tp:ak K H2 ys ((bN xs).map N):=gc hl' hr;have iw2:=iw.by S2;have T2:=S1.trans S2;have hpH:H lp=none:=jt S1 hnp;clear hl hr hu tu ip1 ip im iw S1 S2 hnp;o_head Z9 (dE hD tp) ?_;rw[fH];o_head ZQ (n:=xs.length) (by lia) (λll H3 n3 S3 e3=>?_);o_head fB (by simp) (λlv H4 n4 S4 e4=>?_);k_few;have hD4:=S4 _ _ (S3 _ _ hD);have tp4:ak K H4 ys ((bN xs).map N):=ak.same (S3.trans S4) _ _ tp;have kI:Cm (m+2) (bN xs):=(Cm.rise (h:=0) (cm.kA (ys:=0::xs) λy hy=>by rcases wF.mp hy with rfl | hy;(exact .inr rfl);exact .inl hy) (ic h1)).kA λy hy=>.inl (wy _ hy)
   have b3:∀i,ag 4000 ((bN xs).getD i 0):=λi=>(kI.get i).mono (by lia)
   refine Nw (S4 _ _ e3) (dE hD4 tp4) (λw hw'=>by rw[fH];exact wH.mp hw') (by rw[vx];lia) b3 (λvwave H5 S5 i5=>?_);have T5:=T2.trans (S3.trans (S4.trans S5));have hvH:H lv=none:=jt (T2.trans S3) n4;have oG:lp≠lv:=(rh n4 (S3 _ _ hD)).symm;have Cq:ll≠lp:=rh n3 hD;have z6:ll≠lv:=(rh n4 e3).symm
   have G0:NF K ra rb xs m H x0 vw lp lv xs.length [some x0,some vw,some (.ref lp),some (.ref ll),some (.ref lv),some vwave,none,none,none] H5:=by
     refine⟨ll,wt xs.length,bN xs,[],xs.length,ys,[],vwave,none,none,rfl,by rw[vx],T5,hpH,hvH,iw2.by (S3.trans (S4.trans S5)),oG,Cq,z6,S5 _ _ hD4,ak.same S5 _ _ tp4,S5 _ _ (S4 _ _ e3),S5 _ _ e4,.nil,i5,W5,λw hw'=>wH.mp hw',fH xs,by rw[vx];exact wo _,by rw[vx];simp,kI.mono (by lia),?_,rfl⟩;rw[QD];rfl
   clear T5 S5 S4 S3 T2 hD hD4 tp tp4 b3 kI n3 n4 e3 e4 iw2 i5 hl';o_head zI (NF K ra rb xs m H x0 vw lp lv) _ G0 ?_;clear G0 oG Cq z6;rintro k σ' H6 ⟨ll,left,ps,done,f,pv,wv,vwave,o6,o7,rfl,hk,G⟩;have bp:∀i,ag 4000 (ps.getD i 0):=λi=>(G.cm.get i).mono (by have:=G.dl;lia)
   o_head zBE (show Is K H6 vwave (.tuple (((aF ps left).map λ(w:Nat)=>(w:Int)).map PyData.int))from G.iv) ?_;rw[zxn]
   by_cases he:aF ps left=[]
   . rw[show(!(aF ps left).isEmpty)=false by rw[he];rfl]
     refine nR ?_;have w1:=G.w1;have w2:=G.w2;rw[ny he]at w1 w2;rw[Wh]at w1;have eps:ps=(eC ra rb xs).2.2:=congrArg Uo w2;have elf:left=(eC ra rb xs).2.1:=congrArg Um w2;have hph:jq left ps=dA ra rb xs:=by rw[dA,<- eps,<- elf]
     o_head zxS (.of G.ep) (o0:=none) (o0':=none) (tl:=[some (.ref ll)]) rfl (λj y H'=>Is K H' y (N ((jq left ps).getD j 0))) fK ?_ ?_
     . intro D i x zs o1 o2 H7 c hx inv hc
       obtain⟨hi,ix⟩:=dC G.tp hx;have S7:=inv.2.2.1;refine mm (.of hc) rfl ?_;o_head zA4 (aO.of (S7 _ _ G.el)) ?_;k_few
       . rename_i z
         exact tO inv (by have:=G.len;lia) fK ⟨_,_,rfl⟩ (ah.refl _) (by rw[nG hi,if_pos z];exact ix.by S7)
       . rename_i z
         exact tO inv (by have:=G.len;lia) fK ⟨_,_,rfl⟩ (ah.refl _) (by rw[nG hi,if_neg z];exact d9 0 (T.eU _) rfl rfl)
     . intro D zs H7 hn S7 hD hl hr
       have hpl:=G.tp.length;rw[wm]at hpl;have tz:ak K H7 zs ((jq left ps).map N):=gc (by rw[hl,Sv,hpl]) hr;rw[hph]at tz;have tv:=ak.same S7 _ _ G.tv;have ev:=S7 _ _ G.ev;have iw7:=G.iw.by S7;have T7:=G.same.trans S7;rw[w1]at tv;o_head iQ (cC.mpr ⟨lv,wv,rfl,.of ev,tv⟩) (λv8 H8 S8 i8=>?_);o_head aA (j:=0) (hw.by (T7.trans S8)) rfl (λv9 i9=>?_);o_head iQ (dE (S8 _ _ hD) (ak.same S8 _ _ tz)) (λv10 H10 S10 i10=>?_);o_head cB (ds:=[R ra rb,TN (dA ra rb xs)]) (by simp) (.cons (i9.by S10) (.cons i10 .nil)) (λv11 H11 S11 i11=>?_);o_head cB (ds:=[N (1-cb xs),nO (cE ra rb xs),aZ ra rb (dA ra rb xs)]) (by simp) (.cons (iw7.by (S8.trans (S10.trans S11))) (.cons (i8.by (S10.trans S11)) (.cons i11 .nil))) (λv12 H12 S12 i12=>?_);exact q v12 H12 (T7.trans (S8.trans (S10.trans (S11.trans S12)))) i12
   . rw[zy5 he]
     refine nv ?_;refine Ah ?_;have hwl:=G.tv.length;rw[wm]at hwl;have hdl:=G.dl;have hlen:=Fv ps left;have hpos:0<(aF ps left).length:=qf.mpr he;o_head mr (aO.of G.ev) ?_;o_head lR G.ev (by lia) (λH7 E7 e7=>?_);have K7:bG H6 H7:=E7.keep G.ev;have S7:ah H H7:=G.same.grow G.hv E7;have el7:=E7 _ _ G.z6 G.el;have ep7:=E7 _ _ G.oG G.ep;have tp7:=ak.keep K7 _ _ (gq _) G.tp;have iv7:=G.iv.jm K7 (F0 _);have iw7:=G.iw.gg K7
     have tv7:ak K H7 (wv++[vwave]) ((done++[aF ps left]).map TW):=by
       rw[vA];exact(ak.keep K7 _ _ (yC _) G.tv).snoc iv7
     obtain⟨aw,rfl,hsw⟩:=DK.mp iv7;o_head zX (.of el7) (λD i ys σ' H'=>(∃o,σ'=[o,some (.ref aw)])/\H7 D=none/\ah H7 H'/\H' D=some (.lst (vz (bV (left.take i) (aF ps left))))) (λD H' n s e=>⟨⟨_,rfl⟩,n,s,e⟩) (λD i ys σ' H' h=>h.2.2.1.seq (.of el7)) ?_ ?_
     . rintro D i x ys σ' H8 hx' ⟨⟨o,rfl⟩,n,S8,e8⟩
       obtain⟨hi,rfl⟩:=Ey hx';have hle:(bV (left.take i) (aF ps left)).length<=(left.take i).length:=WK _ _;rw[Wq]at hle;o_head Zm (S8.j9 hsw) ?_;generalize hww:left[i]=ww at *;k_few
       . rename_i z
         refine lJ e8 (by rw[j_];lia) (λH9 E9 e9=>⟨⟨_,rfl⟩,n,S8.grow n E9,?_⟩);rw[pq hi,hww,zwK z,EJ];exact e9
       . rename_i z
         refine⟨[],⟨_,rfl⟩,n,S8,?_⟩;rw[pq hi,hww,zuK (by first | exact z | exact qy.mp z)];exact e8
     . rintro D ys σ' H8 ⟨_,n8,S8,e8⟩
       rw[j_,Wr]at e8;have nD1:D≠lp:=rh n8 ep7;have nD2:D≠lv:=rh n8 e7;have T8:=S7.trans S8;have iv8:=iv7.by S8;o_head aA (j:=0) (hw.by T8) rfl (λvr ir=>?_);o_head NL iv8 ?_;o_head CZ ir ba bb (by lia) (by lia) (λvpush H9 S9 ipush=>?_);rw[wP]at ipush;have bf:ag 700 (ra^(aF ps left).length):=(ba.pow _).mono (by lia);have bg:ag 1500 (aD ra rb (aF ps left).length):=(ba.aD bb _).mono (by lia);have T9:=S8.trans S9;have ep9:=T9 _ _ ep7;have tp9:ak K H9 pv (ps.map N):=ak.same T9 _ _ tp7;have e9:=S9 _ _ e8;have ev9:=T9 _ _ e7;have ndl:=mY (wave:=aF ps left) G.nd;have ltl:=m6 (wave:=aF ps left) G.lt;generalize hL:bV left (aF ps left)=left' at *;o_head Fn (.of e9) (λi σ'' H''=>∃o pv',σ''=[some x0,some vw,some (.ref lp),some (.ref D),some (.ref lv),some (.ref aw),some vpush,o,none]/\Exc lp H9 H''/\H'' lp=some (.lst pv')/\ak K H'' pv' ((cX (ra^(aF ps left).length) (aD ra rb (aF ps left).length) ps (left'.take i)).map N)) ⟨_,pv,rfl,Exc.refl _ _,ep9,tp9⟩ (λi σ'' H'' _ ⟨_,_,_,e,_⟩=>.of (e _ _ nD1 e9)) ?_ ?_
       . rintro i x σ'' H10 hx' ⟨o,pv',rfl,E10,e10,t10⟩
         obtain⟨hi,rfl⟩:=Ey hx';have K10:bG H9 H10:=E10.keep ep9;have hlt:=ltl _ (vK hi);have hpl:=iP (ra^(aF ps left).length) (aD ra rb (aF ps left).length) (left'.take i) ps;have hps:=G.len
         have bq:ag 4000 ((cX (ra^(aF ps left).length) (aD ra rb (aF ps left).length) ps (left'.take i)).getD left'[i] 0):=by
           have nt:(left'.take i).Nodup:=ndl.sublist (XW ..);rw[jB _ _ _ _ nt (λw hw'=>by rw[hps];exact ltl w (ut _ _ hw'))];rw[if_neg]
           . exact bp _
           . intro hm
             obtain⟨j,hj,ej⟩:=wX hm;rw[Wq]at hj;rw[X0]at ej;exact absurd ej ((We.mp ndl) j i (by lia) hi (by lia))
         have ip10:=ipush.jm K10 (C3 _ _);generalize hww:left'[i]=ww at *;generalize hqs:cX (ra^(aF ps left).length) (aD ra rb (aF ps left).length) ps (left'.take i)=qs at *;o_head kW (dE e10 t10) (by lia) (by lia) (λv11 i11=>?_);rw[wP]at i11;o_head P7 ip10 i11 bf bg (bq.mono (by decide)) (λv12 H12 S12 i12=>?_);have e12:=S12 _ _ e10;have hvl:=t10.length;rw[wm]at hvl;o_head As (j:=ww) e12 (by unfold h_;rw[if_pos (by lia),if_pos (by lia)];simp) (λH13 E13 e13=>?_);refine⟨_,_,rfl,E10.trans (S12.exc.trans E13),e13,?_⟩;have K13:=E13.keep e12;rw[pq hi,hww,zsR,hqs];refine gc (by rw[VC,VC];exact hvl) (λj v hj=>?_);rw[VN]at hj
         by_cases hjw:ww=j
         . subst hjw
           rw[if_pos rfl,if_pos (by lia)]at hj;cases hj;rw[KJ (by lia)];exact i12.gg K13
         . rw[if_neg hjw]at hj
           rw[PM hjw];obtain⟨_,ij⟩:=dC t10 hj;exact(ij.by S12).gg K13
       . rintro σ'' H10 ⟨o,pv',rfl,E10,e10,t10⟩
         rw[j_,Wr]at t10;have K10:bG H9 H10:=E10.keep ep9;have hps:=G.len
         have cm10:Cm (m+2+21*(xs.length-left'.length)) (cX (ra^(aF ps left).length) (aD ra rb (aF ps left).length) ps left'):=by
           have c0:Cm (m+2+21*(xs.length-left.length)) (0::ps):=G.cm.kA λy hy=>by rcases wF.mp hy with rfl | hy;(exact .inr rfl);exact .inl hy
           exact((c0.wave ba bb (aF ps left).length ndl (λw hw'=>by rw[hps];exact ltl w hw')).kA λy hy=>.inl (wy _ hy)).mono (by lia)
         have hpl:=iP (ra^(aF ps left).length) (aD ra rb (aF ps left).length) left' ps;have w1:=G.w1;have w2:=G.w2;have hfl:=G.fl;obtain⟨f',rfl⟩:∃f',f=f'+1:=⟨f-1,by lia⟩;rw[jz he,hL]at w1 w2;generalize hqs:cX (ra^(aF ps left).length) (aD ra rb (aF ps left).length) ps left'=qs at *;k_few;have e10':=E10 _ _ nD1 e9;refine Nw e10' (dE e10 t10) (λw hw'=>by rw[hpl,hps];exact ltl w hw') (by lia) (λi=>(cm10.get i).mono (by lia)) (λvwave2 H11 S11 i11=>?_);k_few;have KA:=T9.keep.trans K10;refine⟨left'.length,by lia,D,left',qs,done++[aF ps left],f',pv',wv++[V.ref aw],vwave2,_,_,rfl,rfl,?_⟩;exact⟨((S7.trans T9).grow G.hp E10).trans S11,G.hp,G.hv,(iw7.gg KA).by S11,G.oG,nD1,nD2,S11 _ _ e10,ak.same S11 _ _ t10,S11 _ _ e10',S11 _ _ (E10 _ _ G.oG.symm ev9),ak.same S11 _ _ (ak.keep KA _ _ (yC _) tv7),i11,ndl,ltl,by rw[hpl];exact hps,by lia,by rw[wR];simp;lia,cm10,by rw[Vh];exact w1,w2⟩
def O6(K:wb):Sp:=λvs H Q _=>∃x0 x1,vs=[x0,x1] /\ ∃(a b:Rat)(xs:List Rat)(n:Int),x1=.int n/\Is K H x0 (aZ a b xs)/\ag 10 a/\ag 10 b/\1<=xs.length/\xs.length<=8/\0<=n/\n<=40/\(∀i,i<=n.toNat->Cm 3700 (aE a b xs i::ai a b xs i)) /\ ∀l H',H l=none->ah H H'->Is K H' (.ref l) (.list (gy a b xs n.toNat))->Q (.ref l) H'
theorem N4{a:Rat}{n:Int}(h:Is K H v (aZ a b xs))(ba:ag 10 a)(bb:ag 10 b)(h1:1<=xs.length)(h8:xs.length<=8)(n0:0<=n)(n1:n<=40)(c:∀i,i<=n.toNat->Cm 3700 (aE a b xs i::ai a b xs i))(q:∀l H',H l=none->ah H H'->Is K H' (.ref l) (.list (gy a b xs n.toNat))->Q (.ref l) H'):O6 K [v,.int n] H Q E:=⟨_,_,rfl,a,b,xs,n,rfl,h,ba,bb,h1,h8,n0,n1,c,q⟩
theorem O5(T:Txt K mg a):aG P w K mg base aS 5 a.JT a.IC sT (O6 K):=by
 refine T.A0.F.ok kS ?_ ?_;wtm_at "b2"
 refine⟨_,(ar (az 2 kS.nd (fb af))
     (ar (az 3 kS.nd (b_ (v:=.ref a.dy) rfl T.dW rfl))
     (ar (az 4 kS.nd (pv 0))
     (ar (g6 vP rfl (jR rfl T.h0j (ae (pv 1) af)) (bP (i:=5) kS.nd rfl (Or.inl rfl)) (ar (az 6 kS.nd (au (FV T) hr T.sC (ae (pv 4) af)))
     (ar (az 3 kS.nd (au (gu T) hr T.fQ (ae (pv 3) (ae (ao (pv 6)) af))))
     (ar (az 4 kS.nd (ao (pv 6)))
     (av (nA (nX WT WQ WR lH (pv 2) (ae (br (ae (pv 3) (ae (ao (pv 6)) (ae (ao (pv 4)) af)))) af))))))))
     (av (aB (pv 2))))))),?_⟩
 wtm_at "cl";rw[show start Rc [x0,x1]=[some x0,some x1,none,none,none,none,none]from rfl];obtain⟨ra,rb,xs,n,rfl,hw,ba,bb,h1,h8,n0,n1,cm,q⟩:=h;o_head fB (by simp) (λlr H1 nr S1 e1=>?_);o_head lD (n:=n) (by lia) (by lia) (λi σ H'=>∃vh vs o5 o6 us,σ = [some x0,some (.int n),some (.ref lr),some vh,some vs,o5,o6]/\ah H H'/\H' lr=some (.lst us)/\ak K H' us (gy ra rb xs i)/\Is K H' vh (N (aE ra rb xs i))/\Is K H' vs (aZ ra rb (ai ra rb xs i))) ⟨_,_,_,_,[],rfl,S1,e1,.nil,d9 0 (T.eU _) rfl rfl,hw.by S1⟩ ?_ ?_
 . rintro i σ H2 hi ⟨vh,vs,o5,o6,us,rfl,S2,e2,t2,ih,iw⟩
   have hc:=cm i (by lia);have hpl:=aY ra rb xs i;have bh:ag 3700 (aE ra rb xs i):=hc.d4 (wz ..);have hc':Cm 3700 (ai ra rb xs i):=hc.kA λy hy=>.inl (wy _ hy)
   have bw:ag 3702 (1-cb (ai ra rb xs i)):=(ag.one.sub (hc'.d4 (ic (by lia)))).mono (by decide);o_head DC iw ba bb (by lia) (by lia) hc' (by rw[hpl];lia) (λv3 H3 S3 i3=>?_);o_head aA (j:=0) i3 rfl (λv4 i4=>?_);have ih3:=ih.by S3;k_few;rename_i v5 H5 S5 i5;refine aA (j:=2) (i3.by S5) rfl (λv6 i6=>?_);have T5:=S3.trans S5;o_head mr (aO.of (T5 _ _ e2)) ?_;o_head aA (j:=1) (i3.by S5) rfl (λv7 i7=>?_);o_head aA (j:=1) i6 rfl (λv8 i8=>?_);o_head cB (ds:=[N (aE ra rb xs (i+1)),nO (cE ra rb (ai ra rb xs i)),TN (ai ra rb xs (i+1))]) (by simp) (.cons i5 (.cons i7 (.cons i8 .nil))) (λv9 H9 S9 i9=>?_);k_few;have T9:=T5.trans S9;have e9:=T9 _ _ e2;have hul:=t2.length;rw[Fo]at hul;refine lR e9 (by lia) (λH10 E10 e10=>?_);have K10:=E10.keep e9;have i10:=i9.jm K10 (NY _ _ _)
   have t10:ak K H10 (us++[v9]) (gy ra rb xs (i+1)):=by
     rw[Ez];exact(ak.keep K10 _ _ (zqv ..) (ak.same T9 _ _ t2)).snoc i10
   exact⟨_,_,_,_,_,rfl,(S2.trans T9).grow nr E10,e10,t10,(i5.by S9).gg K10,(i6.by S9).jm K10 (LO _ _ _)⟩
 . rintro σ H2 ⟨vh,vs,o5,o6,us,rfl,S2,e2,t2,ih,iw⟩
   k_few;exact q lr H2 nr S2 (cC.mpr ⟨lr,us,rfl,.of e2,t2⟩)
def BD(a b:Rat)(xs:List Rat)(n:Nat):wC:=.tuple [N (aE a b xs n),aZ a b (ai a b xs n)]
def O2(K:wb):Sp:=λvs H Q _=>∃x0 x1,vs=[x0,x1] /\ ∃(a b:Rat)(xs:List Rat)(n:Int),x1=.int n/\Is K H x0 (aZ a b xs)/\ag 10 a/\ag 10 b/\1<=xs.length/\xs.length<=8/\0<=n/\n<=40/\(∀i,i<=n.toNat->Cm 3700 (aE a b xs i::ai a b xs i)) /\ ∀v H',ah H H'->Is K H' v (BD a b xs n.toNat)->Q v H'
theorem Dy{a:Rat}{n:Int}(h:Is K H v (aZ a b xs))(ba:ag 10 a)(bb:ag 10 b)(h1:1<=xs.length)(h8:xs.length<=8)(n0:0<=n)(n1:n<=40)(c:∀i,i<=n.toNat->Cm 3700 (aE a b xs i::ai a b xs i))(q:∀v H',ah H H'->Is K H' v (BD a b xs n.toNat)->Q v H'):O2 K [v,.int n] H Q E:=⟨_,_,rfl,a,b,xs,n,rfl,h,ba,bb,h1,h8,n0,n1,c,q⟩
theorem lE{d:wC}(h:Is K H v (.list (ds++[d])))(q:∀x,Is K H x d->Q x H):dw K v (.int (-1)) H Q:=by
 obtain⟨a,xs,rfl,hs,t⟩:=cC.mp h;have hl:=t.length;rw[wR,vV]at hl;obtain⟨x,e1,hx⟩:=t.get (i:=ds.length) (d:=d) (by rw[vi (wo _),Vf];rfl);exact jb hs (ED (by rw[hl];exact e1)) (q x hx)
theorem L5(T:Txt K mg a):aG P w K mg base aS 6 a.behind a.Jb yp (O2 K):=by
 refine T.A5.F.ok CA ?_ ?_;wtm_at "b2"
 refine⟨_,(ar (az 2 CA.nd (au (O5 T) hr T.A0 (ae (pv 0) (ae (pv 1) af))))
     (ar (bQ (cU (zB (pv 2))) (av (aB (br (ae (b_ (v:=.ref a.dy) rfl T.dW rfl) (ae (pv 0) af))))) bR)
     (ar (az 3 CA.nd (dH dh (pv 2) (gr gH ay) (λ_ _=>rfl)))
     (av (aB (br (ae (ao (pv 3)) (ae (br (ae (ao (pv 0)) (ae (ao (pv 3)) af))) af)))))))),?_⟩
 wtm_at "cl";rw[show start NN [x0,x1]=[some x0,some x1,none,none]from rfl];obtain⟨ra,rb,xs,n,rfl,hw,ba,bb,h1,h8,n0,n1,cm,q⟩:=h;o_head N4 hw ba bb h1 h8 n0 n1 cm (λlr H1 nr S1 i1=>?_);o_head CH i1 ?_;generalize n.toNat=k at *;cases k with
 | zero =>
   rw[show(!(gy ra rb xs 0).isEmpty)=false from rfl];o_head cB (ds:=[N 0,aZ ra rb xs]) (by simp) (.cons (d9 0 (T.eU _) rfl rfl) (.cons (hw.by S1) .nil)) (λv H2 S2 i2=>?_);exact q v H2 (S1.trans S2) i2
 | succ k =>
   rw[Ez]at i1;rw[show(!(gy ra rb xs (k+1)).isEmpty)=true by rw[Ez];simp];o_head lE i1 (λv2 i2=>?_);have i2:Is K H1 v2 (yk (aE ra rb xs (k+1)) (cE ra rb (ai ra rb xs k)) (ai ra rb xs (k+1))):=i2;o_head aA (j:=0) i2 rfl (λv3 i3=>?_);o_head aA (j:=0) (hw.by S1) rfl (λv4 i4=>?_);o_head aA (j:=2) i2 rfl (λv5 i5=>?_);o_head cB (ds:=[R ra rb,TN (ai ra rb xs (k+1))]) (by simp) (.cons i4 (.cons i5 .nil)) (λv6 H6 S6 i6=>?_);o_head cB (ds:=[N (aE ra rb xs (k+1)),aZ ra rb (ai ra rb xs (k+1))]) (by simp) (.cons (i3.by S6) (.cons i6 .nil)) (λv7 H7 S7 i7=>?_);exact q v7 H7 (S1.trans (S6.trans S7)) i7
def UJ(K:wb):Sp:=λvs H Q _=>∃x0,vs=[x0] /\ ∃(a b:Rat)(xs:List Rat),Is K H x0 (aZ a b xs)/\Q (.bl (decide (0∈xs))) H
theorem EX{a:Rat}(h:Is K H v (aZ a b xs))(q:Q (.bl (decide (0∈xs))) H):UJ K [v] H Q E:=⟨_,rfl,a,b,xs,h,q⟩
theorem EH(T:Txt K mg a):aG P w K mg base aS 1 a.JV a.Il zP (UJ K):=by
 refine T.sa.F.ok zt8 ?_ ?_;wtm_at "b1";refine⟨_,(av (aB (e_ (show aN _ (wT .In) (pY K)from KO hu) (b_ (v:=.ref a.dy) rfl T.dW rfl) (ao (pv 0)) (by with_unfolding_all rfl)))),?_⟩;wtm_at "cl";rw[show start BJ [x0]=[some x0]from rfl];obtain⟨ra,rb,xs,hw,q⟩:=h;o_head aA (j:=1) hw rfl (λvp ip=>?_);exact zBi (d9 0 (T.eU _) rfl rfl) ip q
def bA(xs:List Rat):List Rat:=(aj xs).dropLast
def PJ(xs:List Rat):wC:=.tuple [TZ (aW xs),TN (bA xs)]
def Le(K:wb)(a:Ad):Sp:=λvs H Q E=>∃x0,vs=[x0] /\ ∃(ra rb:Rat)(xs:List Rat),Is K H x0 (aZ ra rb xs)/\xs.length<=8/\(∀i,ag 4000 (xs.getD i 0))/\(¬ 0∈xs->∀H',ah H H'->E (.ref a.oJ) none H')/\(0∈xs->∀v H',ah H H'->Is K H' v (PJ xs)->Q v H')
theorem yu(h:Is K H v (aZ ra rb xs))(h8:xs.length<=8)(bx:∀i,ag 4000 (xs.getD i 0))(qe:¬ 0∈xs->∀H',ah H H'->E (.ref a.oJ) none H')(q:0∈xs->∀v H',ah H H'->Is K H' v (PJ xs)->Q v H'):Le K a [v] H Q E:=⟨_,rfl,ra,rb,xs,h,h8,bx,qe,q⟩
theorem RZ:∀(n:Nat)(l:List Rat),(iO n l).length<=n
 | 0,l=>wo _
 | n+1,[]=>by rw[BE];simp
 | n+1,x::l=>by
  rw[mX (by simp),vo];have:=RZ n ((x::l).filter λy=>!decide (y=cb (x::l)));lia
theorem yj(T:Txt K mg a):aG P w K mg base (eW P w) 4 a.laid a.JY zN (Le K a):=by
 refine T.oN.F.oV yt ?_ ?_;wtm_at "b1"
 refine⟨_,(ar (bQ (cU (cz (au (EH T) hr T.sa (ae (pv 0) af)))) (av (Lc T.YU rfl rfl T.YT NS (ae iY af))) bR)
     (ar (az 1 yt.nd (au (Fj T) hr T.sk (ae (pv 0) af)))
     (ar (az 2 yt.nd (dY (show aJ _ (.type "tuple") (eQ K)from fX) rfl T.h0i ee (ae (d7 rfl (cR.by (N':=["row"]) (src:=[none]) rfl (by kernel_rfl)) (gI (pv 1)) (λ_ _ _ _ _=>(bP (i:=0) (of_decide_eq_true (by kernel_rfl)) rfl (Or.inl rfl))) (λ_ _ _ _ _=>dM) (λ_ _ _ _ _=>(bE (show aJ _ (.builtin "len") (dj K)from d6) rfl T.h0r dU (ae (mq (K:=K) dh (pv 0)) af)))) af)))
     (ar (az 3 yt.nd (dY (show aJ _ (.type "tuple") (eQ K)from fX) rfl T.h0i ee (ae (d7 rfl (cR.by (N':=["row"]) (src:=[none]) rfl (by kernel_rfl)) (gI (jZ j4 (pv 1) kj (j6 (gr gH ay)))) (λ_ _ _ _ _=>(bP (i:=0) (of_decide_eq_true (by kernel_rfl)) rfl (Or.inl rfl))) (λ_ _ _ _ _=>dM) (λ_ _ _ _ _=>(mq (K:=K) dh (pv 0)))) af)))
     (av (aB (br (ae (pv 2) (ae (pv 3) af))))))))),?_⟩
 wtm_at "cl";rw[show start LA [x0]=[some x0,none,none,none]from rfl];obtain⟨ra,rb,xs,hw,h8,bx,qe,q⟩:=h;have hvl:(aj xs).length<=8:=Wa (RZ _ _) h8;o_head EX hw ?_;k_few
 . rename_i z
   exact⟨by simp;decide,qe z H (ah.refl _)⟩
 . rename_i z
   have z:=(by first | exact z | exact qy.mp z:0∈xs);refine Ex hw h8 bx (λlr H1 us n1 S1 e1 t1=>?_);have hul:=t1.length;rw[wm]at hul;o_head ju (.of e1) (o0:=none) (tl:=[]) rfl (λj y _=>y=.int ((aW xs).getD j 0)) ?_ ?_
   . intro D j x ys o H2 hx inv
     obtain⟨hj,ix⟩:=jF t1 hx;rw[wm]at hj;rw[wa,wu,wc hj]at ix;have ix2:Is K H2 x (jT xs (aj xs)[j]):=ix.by inv.same;o_head aA (j:=1) ix2 rfl (λv3 i3=>?_);o_head NL i3 ?_;o_head d5 inv (by lia) (λ_ _ _ _ _ h=>h) ⟨_,rfl⟩ (ah.refl _) ?_;unfold aW;rw[wa,wu,wc hj]
     rfl
   . intro D ys H2 hn S2 hD hl hr
     have hys:ys=(aW xs).map V.int:=PL (by rw[hl,hul];unfold aW;rw[wm]) hr;subst hys;o_head sR (.of hD) (λl3 H3 n3 S3 e3=>?_);have i3:Is K H3 (.ref l3) (TZ (aW xs)):=rL.mpr ⟨l3,rfl,.of e3⟩;have T3:=S2.trans S3;o_head lQ (cC.mpr ⟨lr,us,rfl,.of (T3 _ _ e1),ak.same T3 _ _ t1⟩) (λl4 H4 us4 n4 S4 e4 t4=>?_);rw[DR,<- xc]at t4;o_head ju (.of e4) (o0:=none) (tl:=[]) rfl (λj y H'=>Is K H' y (N ((bA xs).getD j 0))) ?_ ?_
     . intro D' j x ys o H5 hx inv
       obtain⟨hj,ix⟩:=jF t4 hx;have hj2:j<(bA xs).length:=by rw[wm]at hj;exact hj
       have hj8:(bA xs).length<=8:=by unfold bA;rw[Xl];lia
       rw[wa,wu,wc (show j<(aj xs).dropLast.length from hj2)]at ix;have ix5:Is K H5 x (jT xs (bA xs)[j]):=ix.by inv.same;o_head aA (j:=0) ix5 rfl (λv6 i6=>?_);o_head d5 inv (by lia) fK ⟨_,rfl⟩ (ah.refl _) ?_;rw[wa,wc hj2];exact i6
     . intro D' zs H5 hn5 S5 hD5 hl5 hr5
       have hu4:=t4.length;rw[wm]at hu4;have tz:ak K H5 zs ((bA xs).map N):=gc (by rw[hl5,hu4];rfl) hr5;o_head iQ (dE hD5 tz) (λv6 H6 S6 i6=>?_);o_head cB (ds:=[TZ (aW xs),TN (bA xs)]) (by simp) (.cons (i3.by (S4.trans (S5.trans S6))) (.cons i6 .nil)) (λv7 H7 S7 i7=>?_);exact q z v7 H7 (S1.trans (T3.trans (S4.trans (S5.trans (S6.trans S7))))) i7
theorem zyE(h:Cm m xs)(i j:Nat):ag (m+2) (xs.getD i 0+(1-xs.getD j 0)):=by
 obtain⟨B,h0,h1,h2⟩:=h
 have key:∀i,∃t:Int,xs.getD i 0=wB t B/\Bd m t:=λi=>by
  rcases wA i xs.length with q | q
  ·rw[wa,wc q]
   exact h2 _ (vK q)
  ·rw[wa,wL q]
   exact⟨0,by simp,⟨by simp;exact Wi m⟩⟩
 obtain⟨t,et,bt⟩:=key i;obtain⟨z,ez,bz⟩:=key j
 have e2:wB t B+(1-wB z B)=wB (t+B-z) B:=by
  symm
  refine fY (by lia) ?_;have q1:=cY t (show B≠0 by lia);have q2:=cY z (show B≠0 by lia);have q3:((t+B-z:Int):Rat)=(t:Rat)+(B:Rat)-(z:Rat):=by push_cast;rfl
  rw[q3,<- q1,<- q2]
  grind
 rw[et,ez,e2];exact ag.divInt (by lia) (((bt.add h1).sub bz).mono (by lia)) (h1.mono (by lia))
def N0(K:wb):Sp:=λvs H Q _=>∃x0 x1 x2 x3,vs=[x0,x1,x2,x3] /\ ∃(a b:Rat)(n i:Int)(xs:List Rat)(m:Nat),x1=.int n/\x3=.int i/\Is K H x0 (R a b)/\Is K H x2 (LN xs)/\ag 10 a/\ag 10 b/\0<=n/\n<=64/\0<=i/\i<xs.length/\xs.length<=100/\Cm m xs/\m<=8000 /\
 ∀l H' us,H l=none->ah H H'->H' l=some (.lst us)->ak K H' us ((dF a b n.toNat xs i.toNat).map N)->Q (.ref l) H'
theorem ZE{a:Rat}{n i:Int}{w:V}(h1:Is K H v (R a b))(h2:Is K H w (LN xs))(b1:ag 10 a)(b2:ag 10 b)(h0:0<=n)(h64:n<=64)(i0:0<=i)(i1:i<xs.length)(hl:xs.length<=100)(hm:Cm m xs)(hm2:m<=8000)
  (q:∀l H' us,H l=none->ah H H'->H' l=some (.lst us)->ak K H' us ((dF a b n.toNat xs i.toNat).map N)->Q (.ref l) H'):N0 K [v,.int n,w,.int i] H Q E:=⟨_,_,_,_,rfl,a,b,n,i,xs,m,rfl,rfl,h1,h2,b1,b2,h0,h64,i0,i1,hl,hm,hm2,q⟩
theorem zli(T:Txt K mg a):aG P w K mg base aS 4 a.Hf a.GL Ak (N0 K):=by
 refine T.GS.F.ok Aq ?_ ?_;wtm_at "b4"
 refine⟨_,(ar (az 4 Aq.nd (au (sO T) hr T.oM (ae (b_ (v:=.ref a.dZ) rfl T.fg rfl) (ae (dH dh (pv 2) (pv 3) (λ_ _=>rfl)) af))))
     (ar (az 5 Aq.nd (au (zm T) hr T.oK (ae (pv 0) (ae (pv 1) af))))
     (ar (mF (i:=6) Aq.nd rfl (Or.inl rfl) rfl (cR.by (N':=["phase","push","wait"]) (src:=[none,some 5,some 4]) rfl (by kernel_rfl)) (gI (pv 2)) (λ_ _ _ _ _=>(bP (i:=0) (of_decide_eq_true (by kernel_rfl)) rfl (Or.inl rfl))) (λ_ _ _ _ _=>dM) (λ_ _ _ _ _=>(au (M0 (K:=K) (mg:=mg) (a:=a) T) hr T.AS (ae (pv 1) (ae (au (gu (K:=K) (mg:=mg) (a:=a) T) hr T.fQ (ae (pv 0) (ae (pv 2) af))) af)))))
     (ar (nH (b_ (v:=.ref a.dy) rfl T.dW rfl) (p9 (pv 6) (pv 3) pb))
     (av (aB (pv 6))))))),?_⟩
 wtm_at "cl";rw[show start Lg [x0,x1,x2,x3]=[some x0,some x1,some x2,some x3,none,none,none]from rfl];obtain⟨a',b',n,i,xs,m,rfl,rfl,hr',hx,ba,bb,h0,h64,i0,i1,hl,hm,hm2,q⟩:=h;have bi:ag 8000 (xs.getD i.toNat 0):=(hm.get _).mono hm2;have bw:ag 8002 (1-xs.getD i.toNat 0):=(ag.one.sub bi).mono (by decide);have bf:ag 700 (a'^n.toNat):=(ba.pow n.toNat).mono (by lia);have bg:ag 1500 (aD a' b' n.toNat):=(ba.aD bb n.toNat).mono (by lia);o_head kW hx i0 i1 (λv1 iv1=>?_);k_few;rename_i v2 H2 S2 iv2;refine CZ (hr'.by S2) ba bb h0 h64 (λv3 H3 S3 iv3=>?_);have T3:=S2.trans S3;have iv2':=iv2.by S3;have hx3:=hx.by T3;clear iv1 iv2 S2 S3 hx hr';k_few;obtain⟨lx,vs,rfl,hs,t⟩:=cC.mp hx3;refine ju hs (o0:=none) (tl:=[some v3,some v2]) rfl (λj v H=>Is K H v (N ((xs.map λx=>push a' b' n.toNat (x+(1-xs.getD i.toNat 0))).getD j 0))) ?_ ?_
 . rintro D j x ys o H1 hx' inv
   obtain⟨hj,ix⟩:=dC t hx';have ix1:=ix.by inv.same;have jv2:=iv2'.by inv.same;have jv3:=iv3.by inv.same;have bx:ag 8000 (xs.getD j 0):=(hm.get j).mono hm2;k_few;rename_i v4 H4 S4 iv4;refine P7 (jv3.by S4) iv4 bf bg ((zyE hm j i.toNat).mono (by lia)) (λv5 H5 S5 iv5=>?_);exact d5 inv (by lia) fK ⟨_,rfl⟩ (S4.trans S5) (by rw[m8 hj,hW];exact iv5)
 . rintro D ys H4 hn S4 e4 hl4 hr4
   have hvl:=t.length;rw[wm]at hvl;have hyl:ys.length=xs.length:=by lia
   clear hs t hx3 iv2' iv3;o_head As (j:=i.toNat) e4 (by unfold h_;rw[if_pos i0,if_pos (by lia)]) (λH5 E5 e5=>?_);k_few;have hD:=jt T3 hn;refine q D H5 _ hD ((T3.trans S4).grow hD E5) e5 (gc (by rw[VC,hV];exact hyl) λj v hv=>?_);rw[VN]at hv
   by_cases hij:i.toNat=j
   . subst hij
     rw[if_pos rfl,if_pos (by lia)]at hv;cases hv;rw[gJ _ _ _ _ _ _ (by lia),if_pos rfl];exact d9 0 (T.eU _) rfl rfl
   . rw[if_neg hij]at hv
     have hj:j<xs.length:=by
       rcases wA j ys.length with z | z
       . lia
       . rw[wL z]at hv;cases hv
     have hz:=hr4 j v hv;rw[m8 hj]at hz;rw[gJ _ _ _ _ _ _ hj,if_neg (WE hij)];exact hz.gg (E5.keep e4)
structure cW(a b:Rat)(ns:List Int)(xs:List Rat):Prop where
 ba:ag 10 a
 bb:ag 10 b
 n0:∀n∈ns,0<=n/\n<=64
 len:ns.length=xs.length+1
 bK:ns.length<=50
 cm:∃m,Cm m xs/\m+2*ns.length+21*upTo ns ns.length<=8000
theorem Ct : ∀{k j:Nat},k<=j->j<=ns.length->upTo ns k<=upTo ns j:=by
 intro k j hk
 induction j with
 | zero => intro _; have : k = 0 := by lia
           subst this;exact wo _
 | succ j ih =>
   intro hj;rcases wA k (j+1)with z | z
   . rw[rE (by lia)]
     have:=ih (by lia) (by lia);lia
   . have:k=j+1:=by lia
     subst this;exact wo _
theorem cW.row{a:Rat}(h:cW a b ns xs)(hk:k<=ns.length):∃m,Cm m (aM a b ns (xs++[0]) k)/\m<=8000:=by
 obtain⟨m,hm,hm2⟩:=h.cm;refine⟨_,(hm.snoc).rows h.ba h.bb k hk,?_⟩;have:=Ct (ns:=ns) hk (wo _);lia
def nY(a b:Rat)(ns:List Int)(xs:List Rat):List (List Rat):=(wt (ns.length+1)).map (aM a b ns (xs++[0]))
theorem pQ(a b:Rat)(ns:List Int)(xs:List Rat):(nY a b ns xs).length=ns.length+1:=by simp[nY]
theorem AA{a:Rat}(h:k<=ns.length):(nY a b ns xs).getD k []=aM a b ns (xs++[0]) k:=by
 unfold nY;rw[wa,wu,vM (by lia)]
 rfl
def Ta(K:wb):Sp:=λvs H Q _=>∃x0 x1 x2,vs=[x0,x1,x2] /\ ∃(a b:Rat)(ns:List Int)(xs:List Rat),Is K H x0 (R a b)/\Is K H x1 (TZ ns)/\Is K H x2 (TN xs)/\cW a b ns xs /\ ∀l H',ah H H'->Is K H' (.ref l) (LL (nY a b ns xs))->Q (.ref l) H'
theorem Bq{a:Rat}{w:V}(h1:Is K H v (R a b))(h2:Is K H w (TZ ns))(h3:Is K H u (TN xs))(ok:cW a b ns xs)(q:∀l H',ah H H'->Is K H' (.ref l) (LL (nY a b ns xs))->Q (.ref l) H'):Ta K [v,w,u] H Q E:=⟨_,_,_,rfl,a,b,ns,xs,h1,h2,h3,ok,q⟩
theorem Ca(T:Txt K mg a):aG P w K mg base aS 5 a.sy a.IU tD (Ta K):=by
 refine T.sh.F.ok zi ?_ ?_;wtm_at "b3"
 refine⟨_,(ar (az 3 zi.nd (fb (ae (aC cF (dY (show aJ _ (.type "list") (kz K)from pk) rfl T.h0m kH (ae (pv 2) af)) (fb (ae (b_ (v:=.ref a.dy) rfl T.dW rfl) af))) af)))
     (ar (g6 vP rfl (O9 rfl T.h0f (ae (pv 1) af)) (my (n:=2) rfl (gx (bP (i:=4) zi.nd rfl (Or.inl rfl)) (gx (bP (i:=5) zi.nd rfl (Or.inl rfl)) lI))) (av (nA (nX WT WQ WR lH (pv 3) (ae (au (zli T) hr T.GS (by exact(@ae _ _ _ _ _ (pv 0) (@ae _ _ _ _ _ (pv 5) (@ae _ _ _ _ _ (dH dh (pv 3) (pv 4) (λ_ _=>rfl)) (@ae _ _ _ _ _ (pv 4) af fO) eX) fO) fO))) af)))))
     (av (aB (pv 3))))),?_⟩
 wtm_at "cl";rw[show start Yt [x0,x1,x2]=[some x0,some x1,some x2,none,none,none]from rfl];obtain⟨a',b',ns,xs,hr',hn',hp',ok,q⟩:=h;have hlen:=ok.len;have hfew:=ok.bK;o_head yc hp' (λl1 H1 us hl1 S1 e1 t1=>?_);have hul:=t1.length;rw[wm]at hul;o_head fB (by simp) (λl2 H2 hl2 S2 e2=>?_);refine kn (S2 _ _ e1) e2 (Ve (jI (by simp;lia))) (λl3 H3 hl3 S3 e3=>?_);o_head fB (by simp) (λlt H4 hlt S4 e4=>?_);have T4:ah H H4:=S1.trans (S2.trans (S3.trans S4));have e3':=S4 _ _ e3;have ne43:l3≠lt:=λz=>by subst z;rw[e3]at hlt;cases hlt
 have t3:ak K H4 (us++[V.ref a.dy]) ((xs++[0]).map N):=by
   rw[vA];exact(ak.same (S2.trans (S3.trans S4)) _ _ t1).append (.cons (d9 0 (T.eU _) rfl rfl) .nil)
 have hD:=jt (S1.trans (S2.trans S3)) hlt;clear hl1 hl2 hl3 S1 S2 S3 S4 e1 e2 e3 t1 hlt;k_few;obtain⟨an,rfl,hsn⟩:=rL.mp hn'
 refine zxk (T4.j9 hsn) (λk σ H'=>∃o1 o2 vs,σ = [some x0,some (.ref an),some x2,some (.ref lt),o1,o2]/\ah H H'/\H' lt=some (.lst vs)/\vs.length=k+1 /\ ∀j v,vs[j]? = some v->∃lj ws,v=.ref lj/\lj≠lt/\H' lj=some (.lst ws)/\ak K H' ws ((aM a' b' ns (xs++[0]) j).map N))
   ⟨_,_,_,rfl,T4,e4,rfl,λj v hv=>?_⟩ (λk σ H' _ ⟨_,_,_,_,s,_⟩=>s.j9 hsn) ?_ ?_
 . match j,hv with
   | 0,e=>cases wM e;exact⟨l3,_,rfl,ne43,e3',t3⟩
   | j+1,e=>simp at e
 . rintro k x σ H5 t H6 hx ⟨o1,o2,vs,rfl,S5,e5,hl5,hr5⟩ ht S6 e6
   have hk:k<ns.length:=by
     rcases wA k ns.length with z | z
     . exact z
     . rw[wL (by simpa using z)]at hx;cases hx
   have hxv:x=.int (ns.getD k 0):=by
     rw[wu,wc hk]at hx;rw[wa,wc hk];exact(wM hx).symm
   subst hxv;have hnk:=ok.n0 (ns.getD k 0) (by rw[wa,wc hk];exact vK hk);refine mm (.of e6) rfl ?_;k_few;have e5':=S6 _ _ e5;refine mr (aO.of e5') ?_;k_few;have hkv:∃v,vs[k]? = some v:=⟨vs[k]'(by lia),wc (by lia)⟩;obtain⟨v,hv⟩:=hkv;obtain⟨lk,ws,rfl,nek,ek,tk⟩:=hr5 k v hv;refine jb (aO.of e5') (kO hv) ?_;k_few;obtain⟨m,hm,hm2⟩:=ok.row (k:=k) (by lia);have hrl:=de a' b' ns (xs++[0]) k;rw[wR]at hrl;have T6:=S5.trans S6;refine ZE (hr'.by T6) (dE (S6 _ _ ek) (ak.same S6 _ _ tk)) ok.ba ok.bb hnk.1 hnk.2 (by lia) (by rw[hrl];simp;lia) (by rw[hrl];simp;lia) hm hm2 (λl7 H7 us7 hl7 S7 e7 t7=>?_);have e5'':=S7 _ _ e5';have ne7:l7≠lt:=λz=>by subst z;rw[e5']at hl7;cases hl7
   o_head lR e5'' (by lia) (λH8 E8 e8=>?_);have K8:bG H7 H8:=E8.keep e5'';refine⟨_,_,_,rfl,(T6.trans S7).grow hD E8,e8,by simp[hl5],λj v hv=>?_⟩;rcases wA j vs.length with z | z
   . rw[vI z]at hv
     obtain⟨lj,wj,rfl,nej,ej,tj⟩:=hr5 j v hv;exact⟨lj,wj,rfl,nej,E8 _ _ nej (S7 _ _ (S6 _ _ ej)),ak.keep (S6.keep.trans (S7.keep.trans K8)) _ _ (gq _) tj⟩
   . have hj:j=vs.length:=by
       rcases wA vs.length j with q | q
       . rw[wL (by simp;lia)]at hv;cases hv
       . lia
     subst hj;rw[vi (wo _),Vf]at hv;cases wM hv;rw[hl5];refine⟨l7,us7,rfl,ne7,E8 _ _ ne7 e7,ak.keep K8 _ _ (gq _) ?_⟩;rw[aM]
     simpa using t7
 . rintro σ H5 ⟨o1,o2,vs,rfl,S5,e5,hl5,hr5⟩
   o_head q lt H5 S5 (cC.mpr ⟨lt,vs,rfl,.of e5,Nq (by rw[hl5,pQ];simp) λj v hv=>?_⟩)
   have hj:j<vs.length:=by
     rcases wA j vs.length with z | z
     . exact z
     . rw[wL z]at hv;cases hv
   obtain⟨lj,wj,rfl,nej,ej,tj⟩:=hr5 j v hv;rw[AA (by simp at hl5;lia)];exact dE ej tj
def cQ(a b:Rat)(ns:List Int)(xs:List Rat):List Rat:=(aM a b ns (xs++[0]) ns.length).dropLast
def Lj(K:wb):Sp:=λvs H Q _=>∃x0 x1 x2,vs=[x0,x1,x2] /\ ∃(a b:Rat)(ns:List Int)(xs:List Rat),Is K H x0 (R a b)/\Is K H x1 (TZ ns)/\Is K H x2 (TN xs)/\cW a b ns xs /\ ∀v H',ah H H'->Is K H' v (TN (cQ a b ns xs))->Q v H'
theorem LH{a:Rat}{w:V}(h1:Is K H v (R a b))(h2:Is K H w (TZ ns))(h3:Is K H u (TN xs))(ok:cW a b ns xs)(q:∀v H',ah H H'->Is K H' v (TN (cQ a b ns xs))->Q v H'):Lj K [v,w,u] H Q E:=⟨_,_,_,rfl,a,b,ns,xs,h1,h2,h3,ok,q⟩
theorem R7(T:Txt K mg a):aG P w K mg base aS 6 a.HD a.GU Ao (Lj K):=by
 refine T.AN.F.ok zmq ?_ ?_;wtm_at "b3";refine⟨_,(av (aB (dY (show aJ _ (.type "tuple") (eQ K)from fX) rfl T.h0i ee (ae (jZ j4 (dH dh (au (Ca T) hr T.sh (ae (pv 0) (ae (pv 1) (ae (pv 2) af)))) (gr gH ay) (λ_ _=>rfl)) kj (j6 (gr gH ay))) af)))),?_⟩;wtm_at "cl";rw[show start Fq [x0,x1,x2]=[some x0,some x1,some x2]from rfl];obtain⟨a',b',ns,xs,hr',hn',hp',ok,q⟩:=h;o_head Bq hr' hn' hp' ok (λl H1 S1 i1=>?_);o_head zwr i1 (by rw[pQ];lia) (λv2 i2=>?_);rw[pQ,qZ,AA (wo _)]at i2;o_head lQ i2 (λl3 H3 ys hn3 S3 e3 t3=>?_);rw[DR,<- xc]at t3;o_head iQ (dE e3 t3) (λw H4 S4 i4=>?_);exact q w H4 (S1.trans (S3.trans S4)) i4
theorem Kt{a:Rat}(ok:cW a b ns xs)(c:Cm m xs)(hm:m+2*ns.length+21*upTo ns ns.length<=8000)(hk:k<=ns.length):Cm 8000 (eS a b ns (xs++[0]) k::aM a b ns (xs++[0]) k):=by
 have h1:=Ct (ns:=ns) hk (wo _);exact(c.snoc.Bb ok.ba ok.bb (ns:=ns) k hk).mono (by lia)
def Tg(K:wb):Sp:=λvs H Q _=>∃x0 x1 x2,vs=[x0,x1,x2] /\ ∃(a b:Rat)(ns:List Int)(xs:List Rat)(m:Nat),Is K H x0 (R a b)/\Is K H x1 (TZ ns)/\Is K H x2 (TN xs)/\cW a b ns xs/\Cm m xs/\m+2*ns.length+21*upTo ns ns.length<=8000 /\ ∀v H',ah H H'->Is K H' v (N (fj a b ns xs))->Q v H'
theorem zoJ{a:Rat}{w:V}(h1:Is K H v (R a b))(h2:Is K H w (TZ ns))(h3:Is K H u (TN xs))(ok:cW a b ns xs)(hm:Cm m xs)(hm2:m+2*ns.length+21*upTo ns ns.length<=8000)(q:∀v H',ah H H'->Is K H' v (N (fj a b ns xs))->Q v H'):Tg K [v,w,u] H Q E:=⟨_,_,_,rfl,a,b,ns,xs,m,h1,h2,h3,ok,hm,hm2,q⟩
theorem zoF(T:Txt K mg a):aG P w K mg base aS 6 a.IM a.G2 yJ (Tg K):=by
 refine T.Hq.F.ok rC ?_ ?_;wtm_at "b3"
 refine⟨_,(ar (az 3 rC.nd (b_ (v:=.ref a.dy) rfl T.dW rfl))
     (ar (az 4 rC.nd (au (Ca T) hr T.sh (ae (pv 0) (ae (pv 1) (ae (pv 2) af)))))
     (ar (g6 vP rfl (jR rfl T.h0j (ae (bE (show aJ _ (.builtin "len") (dj K)from d6) rfl T.h0r dU (ae (pv 1) af)) af)) (bP (i:=5) rC.nd rfl (Or.inl rfl)) (av (az 3 rC.nd (au (gu T) hr T.fQ (ae (pv 3) (ae (au (sO T) hr T.oM (ae (b_ (v:=.ref a.dZ) rfl T.fg rfl) (ae (dH dh (dH dh (pv 4) (pv 5) (λ_ _=>rfl)) (pv 5) (λ_ _=>rfl)) af))) af))))))
     (av (aB (pv 3)))))),?_⟩
 wtm_at "cl";rw[show start Pp [x0,x1,x2]=[some x0,some x1,some x2,none,none,none]from rfl];obtain⟨a',b',ns,xs,m,hr',hn',hp',ok,hm,hm2,q⟩:=h;o_head Bq hr' hn' hp' ok (λl H1 S1 i1=>?_);o_head FW (hn'.by S1) ?_;have hlen:=ok.len;have hfew:=ok.bK;refine lD (n:=(ns.length:Int)) (by lia) (by lia) (λk σ H'=>∃v o,σ = [some x0,some x1,some x2,some v,some (.ref l),o]/\ah H1 H'/\Is K H' v (N (eS a' b' ns (xs++[0]) k))) ⟨_,_,rfl,ah.refl _,d9 0 (T.eU _) rfl rfl⟩ ?_ ?_
 . rintro k σ H2 hk ⟨v,o,rfl,S2,iv⟩
   have hk':k<ns.length:=by simpa using hk
   have c:=Kt ok hm hm2 (k:=k) (by lia);have b1:ag 8000 (eS a' b' ns (xs++[0]) k):=c.d4 (wz ..);have b2:ag 8000 ((aM a' b' ns (xs++[0]) k).getD k 0):=(kF c λy hy=>wy _ hy).get k;have b4:ag 8002 (1-(aM a' b' ns (xs++[0]) k).getD k 0):=(ag.one.sub b2).mono (by decide);have i2:=i1.by S2;o_head L6 i2 (by lia) (by rw[pQ];lia) (λv3 i3=>?_);rw[wP,AA (by lia)]at i3;o_head kW i3 (by lia) (by rw[de,wR];simp;lia) (λv4 i4=>?_);rw[wP]at i4;k_few;exact⟨_,_,rfl,S2.trans (ah.trans (by assumption) (by assumption)),by assumption⟩
 . rintro σ H2 ⟨v,o,rfl,S2,iv⟩
   k_few;exact q _ _ (S1.trans S2) iv
def dD(a b:Rat)(ns:List Int)(xs:List Rat):List Rat:=(wt ns.length).map λk=>(aM a b ns (xs++[0]) (k+1)).getD ((k+1) % ns.length) 0
theorem iR(a b:Rat)(ns:List Int)(xs:List Rat):(dD a b ns xs).length=ns.length:=by simp[dD]
theorem jW{a:Rat}(h:k<ns.length):(dD a b ns xs).getD k 0=(aM a b ns (xs++[0]) (k+1)).getD ((k+1) % ns.length) 0:=by
 unfold dD;rw[wa,wu,vM h]
 rfl
def TQ(K:wb):Sp:=λvs H Q _=>∃x0 x1 x2,vs=[x0,x1,x2] /\ ∃(a b:Rat)(ns:List Int)(xs:List Rat),Is K H x0 (R a b)/\Is K H x1 (TZ ns)/\Is K H x2 (TN xs)/\cW a b ns xs /\ ∀v H',ah H H'->Is K H' v (TN (dD a b ns xs))->Q v H'
theorem SF{a:Rat}{w:V}(h1:Is K H v (R a b))(h2:Is K H w (TZ ns))(h3:Is K H u (TN xs))(ok:cW a b ns xs)(q:∀v H',ah H H'->Is K H' v (TN (dD a b ns xs))->Q v H'):TQ K [v,w,u] H Q E:=⟨_,_,_,rfl,a,b,ns,xs,h1,h2,h3,ok,q⟩
theorem PV(T:Txt K mg a):aG P w K mg base aS 6 a.iI a.JH yb (TQ K):=by
 refine T.A_.F.ok Bv ?_ ?_;wtm_at "b3"
 refine⟨_,(ar (az 3 Bv.nd (au (Ca T) hr T.sh (ae (pv 0) (ae (pv 1) (ae (pv 2) af)))))
     (ar (az 4 Bv.nd (bE (show aJ _ (.builtin "len") (dj K)from d6) rfl T.h0r dU (ae (pv 1) af)))
     (av (aB (dY (show aJ _ (.type "tuple") (eQ K)from fX) rfl T.h0i ee (ae (d7 rfl (cR.by (N':=["turn","rows","count"]) (src:=[none,some 3,some 4]) rfl (by kernel_rfl)) (jR rfl T.h0j (ae (pv 4) af)) (λ_ _ _ _ _=>(bP (i:=0) (of_decide_eq_true (by kernel_rfl)) rfl (Or.inl rfl))) (λ_ _ _ _ _=>dM) (λ_ _ _ _ _=>(dH (show gM _ (dw K)from dh) (dH (show gM _ (dw K)from dh) (pv 1) (aC cF (pv 0) ay) (λ_ _=>rfl)) (aC gW (aC cF (pv 0) ay) (pv 2)) (λ_ _=>rfl)))) af)))))),?_⟩
 wtm_at "cl";rw[show start Rr [x0,x1,x2]=[some x0,some x1,some x2,none,none]from rfl];obtain⟨a',b',ns,xs,hr',hn',hp',ok,q⟩:=h;have hlen:=ok.len;have hfew:=ok.bK;o_head Bq hr' hn' hp' ok (λl H1 S1 i1=>?_);o_head FW (hn'.by S1) ?_;o_head zA2 (n:=(ns.length:Int)) (by lia) (by lia) (o0:=none) (tl:=[some (.ref l),some (.int (ns.length:Int))]) rfl (λi v H=>Is K H v (N ((dD a' b' ns xs).getD i 0))) ?_ ?_
 . rintro D i ys o H2 hi inv
   have hi':i<ns.length:=by simpa using hi
   have i2:=i1.by inv.same;have hn0:(0:Int)<(ns.length:Int):=by lia
   o_head L6 i2 (by lia) (by rw[pQ];lia) (λv3 i3=>?_);rw[show((i:Int)+1).toNat=i+1 by lia,AA (by lia)]at i3;k_few;have e:((i:Int)+1) % (ns.length:Int)=(((i+1) % ns.length:Nat):Int):=by push_cast;rfl
   have hm:(i+1) % ns.length<ns.length:=qm _ (by lia);rw[e];refine kW i3 (by lia) (by rw[de,wR];simp;lia) (λv4 i4=>?_);rw[wP,<- jW hi']at i4;exact d5 inv (by lia) fK ⟨_,rfl⟩ (ah.refl _) i4
 . rintro D ys H2 hn S2 e2 hl2 hr2
   o_head iQ (dE e2 (gc (by rw[hl2,iR];simp) hr2)) (λw H3 S3 i3=>?_);exact q w H3 (S1.trans (S2.trans S3)) i3
theorem tZ{bs:List Bool}{zs:List V}(hl:zs.length=bs.length)(h:∀j z,zs[j]? = some z->z=V.bl (bs.getD j true)):zs=bs.map V.bl:=by
 refine WN (by rw[wm];exact hl) λi h1 h2=>?_
 rw[h i _ (wc h1),Vp,wa,wc (by lia)]
 rfl
def dP(xs:List Rat):List Rat:=[1]++xs++[0]
theorem ym(xs:List Rat):(dP xs).length=xs.length+2:=by simp[dP]
def mU(xs:List Rat):List Bool:=(wt (xs.length+1)).map λi=>decide ((dP xs).getD (i+1) 0<(dP xs).getD i 0)
def mD(ts:List Rat):List Bool:=ts.map λx=>decide (x<1)
def dQ(a b:Rat)(ns:List Int)(xs:List Rat):Bool:=(mU xs).all id&&(mD (dD a b ns xs)).all id
theorem zux(h:i<xs.length+1):(mU xs).getD i true=decide ((dP xs).getD (i+1) 0<(dP xs).getD i 0):=by
 unfold mU;rw[wa,wu,vM h]
 rfl
theorem zwP{ts:List Rat}(h:i<ts.length):(mD ts).getD i true=decide (ts.getD i 0<1):=by
 unfold mD;rw[wa,wu,wa,wc h]
 rfl
theorem O_(h:Cm m xs)(i:Nat):ag m ((dP xs).getD i 0):=by
 unfold dP;rcases XT i with rfl | hi
 ·exact ag.one.mono h.pos
 ·obtain⟨j,rfl⟩:∃j,i=j+1:=⟨i-1,by lia⟩
  exact h.snoc.get j
theorem U_{a:Rat}(ok:cW a b ns xs)(hi:i<ns.length):ag 8000 ((dD a b ns xs).getD i 0):=by
 rw[jW hi];obtain⟨m,hm,hm2⟩:=ok.row (k:=i+1) (by lia);exact(hm.get _).mono hm2
def LU(K:wb):Sp:=λvs H Q _=>∃x0 x1 x2,vs=[x0,x1,x2] /\ ∃(a b:Rat)(ns:List Int)(xs:List Rat),Is K H x0 (R a b)/\Is K H x1 (TZ ns)/\Is K H x2 (TN xs)/\cW a b ns xs /\ ∀H',ah H H'->Q (.bl (dQ a b ns xs)) H'
theorem rR{a:Rat}{w:V}(h1:Is K H v (R a b))(h2:Is K H w (TZ ns))(h3:Is K H u (TN xs))(ok:cW a b ns xs)(q:∀H',ah H H'->Q (.bl (dQ a b ns xs)) H'):LU K [v,w,u] H Q E:=⟨_,_,_,rfl,a,b,ns,xs,h1,h2,h3,ok,q⟩
theorem pB(T:Txt K mg a):aG P w K mg base aS 7 a.JQ a.IS sP (LU K):=by
 refine T.mL.F.ok SJ ?_ ?_;wtm_at "b3"
 refine⟨_,(ar (az 3 SJ.nd (aC cF (aC cF (fb (ae (b_ (v:=.ref a.dZ) rfl T.fg rfl) af)) (dY (show aJ _ (.type "list") (kz K)from pk) rfl T.h0m kH (ae (pv 2) af))) (fb (ae (b_ (v:=.ref a.dy) rfl T.dW rfl) af))))
     (ar (bQ (cU (cz (bE (show aJ _ (.builtin "all") (lA K)from nP rfl) rfl T.h0t oj (ae (d7 rfl (cR.by (N':=["upper","lower"]) (src:=[none,none]) rfl (by kernel_rfl)) (PB rfl T.h0v (ae (pv 3) (ae (jZ j4 (pv 3) (j6 ay) kj) af))) (λ_ _ _ _ _=>by exact(show PG _ _ (lZ K 2 _)from my (n:=2) rfl (gx (bP (i:=0) (of_decide_eq_true (by kernel_rfl)) rfl (Or.inl rfl)) (gx (bP (i:=1) (of_decide_eq_true (by kernel_rfl)) rfl (Or.inl rfl)) lI)))) (λ_ _ _ _ _=>dM) (λ_ _ _ _ _=>(au (gZ (K:=K) (mg:=mg) (a:=a) T) hr T.gk (ae (pv 1) (ae (pv 0) af))))) af)))) (av (aB eI)) bR)
     (av (aB (bE (show aJ _ (.builtin "all") (lA K)from nP rfl) rfl T.h0t oj (ae (d7 rfl (cR.by (N':=["top"]) (src:=[none]) rfl (by kernel_rfl)) (j7 (au (PV T) hr T.A_ (ae (pv 0) (ae (pv 1) (ae (pv 2) af))))) (λ_ _ _ _ _=>(bP (i:=0) (of_decide_eq_true (by kernel_rfl)) rfl (Or.inl rfl))) (λ_ _ _ _ _=>dM) (λ_ _ _ _ _=>(au (gZ (K:=K) (mg:=mg) (a:=a) T) hr T.gk (ae (pv 0) (ae (b_ (v:=.ref a.dZ) rfl T.fg rfl) af))))) af)))))),?_⟩
 wtm_at "cl";rw[show start M4 [x0,x1,x2]=[some x0,some x1,some x2,none]from rfl];obtain⟨a',b',ns,xs,hr',hn',hp',ok,q⟩:=h;have hlen:=ok.len;have hfew:=ok.bK;obtain⟨m,hcm,hcm2⟩:=ok.cm;o_head fB (by simp) (λl0 H1 n1 S1 e1=>?_);o_head yc (hp'.by S1) (λl1 H2 us n2 S2 e2 t2=>?_);have hul:=t2.length;rw[wm]at hul;refine kn (S2 _ _ e1) e2 (Ve (jI (by simp;lia))) (λl2 H3 n3 S3 e3=>?_);o_head fB (by simp) (λl3 H4 n4 S4 e4=>?_);refine kn (S4 _ _ e3) e4 (Ve (jI (by simp;lia))) (λl5 H5 n5 S5 e5=>?_);have T5:ah H H5:=S1.trans (S2.trans (S3.trans (S4.trans S5)))
 have t5:ak K H5 ([V.ref a.dZ]++us++[V.ref a.dy]) ((dP xs).map N):=by
   unfold dP;rw[vA,vA];exact(ak.append (.cons (d9 1 (T.sE _) rfl rfl) .nil) (ak.same (S3.trans (S4.trans S5)) _ _ t2)).append (.cons (d9 0 (T.eU _) rfl rfl) .nil)
 have ir5:=hr'.by T5;have in5:=hn'.by T5;have ip5:=hp'.by T5;clear n1 n2 n3 n4 n5 S1 S2 S3 S4 S5 e1 e2 e3 e4 t2 hr' hn' hp';generalize [V.ref a.dZ]++us++[V.ref a.dy]=ws at e5 t5;have hws:=t5.length;rw[wm,ym]at hws;o_head lQ (dE e5 t5) (λl6 H6 ys n6 S6 e6 t6=>?_);rw[show(1:Int)=((1:Nat):Int)from rfl,zzG _ _ (by rw[wm,ym];lia),<- Xo]at t6;have hys:=t6.length;rw[wm,vR,ym]at hys;have e56:=S6 _ _ e5;have t56:=ak.same S6 _ _ t5;have T6:=T5.trans S6;have ir6:=ir5.by S6;have in6:=in5.by S6;have ip6:=ip5.by S6;clear ir5 in5 ip5 T5 S6 e5 t5 n6;o_head zzW (t:=false) (u:=false) (aO.of e56) (aO.of e6) (by lia) (o0:=none) (o0':=none) (tl:=[]) rfl (λi v H=>v=V.bl ((mU xs).getD i true)) (λ_ _ _ _ _ h=>h) ?_ ?_
 . rintro D i x y zs o1 o2 H7 c hx hy inv e7
   obtain⟨hi,ix⟩:=dC t56 hx;obtain⟨hj,iy⟩:=dC t6 hy;rw[vR,ym]at hj
   have ed:((dP xs).drop 1).getD i 0=(dP xs).getD (i+1) 0:=by
     rw[wa,Q0,wa,QC]
   rw[ed]at iy;have S7:=inv.2.2.1;have b1:ag 8000 ((dP xs).getD i 0):=(O_ hcm i).mono (by lia);have b2:ag 8000 ((dP xs).getD (i+1) 0):=(O_ hcm (i+1)).mono (by lia);refine UP (mm (.of e7) rfl ?_);have ix7:=ix.by S7;have iy7:=iy.by S7;k_few;exact tO inv (by lia) (λ_ _ _ _ _ h=>h) ⟨_,_,rfl⟩ (ah.refl _) (by rw[zux (by lia)])
 . rintro D zs H7 hn S7 e7 hl7 hr7
   have hz:=tZ (bs:=mU xs) (by unfold mU;rw[wm,vx];lia) hr7;rw[hz]at e7;o_head mz (.of e7) ?_;k_few
   . rename_i z
     have ef:dQ a' b' ns xs=false:=by unfold dQ;rw[z];rfl
     rw[<- ef];exact q _ (T6.trans S7)
   . rename_i z
     have ef:dQ a' b' ns xs=(mD (dD a' b' ns xs)).all id:=by unfold dQ;rw[z];rfl
     rw[ef]at q;refine SF (ir6.by S7) (in6.by S7) (ip6.by S7) ok (λv8 H8 S8 i8=>?_);have T8:=T6.trans (S7.trans S8);obtain⟨a8,us8,rfl,hs8,t8⟩:=bX.mp i8;have hl8:=t8.length;rw[wm,iR]at hl8;refine jo hs8 (o0:=none) (tl:=[]) rfl (λi v H=>v=V.bl ((mD (dD a' b' ns xs)).getD i true)) ?_ ?_
     . rintro D i x ys' o H9 hx inv
       obtain⟨hi,ix⟩:=dC t8 hx;rw[iR]at hi;have ix9:=ix.by inv.same;have b1:ag 8000 ((dD a' b' ns xs).getD i 0):=U_ ok hi;have b2:ag 8000 1:=ag.one.mono (by decide);k_few;exact d5 inv (by lia) (λ_ _ _ _ _ h=>h) ⟨_,rfl⟩ (ah.refl _) (by rw[zwP (by rw[iR];exact hi)])
     . rintro D ys' H9 hn9 S9 e9 hl9 hr9
       have hz':=tZ (bs:=mD (dD a' b' ns xs)) (by unfold mD;rw[wm,iR];lia) hr9;rw[hz']at e9;o_head mz (.of e9) ?_;exact q _ (T8.trans S9)
def cP(n:Nat):List Rat:=vc n 0
theorem Sw(n i:Nat):(cP n).getD i 0=0:=by
 unfold cP;rw[wa,xu]
 split<;>rfl
theorem pU(n:Nat):Cm 1 (cP n):=by
 refine⟨1,by decide,⟨by decide⟩,λx hx=>⟨0,?_,⟨by decide⟩⟩⟩;rw[List.eq_of_mem_replicate hx]
 rfl
def Tr(K:wb):Sp:=λvs H Q _=>∃x0 x1,vs=[x0,x1] /\ ∃(a b:Rat)(ns:List Int),Is K H x0 (R a b)/\Is K H x1 (TZ ns)/\cW a b ns (cP (ns.length-1))/\0<=ns.sum/\ns.sum<=64 /\ ∀v H',ah H H'->Is K H' v (.tuple [N (a^ns.sum.toNat),TN (cQ a b ns (cP (ns.length-1)))])->Q v H'
theorem rY{a:Rat}{w:V}(h1:Is K H v (R a b))(h2:Is K H w (TZ ns))(ok:cW a b ns (cP (ns.length-1)))(h0:0<=ns.sum)(h64:ns.sum<=64)(q:∀v H',ah H H'->Is K H' v (.tuple [N (a^ns.sum.toNat),TN (cQ a b ns (cP (ns.length-1)))])->Q v H'):Tr K [v,w] H Q E:=⟨_,_,rfl,a,b,ns,h1,h2,ok,h0,h64,q⟩
theorem pA(T:Txt K mg a):aG P w K mg base aS 7 a.IW a.Ho yZ (Tr K):=by
 refine T.mK.F.ok BZ ?_ ?_;wtm_at "b2"
 refine⟨_,(ar (az 2 BZ.nd (ao (au (zm T) hr T.oK (ae (pv 0) (ae (bE (show aJ _ (.builtin "sum") (Dv K)from zwO rfl) rfl T.h0w Og (ae (pv 1) af)) af)))))
     (ar (az 3 BZ.nd (dY (show aJ _ (.type "tuple") (eQ K)from fX) rfl T.h0i ee (ae (d7 rfl (cR.by (N':=["size"]) (src:=[none]) rfl (by kernel_rfl)) (j7 (jZ j4 (pv 1) (j6 ay) kj)) (λ_ _ _ _ _=>(bP (i:=0) (of_decide_eq_true (by kernel_rfl)) rfl (Or.inl rfl))) (λ_ _ _ _ _=>dM) (λ_ _ _ _ _=>(b_ (v:=.ref a.dy) rfl T.dW rfl))) af)))
     (av (aB (br (ae (pv 2) (ae (au (R7 T) hr T.AN (ae (pv 0) (ae (pv 1) (ae (pv 3) af)))) af))))))),?_⟩
 wtm_at "cl";rw[show start LY [x0,x1]=[some x0,some x1,none,none]from rfl];obtain⟨a',b',ns,hr',hn',ok,h0,h64,q⟩:=h;have hlen:=ok.len;have hfew:=ok.bK;o_head zxx hn' ?_;o_head CZ hr' ok.ba ok.bb h0 h64 (λv1 H1 S1 i1=>?_);k_few;rename_i v2 i2;have hn1:Is K H1 x1 (.tuple (ns.map PyData.int)):=hn'.by S1;refine P_ hn1 ?_ (λv3 H3 S3 i3=>?_)
 . rintro ⟨e,_⟩
   have e':min 1 (ns.map PyData.int).length=0:=e;rw[wm]at e';lia
 rw[Cn]at i3;obtain⟨a3,vs3,rfl,hs3,t3⟩:=bX.mp i3;have hl3:=t3.length;rw[Qv,wm]at hl3;have hzl:(cP (ns.length-1)).length=ns.length-1:=Wx ..;o_head jo hs3 (o0:=none) (tl:=[]) rfl (λi v H=>Is K H v (N ((cP (ns.length-1)).getD i 0))) ?_ ?_
 . rintro D i x ys o H4 hx inv
   have hi:i<vs3.length:=by
     rcases wA i vs3.length with z | z
     . exact z
     . rw[wL z]at hx;cases hx
   k_few;exact d5 inv (by lia) fK ⟨_,rfl⟩ (ah.refl _) (by rw[Sw];exact d9 0 (T.eU _) rfl rfl)
 . rintro D ys H4 hn4 S4 e4 hl4 hr4
   o_head iQ (dE (xs:=cP (ns.length-1)) e4 (gc (by lia) hr4)) (λv5 H5 S5 i5=>?_);have T5:ah H1 H5:=S3.trans (S4.trans S5);o_head LH ((hr'.by S1).by T5) ((hn'.by S1).by T5) i5 ok (λv6 H6 S6 i6=>?_);k_few;exact cB (by simp) (.cons (i2.by (T5.trans S6)) (.cons i6 .nil)) (λv H' S h=>q v H' (S1.trans (T5.trans (S6.trans S))) h)
def cK(a b:Rat)(ns:List Int):List Rat:=(cQ a b ns (cP (ns.length-1))).map (λs=>s / (1-a^ns.sum.toNat))
theorem lP{a:Rat}(h:ns.length=xs.length+1):(cQ a b ns xs).length=xs.length:=by
 unfold cQ;rw[Xl,de];simp
theorem EO{a:Rat}(h:ns.length=xs.length+1)(hi:i<xs.length):(cQ a b ns xs).getD i 0=(aM a b ns (xs++[0]) ns.length).getD i 0:=by
 unfold cQ;have hl:(aM a b ns (xs++[0]) ns.length).length=xs.length+1:=by rw[de];simp
 rw[wa,wa,List.getElem?_dropLast,if_pos (by lia)]
theorem EI(h:i<xs.length):(xs++[0]).getD i 0=xs.getD i 0:=by
 rw[wa,wa,vI h]
theorem pK : (xs++[0]).getD xs.length 0=0:=by
 rw[wa,vi (wo _),Vf]
 rfl
theorem MR:∀{ns:List Int},(∀n∈ns,0<=n)->((ns.map xD).sum:Int)=ns.sum
 | [],_=>rfl
 | n::ns,h=>by
  have h1:=MR (ns:=ns) λm hm=>h m (wy _ hm)
  have h2:=h n (wz ..);rw[vd,Vk,Vk];lia
theorem MT(h:∀n∈ns,0<=n):upTo ns ns.length=ns.sum.toNat:=by
 have:=MR h;unfold GM.upTo;rw[Wr];lia
theorem ZR{a:Rat}(h:ns.length=xs.length+1)(hn:∀n∈ns,0<=n)(hi:i<xs.length):(cQ a b ns xs).getD i 0=a^ns.sum.toNat*xs.getD i 0+(cQ a b ns (cP (ns.length-1))).getD i 0:=by
 have hz:(cP (ns.length-1)).length=xs.length:=by unfold cP;rw[Wx];lia
 have hu:=MT hn;rw[EO h hi,EO (by lia) (by lia)];have hr:=Dd a b ns (xs++[0]) (cP (ns.length-1)++[0]) (by simp[hz]) (by simp[h]) xs.length (by simp) (by rw[pK];rw[<- hz,pK]) ns.length (wo _) i (by simp;lia);rw[if_neg (by lia),show ns.length-1=xs.length by lia]at hr;rw[show ns.length-1=xs.length by lia]at hz ⊢;rw[pK,EI hi,EI (by lia),Sw,hu]at hr
 have hl0:(cP xs.length++[0]).getD xs.length 0=0:=by
  have:=pK (xs:=cP xs.length);rw[hz]at this;exact this
 rw[hl0]at hr
 grind
theorem p8{a:Rat}(h:1<=ns.length):(cK a b ns).length=ns.length-1:=by
 unfold cK;rw[wm,lP (by unfold cP;rw[Wx];lia)];unfold cP;rw[Wx]
theorem Oo{a:Rat}(h:i<(cK a b ns).length):(cK a b ns).getD i 0=(cQ a b ns (cP (ns.length-1))).getD i 0 / (1-a^ns.sum.toNat):=by
 unfold cK at *;rw[wm]at h;rw[wa,wu,wa,wc h];rfl
theorem Lz{g:Rat}(h:Cm m xs)(bg:ag n g)(hg:g≠0):Cm (m+n) (xs.map (λs=>s / g)):=by
 obtain⟨B,h0,bB,hx⟩:=h;have hgn:=yf hg
 have key:∀(t:Int),wB t B / g=wB (t*(g.den:Int)) (B*g.num):=by
  intro t
  conv=>lhs;rw[<- Vy g]
  rw[xN,Rat.inv_divInt,xX]
 rcases Int.lt_or_gt_of_ne hgn with z | z
 ·refine⟨B * -g.num,vQ h0 (by lia),bB.mul bg.t.neg,λx hxm=>?_⟩
  obtain⟨s,hs,rfl⟩:=wU.mp hxm;obtain⟨t,rfl,bt⟩:=hx s hs;refine⟨-(t*(g.den:Int)),?_,(bt.mul bg.b).neg⟩
  show wB t B / g=_
  rw[key t,ud,Rat.divInt_neg',Int.neg_neg]
 ·refine⟨B*g.num,vQ h0 (by lia),bB.mul bg.t,λx hxm=>?_⟩
  obtain⟨s,hs,rfl⟩:=wU.mp hxm;obtain⟨t,rfl,bt⟩:=hx s hs;exact⟨t*(g.den:Int),key t,bt.mul bg.b⟩
theorem Bt{a:Rat}(ba:ag 10 a)(bb:ag 10 b)(hm:Cm m xs):Cm (m+2*ns.length+21*upTo ns ns.length) (cQ a b ns xs):=by
 obtain⟨B,h0,h1,h2⟩:=(hm.snoc).rows ba bb (ns:=ns) ns.length (wo _);exact⟨B,h0,h1,λx hx=>h2 x (List.dropLast_subset _ hx)⟩
theorem zzj{a:Rat}(ba:ag 10 a)(bb:ag 10 b)(h8:ns.length<=8)(hu:upTo ns ns.length<=8)(hs:ns.sum.toNat<=8)(hF:a^ns.sum.toNat≠1):Cm 268 (cK a b ns):=by
 have bF:ag 81 (a^ns.sum.toNat):=(ba.pow ns.sum.toNat).mono (by lia);have bg:ag 83 (1-a^ns.sum.toNat):=(ag.one.sub bF).mono (by decide);have hg:1-a^ns.sum.toNat≠0:=λe=>hF (by grind)
 exact(Lz (Bt (ns:=ns) ba bb (pU (ns.length-1))) bg hg).mono (by lia)
theorem zqC{a:Rat}(ok:cW a b ns (cP (ns.length-1)))(h8:ns.sum<=8)(i:Nat):ag 400 ((cQ a b ns (cP (ns.length-1))).getD i 0):=((Bt ok.ba ok.bb (pU _)).get i).mono (by
 have h1:=MT (λn hn=>(ok.n0 n hn).1);have h2:=ok.bK;lia)
def MD(K:wb):Sp:=λvs H Q _=>∃x0 x1,vs=[x0,x1] /\ ∃(a b:Rat)(ns:List Int),Is K H x0 (R a b)/\Is K H x1 (TZ ns)/\cW a b ns (cP (ns.length-1))/\0<=ns.sum/\ns.sum<=8/\(a^ns.sum.toNat=1->∀H',ah H H'->Q .a_ H')/\(a^ns.sum.toNat≠1->∀v H',ah H H'->Is K H' v (TN (cK a b ns))->Q v H')
theorem N8{a:Rat}{w:V}(h1:Is K H v (R a b))(h2:Is K H w (TZ ns))(ok:cW a b ns (cP (ns.length-1)))(h0:0<=ns.sum)(h8:ns.sum<=8)(q1:a^ns.sum.toNat=1->∀H',ah H H'->Q .a_ H')(q2:a^ns.sum.toNat≠1->∀v H',ah H H'->Is K H' v (TN (cK a b ns))->Q v H'):MD K [v,w] H Q E:=⟨_,_,rfl,a,b,ns,h1,h2,ok,h0,h8,q1,q2⟩
theorem O0(T:Txt K mg a):aG P w K mg base aS 8 a.J_ a.Jw yX (MD K):=by
 refine T.A8.F.ok CP ?_ ?_;wtm_at "b2"
 refine⟨_,(ar (az 2 CP.nd (au (pA T) hr T.mK (ae (pv 0) (ae (pv 1) af))))
     (ar (bQ (bZ (show aN _ (wT .Eq) (cO K)from dG hu) (ao (pv 2)) (b_ (v:=.ref a.dZ) rfl T.fg rfl) (bC _)) (av (aB fG)) bR)
     (ar (az 3 CP.nd (au (sO T) hr T.oM (ae (b_ (v:=.ref a.dZ) rfl T.fg rfl) (ae (ao (pv 2)) af))))
     (av (aB (dY (show aJ _ (.type "tuple") (eQ K)from fX) rfl T.h0i ee (ae (d7 rfl (cR.by (N':=["shift","gap"]) (src:=[none,some 3]) rfl (by kernel_rfl)) (j7 (ao (pv 2))) (λ_ _ _ _ _=>(bP (i:=0) (of_decide_eq_true (by kernel_rfl)) rfl (Or.inl rfl))) (λ_ _ _ _ _=>dM) (λ_ _ _ _ _=>(au (UD (K:=K) (mg:=mg) (a:=a) T) hr T.Ba (ae (pv 0) (ae (pv 1) af))))) af))))))),?_⟩
 wtm_at "cl";rw[show start SQ [x0,x1]=[some x0,some x1,none,none]from rfl];obtain⟨ra,rb,ns,hr',hn',ok,h0,h8,q1,q2⟩:=h;have bF:ag 100 (ra^ns.sum.toNat):=(ok.ba.pow ns.sum.toNat).mono (by lia);o_head rY hr' hn' ok h0 (by lia) (λv1 H1 S1 i1=>?_);o_head aA (j:=0) i1 rfl (λv2 i2=>?_);k_few
 . rename_i z
   exact q1 z H1 S1
 . rename_i z
   refine aA (j:=0) i1 rfl (λv3 i3=>?_);k_few;rename_i v4 H4 S4 i4;have hg:(1-ra^ns.sum.toNat)≠0:=λe=>z (by grind)
   have bg:ag 102 (1-ra^ns.sum.toNat):=(ag.one.sub bF).mono (by decide);refine aA (j:=1) (i1.by S4) rfl (λv5 i5=>?_);obtain⟨ap,us,rfl,hu,tu⟩:=bX.mp i5;refine jo (o0:=none) (tl:=[some v4]) hu rfl (λj y H'=>Is K H' y (N ((cK ra rb ns).getD j 0))) ?_ ?_
   . intro D i x ys o H5 hx inv
     obtain⟨hi,ix⟩:=dC tu hx;have ix5:=ix.by inv.same;have i45:=i4.by inv.same
     have hi1000:i<=1000:=by
       have h1:=ok.len;have h2:=ok.bK;have h3:=lP (a:=ra) (b:=rb) (show ns.length=(cP (ns.length-1)).length+1 from ok.len);lia
     o_head RN ix5 i45 ((zqC ok h8 i).mono (by decide)) (bg.mono (by decide)) hg (λv6 H6 S6 i6=>?_);k_few
     have e:(cK ra rb ns).getD i 0=(cQ ra rb ns (cP (ns.length-1))).getD i 0 / (1-ra^ns.sum.toNat):=by
       unfold cK;rw[wa,wu,wa,wc hi];rfl
     exact d5 inv hi1000 fK ⟨_,rfl⟩ S6 (by rw[e];exact i6)
   . intro D ys H5 hn S5 hD hl hr5
     have hl':ys.length=(cK ra rb ns).length:=by
       unfold cK;rw[hl,tu.length,wm,wm]
     refine iQ (dE hD (gc hl' hr5)) (λw H6 S6 i6=>?_);k_few;exact q2 z w H6 (S1.trans (S4.trans (S5.trans S6))) i6
def fZ(p q:Rat)(xs ss:List Rat):List Rat:=(wt xs.length).map λi=>p*xs.getD i 0+q*ss.getD i 0
theorem mZ(p q:Rat)(xs ss:List Rat):(fZ p q xs ss).length=xs.length:=by unfold fZ;rw[wm,vx]
theorem UL{p q:Rat}(h:i<xs.length):(fZ p q xs ss).getD i 0=p*xs.getD i 0+q*ss.getD i 0:=by
 unfold fZ;rw[wa,wu,vM h];rfl
def Rn(K:wb):Sp:=λvs H Q _=>∃x0 x1 x2 x3,vs=[x0,x1,x2,x3] /\ ∃(d:wC)(p q:Rat)(xs ss:List Rat),Is K H x0 (.tuple [d,TN ss])/\Is K H x1 (TN xs)/\Is K H x2 (N p)/\Is K H x3 (N q)/\ss.length=xs.length/\xs.length<=50/\ag 2000 p/\ag 2000 q/\(∀i,ag 6900 (xs.getD i 0))/\(∀i,ag 6900 (ss.getD i 0)) /\ ∀v H',ah H H'->Is K H' v (TN (fZ p q xs ss))->Q v H'
theorem Yj{d:wC}{p q':Rat}{w z:V}(h0:Is K H v (.tuple [d,TN ss]))(h1:Is K H w (TN xs))(h2:Is K H u (N p))(h3:Is K H z (N q'))(hl:ss.length=xs.length)(hf:xs.length<=50)(b1:ag 2000 p)(b2:ag 2000 q')(b3:∀i,ag 6900 (xs.getD i 0))(b4:∀i,ag 6900 (ss.getD i 0))(q:∀v H',ah H H'->Is K H' v (TN (fZ p q' xs ss))->Q v H'):Rn K [v,w,u,z] H Q E:=⟨_,_,_,_,rfl,d,p,q',xs,ss,h0,h1,h2,h3,hl,hf,b1,b2,b3,b4,q⟩
theorem RO(T:Txt K mg a):aG P w K mg base aS 3 a.JM a.Iw tK (Rn K):=by
 refine T.AY.F.ok zt4 ?_ ?_;wtm_at "b4";refine⟨_,(av (aB (dY (show aJ _ (.type "tuple") (eQ K)from fX) rfl T.h0i ee (ae (d7 rfl (cR.by (N':=["place","shift","of_place","of_shift"]) (src:=[none,none,some 2,some 3]) rfl (by kernel_rfl)) (zA9 rfl T.h0v (ae (pv 1) (ae (ao (pv 0)) af))) (λ_ _ _ _ _=>by exact(show PG _ _ (lZ K 2 _)from my (n:=2) rfl (gx (bP (i:=0) (of_decide_eq_true (by kernel_rfl)) rfl (Or.inl rfl)) (gx (bP (i:=1) (of_decide_eq_true (by kernel_rfl)) rfl (Or.inl rfl)) lI)))) (λ_ _ _ _ _=>dM) (λ_ _ _ _ _=>(au (gu (K:=K) (mg:=mg) (a:=a) T) hr T.fQ (ae (au (kN (K:=K) (mg:=mg) (a:=a) T) hr T.jL (ae (pv 2) (ae (pv 0) af))) (ae (au (kN (K:=K) (mg:=mg) (a:=a) T) hr T.jL (ae (pv 3) (ae (pv 1) af))) af))))) af)))),?_⟩;wtm_at "cl";rw[show start CU [x0,x1,x2,x3]=[some x0,some x1,some x2,some x3]from rfl];obtain⟨d,p,q',xs,ss,h0,h1,h2,h3,hl,hf,b1,b2,b3,b4,q⟩:=h;obtain⟨a1,us,rfl,hs1,t1⟩:=bX.mp h1;o_head aA (j:=1) h0 rfl (λv5 i5=>?_);obtain⟨a2,ws,rfl,hs2,t2⟩:=bX.mp i5;have l1:=t1.length;have l2:=t2.length;rw[wm]at l1 l2;o_head zBy (t:=true) (u:=true) hs1 hs2 (by lia) (o0:=none) (o0':=none) (tl:=[some x2,some x3]) rfl (λj y H'=>Is K H' y (N ((fZ p q' xs ss).getD j 0))) fK ?_ ?_
 ·intro D j y z zs o1 o2 H7 c hy hz inv hc
  obtain⟨hj,iy⟩:=dC t1 hy;obtain⟨_,iz⟩:=dC t2 hz;have S7:=inv.2.2.1;have iy7:=iy.by S7;have iz7:=iz.by S7;have ip7:=h2.by S7;have iq7:=h3.by S7;have c1:=b3 j;have c2:=b4 j;have m1:ag 8999 (p*xs.getD j 0):=(b1.mul c1).mono (by decide);have m2:ag 8999 (q'*ss.getD j 0):=(b2.mul c2).mono (by decide);refine mm (.of hc) rfl ?_;k_few;rename_i v8 H8 S8 i8 v9 H9 S9 i9 v10 H10 S10 i10;rw[<- UL hj]at i10;exact tO inv (by lia) fK ⟨_,_,rfl⟩ (S8.trans (S9.trans S10)) i10
 ·intro D zs H7 hn S7 hD hl7 hr7
  have tz:ak K H7 zs ((fZ p q' xs ss).map N):=gc (by rw[hl7,mZ];lia) hr7;o_head iQ (dE hD tz) (λv8 H8 S8 i8=>?_);exact q v8 H8 (S7.trans S8) i8
structure du(ns:List Int):Prop where
 some:1<=ns.length
 bK:ns.length<=8
 each:∀n∈ns,1<=n/\n<=8
 sum:ns.sum<=8
theorem zl:∀{ns:List Int},(∀n∈ns,0<=n)->((ns.map xD).sum:Int)=ns.sum
 | [],_=>rfl
 | n::ns,h=>by
  have h1:=zl (ns:=ns) λm hm=>h m (wy _ hm)
  have h2:=h n (wz ..);rw[vd,Vk,Vk];lia
theorem du.upTo(h:du ns):upTo ns ns.length<=8:=by
 have h1:=zl (ns:=ns) λn hn=>by have:=h.each n hn;lia
 have h2:=h.sum;unfold GM.upTo;rw[Wr];lia
def df(a b:Rat)(ns:List Int):List Rat:=cQ a b ns (cP (ns.length-1))
def cj(a b:Rat)(ns:List Int)(n:Nat)(xs:List Rat):List Rat:=(wt xs.length).map λi=>fP (a^ns.sum.toNat) ((df a b ns).getD i 0) n (xs.getD i 0)
theorem zL(n:Nat):(cP n).length=n:=Wx ..
theorem m4{a:Rat}(h:1<=ns.length):(df a b ns).length=ns.length-1:=by
 unfold df;rw[lP (by rw[zL];lia),zL]
theorem dk(a b:Rat)(ns:List Int)(n:Nat)(xs:List Rat):(cj a b ns n xs).length=xs.length:=by unfold cj;rw[wm,vx]
theorem jh{a:Rat}(h:i<xs.length):(cj a b ns n xs).getD i 0=fP (a^ns.sum.toNat) ((df a b ns).getD i 0) n (xs.getD i 0):=by
 unfold cj;rw[wa,wu,vM h];rfl
theorem EY(hl:xs.length=ys.length)(h:∀i,i<xs.length->xs.getD i 0=ys.getD i 0):xs=ys:=WN hl λi h1 h2=>by
 have:=h i h1;rw[wa,wa,wc h1,wc h2]at this;exact this
theorem kK(a b:Rat)(ns:List Int)(xs:List Rat):cj a b ns 0 xs=xs:=EY (dk ..) λi hi=>by
 rw[dk]at hi;rw[jh hi,zw7]
theorem p_(a b:Rat)(ns:List Int)(m n:Nat)(xs:List Rat):cj a b ns n (cj a b ns m xs)=cj a b ns (m+n) xs:=EY (by rw[dk,dk,dk]) λi hi=>by
 rw[dk,dk]at hi;rw[jh (by rw[dk];exact hi),jh hi,jh hi,zxz]
theorem o_{a:Rat}(h:ns.length=xs.length+1)(hn:∀n∈ns,0<=n):cj a b ns 1 xs=cQ a b ns xs:=EY (by rw[dk,lP h]) λi hi=>by
 rw[dk]at hi;rw[jh hi,zxR,ZR h hn hi]
 rfl
structure d_(a b:Rat)(ns:List Int)(n:Nat):Prop where
 ok:aR a b
 sz:du ns
 bK:n<=60
 k:(6*ns.sum.toNat+1+1)*n<=1600
theorem RB{a:Rat}(h:aR a b):ag 6 a:=by
 have h1:=h.a0;have h2:=h.a4;have h3:=h.ad;have n0:0<=a.num:=Qi.mpr (vT h1)
 have n1:a.num<=4*a.den:=by
  have:=(Xh a 4).mp h2
  simpa using this
 have e:(2:Nat)^6=64:=by decide
 exact⟨⟨by rw[e];lia⟩,⟨by rw[e];lia⟩⟩
theorem jk{a:Rat}(h:aR a b)(S:Nat):ag (6*S+1) (a^S):=(RB h).pow S
theorem d_.le{a:Rat}(h:d_ a b ns n)(e:m<=n):d_ a b ns m:=⟨h.ok,h.sz,Wa e h.bK,Wa (qM _ e) h.k⟩
theorem d_.pow{a:Rat}(h:d_ a b ns n)(hi:i<=n):ag 1601 ((a^ns.sum.toNat)^i):=((jk h.ok _).pow i).mono (by
 have h1:=(h.le hi).k;have h2:=Wf i (show 6*ns.sum.toNat+1<=6*ns.sum.toNat+1+1 by lia);lia)
theorem d_.aD{a:Rat}(h:d_ a b ns n)(hi:i<=n):ag 1601 (aD (a^ns.sum.toNat) 1 i):=(Pg (jk h.ok _) i).mono (by have:=(h.le hi).k;lia)
theorem nC{a:Rat}(h:aR a b)(k:du ns):cW a b ns (cP (ns.length-1)):=⟨h.ba,h.bb,λn hn=>by have:=k.each n hn;lia,by rw[zL];have:=k.some;lia,by have:=k.bK;lia,⟨1,pU _,by have:=k.bK;have:=k.upTo;lia⟩⟩
theorem FO{a:Rat}(h:aR a b)(k:du ns):Cm 185 (df a b ns):=(Bt (ns:=ns) h.ba h.bb (pU (ns.length-1))).mono (by have:=k.bK;have:=k.upTo;lia)
theorem tJ{a:Rat}(h:aR a b)(k:du ns)(i:Nat):ag 185 ((df a b ns).getD i 0):=(FO h k).get i
theorem du.nn(k:du ns):∀n∈ns,0<=n:=λn hn=>by have:=k.each n hn;lia
theorem du.pos(k:du ns):1<=ns.sum/\ns.sum<=8:=by
 refine⟨?_,k.sum⟩;have h1:=zl k.nn;have h2:=k.some
 match ns,h2,k.each with
 | n::ns,_,he =>
  have:=he n (wz ..);rw[vd,Vk]at h1;lia
theorem rk{a:Rat}(h:aR a b){S:Nat}(hS:1<=S):a^S=1 ↔ a=1:=by
 obtain⟨m,rfl⟩:∃m,S=m+1:=⟨S-1,by lia⟩
 constructor
 ·intro e
  by_cases z:a<1
  ·have:=LV h.a0 z m
   rw[e]at this;exact absurd this (by grind)
  ·by_cases y:a=1
   ·exact y
   ·have z3:1<a:=Qa (Vu.mp z) (WE y)
    have:=zua z3 m;rw[e]at this;exact absurd this (by grind)
 ·intro e
  rw[e,GM.one_pow']
theorem zwj{a:Rat}(hF:a^ns.sum.toNat≠1)(hi:i<(cK a b ns).length):(cK a b ns).getD i 0*(1-a^ns.sum.toNat)=(df a b ns).getD i 0:=by
 rw[Oo hi];exact W8 (λe=>hF (by grind))
theorem zBp{a:Rat}(h:aR a b)(S n:Nat):ag ((6*S+3)*n+1) ((a^S)^n):=((jk h S).pow n).mono (by have:=Wf n (show 6*S+1<=6*S+3 by lia);lia)
theorem R_{a:Rat}(h:aR a b)(S n:Nat):ag ((6*S+3)*n+1) (aD (a^S) 1 n):=(Pg (jk h S) n).mono (by have:=Wf n (show 6*S+1+1<=6*S+3 by lia);lia)
def Oq(K:wb):Sp:=λvs H Q _=>∃x0 x1 x2,vs=[x0,x1,x2] /\ ∃(F:Rat)(n:Int)(xs ss:List Rat),x2=.int n/\Is K H x0 (.tuple [N F,TN ss])/\Is K H x1 (TN xs)/\0<=n/\n<=64/\ss.length=xs.length/\xs.length<=50/\ag 2000 F/\(∀i,i<=n.toNat->ag 2000 (F^i))/\(∀i,i<=n.toNat->ag 2000 (aD F 1 i))/\(∀i,ag 6900 (xs.getD i 0))/\(∀i,ag 6900 (ss.getD i 0)) /\ ∀v H',ah H H'->Is K H' v (TN ((wt xs.length).map λi=>fP F (ss.getD i 0) n.toNat (xs.getD i 0)))->Q v H'
theorem Pq{F:Rat}{n:Int}{w:V}(h0:Is K H v (.tuple [N F,TN ss]))(h1:Is K H w (TN xs))(n0:0<=n)(n1:n<=64)(hl:ss.length=xs.length)(hf:xs.length<=50)(b0:ag 2000 F)(b1:∀i,i<=n.toNat->ag 2000 (F^i))(b2:∀i,i<=n.toNat->ag 2000 (aD F 1 i))(b3:∀i,ag 6900 (xs.getD i 0))(b4:∀i,ag 6900 (ss.getD i 0))(q:∀v H',ah H H'->Is K H' v (TN ((wt xs.length).map λi=>fP F (ss.getD i 0) n.toNat (xs.getD i 0)))->Q v H'):Oq K [v,w,.int n] H Q E:=⟨_,_,_,rfl,F,n,xs,ss,rfl,h0,h1,n0,n1,hl,hf,b0,b1,b2,b3,b4,q⟩
theorem TU(T:Txt K mg a):aG P w K mg base aS 4 a.J3 a.I0 z7 (Oq K):=by
 refine T.A3.F.ok S_ ?_ ?_;wtm_at "b3"
 refine⟨_,(ar (az 3 S_.nd (au (zm T) hr T.oK (ae (br (ae (ao (pv 0)) (ae (b_ (v:=.ref a.dZ) rfl T.fg rfl) af))) (ae (pv 2) af))))
     (av (aB (au (RO T) hr T.AY (by exact(@ae _ _ _ _ _ (pv 0) (@ae _ _ _ _ _ (pv 1) (@ae _ _ _ _ _ (ao (pv 3)) (@ae _ _ _ _ _ (ao (pv 3)) af eX) eX) fO) fO)))))),?_⟩
 wtm_at "cl";rw[show start Yb [x0,x1,x2]=[some x0,some x1,some x2,none]from rfl];obtain⟨F,n,xs,ss,rfl,h0,h1,n0,n1,hl,hf,b0,b1,b2,b3,b4,q⟩:=h;o_head aA (j:=0) h0 rfl (λv1 i1=>?_);o_head EU i1 (d9 1 (T.sE _) rfl rfl) (λv2 H2 S2 i2=>?_);o_head P9 i2 (b0.mono (by decide)) (ag.one.mono (by decide)) n0 n1 (λi hi=>(b1 i hi).mono (by decide)) (λi hi=>(b2 i hi).mono (by decide)) (λv3 H3 S3 i3=>?_);k_few;rename_i v4 i4 v5 i5;have T3:=S2.trans S3;refine Yj (h0.by T3) (h1.by T3) i4 i5 hl hf (b1 _ (wo _)) (b2 _ (wo _)) b3 b4 (λv6 H6 S6 i6=>?_);exact q v6 H6 (T3.trans S6) i6
def NT(K:wb):Sp:=λvs H Q _=>∃x0 x1 x2 x3,vs=[x0,x1,x2,x3] /\ ∃(ra rb:Rat)(ns:List Int)(xs:List Rat)(n:Int),x3=.int n/\Is K H x0 (R ra rb)/\Is K H x1 (TZ ns)/\Is K H x2 (TN xs)/\ns.length=xs.length+1/\0<=n/\d_ ra rb ns n.toNat/\(∀i,ag 6900 (xs.getD i 0)) /\ ∀v H',ah H H'->Is K H' v (TN (cj ra rb ns n.toNat xs))->Q v H'
theorem RP{n:Int}{w:V}(h0:Is K H v (R ra rb))(h1:Is K H w (TZ ns))(h2:Is K H u (TN xs))(hl:ns.length=xs.length+1)(n0:0<=n)(ok:d_ ra rb ns n.toNat)(b:∀i,ag 6900 (xs.getD i 0))(q:∀v H',ah H H'->Is K H' v (TN (cj ra rb ns n.toNat xs))->Q v H'):NT K [v,w,u,.int n] H Q E:=⟨_,_,_,_,rfl,ra,rb,ns,xs,n,rfl,h0,h1,h2,hl,n0,ok,b,q⟩
theorem ON(T:Txt K mg a):aG P w K mg base aS 8 a.G9 a.GI Ac (NT K):=by
 refine T.AL.F.ok zk2 ?_ ?_;wtm_at "b4";refine⟨_,(av (aB (au (TU T) hr T.A3 (ae (au (pA T) hr T.mK (ae (pv 0) (ae (pv 1) af))) (ae (pv 2) (ae (pv 3) af)))))),?_⟩;wtm_at "cl";rw[show start CT [x0,x1,x2,x3]=[some x0,some x1,some x2,some x3]from rfl];obtain⟨ra,rb,ns,xs,n,rfl,hr',hn',hx',hl,n0,ok,bx,q⟩:=h;have h8:=ok.sz.bK;have hp:=ok.sz.pos;have hn60:=ok.bK;o_head rY hr' hn' (nC ok.ok ok.sz) (by lia) (by lia) (λv1 H1 S1 i1=>?_);o_head Pq (ss:=df ra rb ns) i1 (hx'.by S1) n0 (by lia) (by rw[m4 (by lia)];lia) (by lia) (by have:=ok.sz.sum;exact(jk ok.ok _).mono (by lia)) (λi hi=>(ok.pow hi).mono (by decide)) (λi hi=>(ok.aD hi).mono (by decide)) bx (λi=>(tJ ok.ok ok.sz i).mono (by decide)) (λv2 H2 S2 i2=>?_);exact q v2 H2 (S1.trans S2) i2
theorem Ms{k:Nat}{F:Rat}(h:ag k F):∀i:Nat,∃U:Int,GM.sumTo (aD F 1) i=wB U ((F.den:Int)^i)/\Bd ((k+2)*i+2) U
 | 0=>⟨0,by simp[GM.sumTo],⟨by simp⟩⟩
 | i+1=>by
  obtain⟨U,e,bU⟩:=Ms h i;obtain⟨T,e2,bT,bd⟩:=Ag h i;have hd:(F.den:Int)^i≠0:=qo (gT F);have hd1:(F.den:Int)^(i+1)≠0:=qo (gT F);have ed:(F.den:Int)^(i+1)=(F.den:Int)^i*(F.den:Int):=V9 ..;have h1:(k+2)*(i+1)=(k+2)*i+(k+2):=qY ..;have h2:(k+1)*i<=(k+2)*i:=Wf i (by lia);refine⟨(U+T)*(F.den:Int),?_,((bU.add bT).mul h.b).mono (by lia)⟩
  symm
  refine fY hd1 ?_;have k1:=cY U hd;have k2:=cY T hd;have e3:(((U+T)*(F.den:Int):Int):Rat)=((U:Rat)+(T:Rat))*((F.den:Int):Rat):=by rw[vS,qP]
  rw[GM.sumTo,e,e2,ed,vS,e3,<- k1,<- k2]
  grind
theorem Mt{F:Rat}(h:ag k F)(i:Nat):ag ((k+2)*i+2) (GM.sumTo (aD F 1) i):=by
 obtain⟨U,e,bU⟩:=Ms h i;obtain⟨T,e2,bT,bd⟩:=Ag h i;rw[e];exact ag.divInt (qo (gT F)) bU (bd.mono (by have:=Wf i (show k<=k+2 by lia);lia))
theorem d_.sums{a:Rat}(h:d_ a b ns n)(hi:i<=n):ag 1662 (GM.sumTo (GM.aD (a^ns.sum.toNat) 1) i):=(Mt (jk h.ok _) i).mono (by
 have h1:=(h.le hi).k;have h2:=(h.le hi).bK;have e:(6*ns.sum.toNat+1+2)*i=(6*ns.sum.toNat+1+1)*i+i:=by rw[<- qB]
 lia)
theorem zA6(F s x:Rat)(n:Nat):GM.sumTo (λk=>fP F s k x) n=aD F 1 n*x+GM.sumTo (aD F 1) n*s:=by
 unfold fP;rw[Ol]
 have e1:GM.sumTo (λk=>F^k*x) n=aD F 1 n*x:=by
  rw[<- Od F n,Qf,<- FH];exact sI n λk _=>Qf ..
 have e2:GM.sumTo (λk=>aD F 1 k*s) n=GM.sumTo (aD F 1) n*s:=by
  rw[Qf (GM.sumTo (aD F 1) n) s,<- FH];exact sI n λk _=>Qf ..
 rw[e1,e2]
def RC(K:wb):Sp:=λvs H Q _=>∃x0 x1 x2,vs=[x0,x1,x2] /\ ∃(a b:Rat)(ns:List Int)(n:Int)(xs:List Rat),x2=.int n/\Is K H x0 (.tuple [N (a^ns.sum.toNat),TN (df a b ns)])/\Is K H x1 (TN xs)/\0<=n/\d_ a b ns n.toNat/\ns.length=xs.length+1/\(∀i,ag 6900 (xs.getD i 0)) /\ ∀v H',ah H H'->Is K H' v (TN (fZ (aD (a^ns.sum.toNat) 1 n.toNat) (GM.sumTo (aD (a^ns.sum.toNat) 1) n.toNat) xs (df a b ns)))->Q v H'
theorem ZV{a:Rat}{n:Int}{w:V}(h0:Is K H v (.tuple [N (a^ns.sum.toNat),TN (df a b ns)]))(h1:Is K H w (TN xs))(n0:0<=n)(ok:d_ a b ns n.toNat)(hl:ns.length=xs.length+1)(bx:∀i,ag 6900 (xs.getD i 0))(q:∀v H',ah H H'->Is K H' v (TN (fZ (aD (a^ns.sum.toNat) 1 n.toNat) (GM.sumTo (aD (a^ns.sum.toNat) 1) n.toNat) xs (df a b ns)))->Q v H'):RC K [v,w,.int n] H Q E:=⟨_,_,_,rfl,a,b,ns,n,xs,rfl,h0,h1,n0,ok,hl,bx,q⟩
theorem zj6(T:Txt K mg a):aG P w K mg base aS 4 a.GZ a.Gz Ar (RC K):=by
 refine T.GK.F.ok oh ?_ ?_;wtm_at "b3"
 refine⟨_,(ar (az 3 oh.nd (b_ (v:=.ref a.dy) rfl T.dW rfl))
     (ar (az 4 oh.nd (b_ (v:=.ref a.dy) rfl T.dW rfl))
     (ar (g6 vP rfl (jR rfl T.h0j (ae (pv 2) af)) (bP (i:=5) oh.nd rfl (Or.inl rfl)) (ar (az 4 oh.nd (au (gu T) hr T.fQ (ae (pv 4) (ae (pv 3) af))))
     (av (az 3 oh.nd (au (gu T) hr T.fQ (ae (au (kN T) hr T.jL (ae (ao (pv 0)) (ae (pv 3) af))) (ae (b_ (v:=.ref a.dZ) rfl T.fg rfl) af)))))))
     (av (aB (au (RO T) hr T.AY (by exact(@ae _ _ _ _ _ (pv 0) (@ae _ _ _ _ _ (pv 1) (@ae _ _ _ _ _ (pv 3) (@ae _ _ _ _ _ (pv 4) af fO) fO) fO) fO)))))))),?_⟩
 wtm_at "cl";rw[show start Kp [x0,x1,x2]=[some x0,some x1,some x2,none,none,none]from rfl];obtain⟨ra,rb,ns,n,xs,rfl,h0,h1,n0,ok,hl,bx,q⟩:=h;have h8:=ok.sz.bK;have h60:=ok.bK;have bF:ag 49 (ra^ns.sum.toNat):=(jk ok.ok _).mono (by have:=ok.sz.sum;lia);generalize hF:ra^ns.sum.toNat=F at *;o_head lD (n:=n) (by lia) (by lia) (λi σ H'=>∃(f g:V)(o:Option V),σ = [some x0,some x1,some (.int n),some f,some g,o]/\ah H H'/\Is K H' f (N (aD F 1 i))/\Is K H' g (N (GM.sumTo (aD F 1) i))) ⟨_,_,_,rfl,ah.refl H,d9 0 (T.eU _) rfl rfl,d9 0 (T.eU _) rfl rfl⟩ ?_ ?_
 . rintro i σ H' hi ⟨f,g,o,rfl,S1,hf,hg⟩
   have h01:=h0.by S1;have bf:ag 1601 (aD F 1 i):=by rw[<- hF];exact ok.aD (by lia)
   have bg:ag 1662 (GM.sumTo (aD F 1) i):=by rw[<- hF];exact ok.sums (by lia)
   have bm:ag 1700 (F*aD F 1 i):=(bF.mul bf).mono (by decide);k_few;rename_i v2 H2 S2 i2;refine aA (j:=0) (h01.by S2) rfl (λv3 i3=>?_);have hf2:=hf.by S2;k_few;rename_i v4 H4 S4 i4 v5 H5 S5 i5;exact⟨_,_,_,rfl,S1.trans (S2.trans (S4.trans S5)),i5,i2.by (S4.trans S5)⟩
 . rintro σ H' ⟨f,g,o,rfl,S1,hf,hg⟩
   have bf:ag 2000 (aD F 1 n.toNat):=by rw[<- hF];exact(ok.aD (wo _)).mono (by decide)
   have bg:ag 2000 (GM.sumTo (aD F 1) n.toNat):=by rw[<- hF];exact(ok.sums (wo _)).mono (by decide)
   o_head Yj (h0.by S1) (h1.by S1) hf hg (by rw[m4 (by lia)];lia) (by lia) bf bg bx (λi=>(tJ ok.ok ok.sz i).mono (by decide)) (λv2 H2 S2 i2=>?_);exact q v2 H2 (S1.trans S2) i2
theorem L9{c d:Nat}{p q:Rat}(hx:Cm m xs)(hs:Cm j ss)(bp:ag c p)(bq:ag d q):Cm (m+j+c+d+1) (fZ p q xs ss):=by
 obtain⟨B,h0,h1,h2⟩:=hx;obtain⟨D,g0,g1,g2⟩:=hs;have hb:0<B*(p.den:Int)*(D*(q.den:Int)):=vQ (vQ h0 (den_pos p)) (vQ g0 (den_pos q));refine⟨_,hb,((h1.mul bp.b).mul (g1.mul bq.b)).mono (by lia),λx hx=>?_⟩;obtain⟨i,hi,rfl⟩:=wU.mp hx;have hi:=wH.mp hi;obtain⟨u,eu,bu⟩:=h2 _ (getD_mem (d:=0) hi)
 have hv:∃v:Int,ss.getD i 0=wB v D/\Bd j v:=by
  rcases wA i ss.length with z | z
  ·exact g2 _ (getD_mem z)
  ·rw[wa,wL z]
   exact⟨0,by simp,⟨by simp;exact Wi j⟩⟩
 obtain⟨v,ev,bv⟩:=hv;refine⟨p.num*u*(D*(q.den:Int))+q.num*v*(B*(p.den:Int)),?_,(((bp.t.mul bu).mul (g1.mul bq.b)).add ((bq.t.mul bv).mul (h1.mul bp.b))).mono (by lia)⟩
 symm
 show wB _ _=p*xs.getD i 0+q*ss.getD i 0
 refine fY (by lia) ?_;have k1:=cY u (show B≠0 by lia);have k2:=cY v (show D≠0 by lia);have k3:=j8 p;have k4:=j8 q;rw[eu,ev];simp only[qP,vS];rw[<- k1,<- k2,<- k3,<- k4];generalize wB u B=y;generalize wB v D=z;generalize (B:Rat)=B';generalize (D:Rat)=D';generalize ((p.den:Int):Rat)=P';generalize ((q.den:Int):Rat)=Q'
 grind
theorem zCw{a:Rat}(ok:d_ a b ns n)(c:Cm m xs):Cm (m+188+2*((6*ns.sum.toNat+3)*n)) (cj a b ns n xs):=(L9 c (FO ok.ok ok.sz) (zBp ok.ok _ n) (R_ ok.ok _ n)).mono (by lia)
def rf(a b:Rat)(ns:List Int)(xs:List Rat)(n:Nat):Rat:=GM.sumTo (λk=>fj a b ns (cj a b ns k xs)) n
def iT(a b:Rat)(ns:List Int)(xs:List Rat)(n:Nat):List Rat:=(fZ (aD (a^ns.sum.toNat) 1 n) (GM.sumTo (aD (a^ns.sum.toNat) 1) n) xs (df a b ns)).map λt=>t / ((n:Int):Rat)
theorem Q_(a b:Rat)(ns:List Int)(xs:List Rat)(n:Nat):(iT a b ns xs n).length=xs.length:=by unfold iT;rw[wm,mZ]
theorem Bw(h:1<=n):((n:Int):Rat)≠0:=λe=>by
 have:=Vn.mp e;lia
theorem T_{a:Rat}(hi:i<xs.length):(iT a b ns xs n).getD i 0=(fZ (aD (a^ns.sum.toNat) 1 n) (GM.sumTo (aD (a^ns.sum.toNat) 1) n) xs (df a b ns)).getD i 0 / ((n:Int):Rat):=by
 unfold iT;rw[wa,wu,wc (by rw[mZ];exact hi),wa,wc (by rw[mZ];exact hi)]
 rfl
theorem zr7{a:Rat}(hl:ns.length=xs.length+1)(h1:1<=n):((n:Int):Rat)*fj a b ns (iT a b ns xs n)=rf a b ns xs n:=by
 unfold rf;refine R3 hl (λk=>cj a b ns k xs) (λk=>dk ..) n _ h1 (Q_ ..) λi hi=>?_
 rw[T_ hi,W8 (Bw h1),UL hi,<- zA6];exact sI n λk _=>(jh hi).symm
theorem MY(h:n<=60):ag 6 ((n:Int):Rat):=by
 have e:(2:Nat)^6=64:=by decide
 exact⟨⟨by rw[uX,e];lia⟩,⟨by rw[uY];decide⟩⟩
theorem zzn{a:Rat}(h:aR a b)(S n:Nat):ag ((6*S+3)*n+2) (GM.sumTo (aD (a^S) 1) n):=Mt (jk h S) n
theorem Pk{a:Rat}(ok:d_ a b ns n)(c:Cm m xs):Cm (m+189+2*((6*ns.sum.toNat+3)*n)) (fZ (aD (a^ns.sum.toNat) 1 n) (GM.sumTo (aD (a^ns.sum.toNat) 1) n) xs (df a b ns)):=(L9 c (FO ok.ok ok.sz) (R_ ok.ok _ n) (zzn ok.ok _ n)).mono (by lia)
theorem zyH{a:Rat}(ok:d_ a b ns n)(h1:1<=n)(c:Cm m xs):Cm (m+195+2*((6*ns.sum.toNat+3)*n)) (iT a b ns xs n):=by
 unfold iT;exact(Lz (Pk ok c) (MY ok.bK) (Bw h1)).mono (by lia)
def Ph(K:wb):Sp:=λvs H Q _=>∃x0 x1 x2 x3,vs=[x0,x1,x2,x3] /\ ∃(ra rb:Rat)(ns:List Int)(xs:List Rat)(n:Int)(m:Nat),x3=.int n/\Is K H x0 (R ra rb)/\Is K H x1 (TZ ns)/\Is K H x2 (TN xs)/\ns.length=xs.length+1/\0<=n/\d_ ra rb ns n.toNat/\Cm m xs/\m+2*((6*ns.sum.toNat+3)*n.toNat)<=6700 /\ ∀v H',ah H H'->Is K H' v (N (rf ra rb ns xs n.toNat))->Q v H'
theorem zmP{n:Int}{w:V}(h0:Is K H v (R ra rb))(h1:Is K H w (TZ ns))(h2:Is K H u (TN xs))(hl:ns.length=xs.length+1)(n0:0<=n)(ok:d_ ra rb ns n.toNat)(c:Cm m xs)(hm:m+2*((6*ns.sum.toNat+3)*n.toNat)<=6700)(q:∀v H',ah H H'->Is K H' v (N (rf ra rb ns xs n.toNat))->Q v H'):Ph K [v,w,u,.int n] H Q E:=⟨_,_,_,_,rfl,ra,rb,ns,xs,n,m,rfl,h0,h1,h2,hl,n0,ok,c,hm,q⟩
theorem zAc{n:Int}(q:∀v H',ah H H'->Is K H' v (N (n:Rat))->Q v H'):mi K [.int n,.int 1] H Q:=eY (r:=(n:Rat)) (uX n).symm (by rw[uY];rfl) q
theorem zn7(T:Txt K mg a):aG P w K mg base aS 8 a.Ij a.G1 tW (Ph K):=by
 refine T.G7.F.ok FG ?_ ?_;wtm_at "b4"
 refine⟨_,(ar (bQ (bZ mW (pv 3) ay (bC _)) (av (aB (b_ (v:=.ref a.dy) rfl T.dW rfl))) bR)
     (ar (az 4 FG.nd (br (ae (pv 3) (ae ay af))))
     (ar (az 5 FG.nd (dY (show aJ _ (.type "tuple") (eQ K)from fX) rfl T.h0i ee (ae (d7 rfl (cR.by (N':=["total","count"]) (src:=[none,some 4]) rfl (by kernel_rfl)) (j7 (au (zj6 T) hr T.GK (ae (au (pA T) hr T.mK (ae (pv 0) (ae (pv 1) af))) (ae (pv 2) (ae (pv 3) af))))) (λ_ _ _ _ _=>(bP (i:=0) (of_decide_eq_true (by kernel_rfl)) rfl (Or.inl rfl))) (λ_ _ _ _ _=>dM) (λ_ _ _ _ _=>(au (UD (K:=K) (mg:=mg) (a:=a) T) hr T.Ba (ae (pv 0) (ae (pv 1) af))))) af)))
     (av (aB (au (kN T) hr T.jL (ae (pv 4) (ae (au (zoF T) hr T.Hq (ae (pv 0) (ae (pv 1) (ae (pv 5) af)))) af)))))))),?_⟩
 wtm_at "cl";rw[show start Mp [x0,x1,x2,x3]=[some x0,some x1,some x2,some x3,none,none]from rfl];obtain⟨ra,rb,ns,xs,n,m,rfl,hr',hn',hx',hl,n0,ok,c,hm,q⟩:=h;have h8:=ok.sz.bK;have hp:=ok.sz.pos;have h60:=ok.bK;have hu:=ok.sz.upTo;obtain⟨n,rfl⟩:∃j:Nat,n=(j:Int):=⟨n.toNat,by lia⟩;rw[wP]at q ok h60 hm;k_few
 . rename_i z
   have hz:n=0:=by lia
   subst hz;exact q _ H (ah.refl _) (d9 0 (T.eU _) rfl rfl)
 . rename_i z
   have h1n:1<=n:=by lia
   have cM:=zyH ok h1n c;have hml:=Q_ ra rb ns xs n;have hne:=Bw h1n;have bn:ag 6 ((n:Int):Rat):=MY h60;refine zAc (λv1 H1 S1 i1=>?_);o_head rY (hr'.by S1) (hn'.by S1) (nC ok.ok ok.sz) (by lia) (by lia) (λv2 H2 S2 i2=>?_);have T2:=S1.trans S2;o_head ZV (a:=ra) (b:=rb) (ns:=ns) i2 (hx'.by T2) (by lia) (by rw[wP];exact ok) hl (λi=>(c.get i).mono (by lia)) (λv3 H3 S3 i3=>?_);rw[wP]at i3;have i13:=i1.by (S2.trans S3);obtain⟨a3,us,rfl,hs3,t3⟩:=bX.mp i3;have hul:=t3.length;rw[wm,mZ]at hul;have bw:∀i,ag 8100 ((fZ (aD (ra^ns.sum.toNat) 1 n) (GM.sumTo (aD (ra^ns.sum.toNat) 1) n) xs (df ra rb ns)).getD i 0):=λi=>((Pk ok c).get i).mono (by lia)
   o_head jo hs3 (o0:=none) (tl:=[some v1]) rfl (λj y H'=>Is K H' y (N ((iT ra rb ns xs n).getD j 0))) ?_ ?_
   . intro D j x ys o H4 hx inv
     obtain⟨hj,ix⟩:=dC t3 hx;rw[mZ]at hj;o_head RN (ix.by inv.same) (i13.by inv.same) ((bw j).mono (by decide)) (bn.mono (by decide)) hne (λv5 H5 S5 i5=>?_);rw[<- T_ hj]at i5;exact d5 inv (by lia) fK ⟨_,rfl⟩ S5 i5
   . intro D ys H4 hn4 S4 e4 hl4 hr4
     have tz:ak K H4 ys ((iT ra rb ns xs n).map N):=gc (by rw[hl4,hul,hml]) hr4;o_head iQ (dE e4 tz) (λv5 H5 S5 i5=>?_);have T5:=T2.trans (S3.trans (S4.trans S5));have rok:cW ra rb ns (iT ra rb ns xs n):=⟨ok.ok.ba,ok.ok.bb,λk hk=>by have:=ok.sz.each k hk;lia,by rw[hml];exact hl,by lia,⟨_,cM,by lia⟩⟩;o_head zoJ (hr'.by T5) (hn'.by T5) i5 rok cM (by lia) (λv6 H6 S6 i6=>?_);have bt:ag 8000 (fj ra rb ns (iT ra rb ns xs n)):=(Kt rok cM (by lia) (wo _)).d4 (wz ..);have i16:=i13.by (S4.trans (S5.trans S6));k_few;rename_i v7 H7 S7 i7;rw[zr7 hl h1n]at i7;exact q v7 H7 (T5.trans (S6.trans S7)) i7
def oA(ts:List Rat):List Bool:=ts.map λx=>decide (1<x)
theorem Zs{ts:List Rat}(h:i<ts.length):(oA ts).getD i true=decide (1<ts.getD i 0):=by
 unfold oA;rw[wa,wu,wa,wc h]
 rfl
def jX(a b:Rat)(ns:List Int):Bool:=!((oA (dD a b ns (cK a b ns))).any id)
theorem zsX{a:Rat}(h:aR a b)(k:du ns)(hF:a^ns.sum.toNat≠1):cW a b ns (cK a b ns):=⟨h.ba,h.bb,λn hn=>by have:=k.each n hn;lia,by rw[p8 k.some];have:=k.some;lia,by have:=k.bK;lia,⟨268,zzj h.ba h.bb k.bK k.upTo (by have:=k.sum;lia) hF,by have:=k.bK;have:=k.upTo;lia⟩⟩
def PK(K:wb):Sp:=λvs H Q _=>∃x0 x1,vs=[x0,x1] /\ ∃(a b:Rat)(ns:List Int),Is K H x0 (R a b)/\Is K H x1 (TZ ns)/\aR a b/\du ns/\a≠1 /\ ∀H',ah H H'->Q (.bl (jX a b ns)) H'
theorem N2{a:Rat}{w:V}(h1:Is K H v (R a b))(h2:Is K H w (TZ ns))(ok:aR a b)(sz:du ns)(ha:a≠1)(q:∀H',ah H H'->Q (.bl (jX a b ns)) H'):PK K [v,w] H Q E:=⟨_,_,rfl,a,b,ns,h1,h2,ok,sz,ha,q⟩
theorem U5(T:Txt K mg a):aG P w K mg base aS 9 a.Hw a.GR AG (PK K):=by
 refine T.AO.F.ok zmr ?_ ?_;wtm_at "b2";refine⟨_,(av (aB (nF (bE (show aJ _ (.builtin "any") (C0 K)from zwT rfl) rfl T.h0x zDs (ae (d7 rfl (cR.by (N':=["top"]) (src:=[none]) rfl (by kernel_rfl)) (j7 (au (PV T) hr T.A_ (ae (pv 0) (ae (pv 1) (ae (au (O0 T) hr T.A8 (ae (pv 0) (ae (pv 1) af))) af))))) (λ_ _ _ _ _=>(bP (i:=0) (of_decide_eq_true (by kernel_rfl)) rfl (Or.inl rfl))) (λ_ _ _ _ _=>dM) (λ_ _ _ _ _=>(au (gZ (K:=K) (mg:=mg) (a:=a) T) hr T.gk (ae (b_ (v:=.ref a.dZ) rfl T.fg rfl) (ae (pv 0) af))))) af))))),?_⟩;wtm_at "cl";rw[show start Gr [x0,x1]=[some x0,some x1]from rfl];obtain⟨ra,rb,ns,hr',hn',ok,sz,ha,q⟩:=h;have h8:=sz.bK;have hps:=sz.pos;have hF:ra^ns.sum.toNat≠1:=λe=>ha ((rk ok (by lia)).mp e)
 have rok:=zsX ok sz hF;o_head N8 hr' hn' (nC ok sz) (by lia) (by lia) (λe=>absurd e hF) (λ_ v1 H1 S1 i1=>?_);o_head SF (hr'.by S1) (hn'.by S1) i1 rok (λv2 H2 S2 i2=>?_);obtain⟨a2,us,rfl,hs2,t2⟩:=bX.mp i2;have hl2:=t2.length;rw[wm,iR]at hl2;refine jo hs2 (o0:=none) (tl:=[]) rfl (λi v H=>v=V.bl ((oA (dD ra rb ns (cK ra rb ns))).getD i true)) ?_ ?_
 ·rintro D i x ys o H3 hx inv
  obtain⟨hi,ix⟩:=dC t2 hx;rw[iR]at hi;have ix3:=ix.by inv.same;have b1:=U_ rok hi;have b2:ag 1 1:=ag.one;k_few;exact d5 inv (by lia) (λ_ _ _ _ _ h=>h) ⟨_,rfl⟩ (ah.refl _) (by rw[Zs (by rw[iR];exact hi)])
 ·rintro D ys H3 hn3 S3 e3 hl3 hr3
  have hz:=tZ (bs:=oA (dD ra rb ns (cK ra rb ns))) (by unfold oA;rw[wm,iR];lia) hr3;rw[hz]at e3;o_head zAh (.of e3) ?_;k_few;exact q _ (S1.trans (S2.trans S3))
def nD(ss:List Rat):List Bool:=ss.map λs=>decide (s=0)
theorem zxh{ts:List Rat}(h:i<ts.length):(nD ts).getD i true=decide (ts.getD i 0=0):=by
 unfold nD;rw[wa,wu,wa,wc h]
 rfl
def eT(a b:Rat)(ns:List Int)(xs:List Rat):Bool:=if 1<a then decide (xs=cK a b ns)else if a=1 then(nD (df a b ns)).all id else jX a b ns
def Po(K:wb):Sp:=λvs H Q _=>∃x0 x1 x2,vs=[x0,x1,x2] /\ ∃(a b:Rat)(ns:List Int)(xs:List Rat),Is K H x0 (R a b)/\Is K H x1 (TZ ns)/\Is K H x2 (TN xs)/\aR a b/\du ns /\ ∀H',ah H H'->Q (.bl (eT a b ns xs)) H'
theorem zoy{a:Rat}{w:V}(h1:Is K H v (R a b))(h2:Is K H w (TZ ns))(h3:Is K H u (TN xs))(ok:aR a b)(sz:du ns)(q:∀H',ah H H'->Q (.bl (eT a b ns xs)) H'):Po K [v,w,u] H Q E:=⟨_,_,_,rfl,a,b,ns,xs,h1,h2,h3,ok,sz,q⟩
theorem zoG(T:Txt K mg a):aG P w K mg base aS 10 a.IA a.G6 zj (Po K):=by
 refine T.Hy.F.ok TX ?_ ?_;wtm_at "b3"
 refine⟨_,(ar (az 3 TX.nd (au (U6 T) hr T.A9 (ae (pv 0) af)))
     (ar (bQ (bZ (show aN _ (wT .Eq) (cO K)from dG hu) (pv 3) iY (bC _)) (av (aB (e_ (show aN _ (wT .Eq) (cO K)from dG hu) (dY (show aJ _ (.type "tuple") (eQ K)from fX) rfl T.h0i ee (ae (pv 2) af)) (au (O0 T) hr T.A8 (ae (pv 0) (ae (pv 1) af))) (bC _)))) bR)
     (ar (bQ (bZ (show aN _ (wT .Eq) (cO K)from dG hu) (pv 3) iY (bC _)) (av (aB (bE (show aJ _ (.builtin "all") (lA K)from nP rfl) rfl T.h0t oj (ae (d7 rfl (cR.by (N':=["shift"]) (src:=[none]) rfl (by kernel_rfl)) (j7 (ao (au (pA T) hr T.mK (ae (pv 0) (ae (pv 1) af))))) (λ_ _ _ _ _=>(bP (i:=0) (of_decide_eq_true (by kernel_rfl)) rfl (Or.inl rfl))) (λ_ _ _ _ _=>dM) (λ_ _ _ _ _=>(e_ (show aN _ (wT .Eq) (cO K)from dG hu) (pv 0) (b_ (v:=.ref a.dy) rfl T.dW rfl) (bC _)))) af)))) bR)
     (av (aB (au (U5 T) hr T.AO (ae (pv 0) (ae (pv 1) af)))))))),?_⟩
 wtm_at "cl";rw[show start SH [x0,x1,x2]=[some x0,some x1,some x2,none]from rfl];obtain⟨ra,rb,ns,xs,hr',hn',hx',ok,sz,q⟩:=h;have h8:=sz.bK;have h1:=sz.some;have hps:=sz.pos;o_head MZ hr' (ok.ba.mono (by decide)) ?_;unfold rF;unfold eT at q
 by_cases z1:1<ra
 . rw[if_pos z1]at q ⊢
   have hF:ra^ns.sum.toNat≠1:=λe=>absurd ((rk ok (by lia)).mp e) (by grind)
   o_head ke _ _ true (by rw[wY];decide) ?_;o_head N3 hx' ?_;o_head N8 hr' hn' (nC ok sz) (by lia) (by lia) (λe=>absurd e hF) (λ_ v1 H1 S1 i1=>?_);o_head Eg (hx'.by S1) i1 ?_;exact q _ S1
 . rw[if_neg z1]at q ⊢
   by_cases z2:ra=1
   . rw[if_pos z2]at q ⊢
     o_head ke _ _ false (by rw[wY];decide) ?_;o_head ke _ _ true (by rw[wY];decide) ?_;o_head rY hr' hn' (nC ok sz) (by lia) (by lia) (λv1 H1 S1 i1=>?_);o_head aA (j:=1) i1 rfl (λv2 i2=>?_);obtain⟨a2,us,rfl,hs2,t2⟩:=bX.mp i2;have hl2:=t2.length;rw[wm]at hl2;have hsl:(df ra rb ns).length=ns.length-1:=m4 h1;have t2:ak K H1 us ((df ra rb ns).map N):=t2;have hl2:us.length=(df ra rb ns).length:=hl2;refine jo hs2 (o0:=none) (tl:=[]) rfl (λi v H=>v=V.bl ((nD (df ra rb ns)).getD i true)) ?_ ?_
     . rintro D i x ys o H3 hx inv
       obtain⟨hi,ix⟩:=dC t2 hx;have ix3:=ix.by inv.same;k_few;exact d5 inv (by lia) (λ_ _ _ _ _ h=>h) ⟨_,rfl⟩ (ah.refl _) (by rw[zxh hi])
     . rintro D ys H3 hn3 S3 e3 hl3 hr3
       have hz:=tZ (bs:=nD (df ra rb ns)) (by unfold nD;rw[wm];lia) hr3;rw[hz]at e3;o_head mz (.of e3) ?_;exact q _ (S1.trans S3)
   . rw[if_neg z2]at q ⊢
     o_head ke _ _ false (by rw[wY];decide) ?_;o_head ke _ _ false (by rw[wY];decide) ?_;k_few;exact N2 hr' hn' ok sz z2 q
theorem R9{a:Rat}(hF:a^ns.sum.toNat≠1)(hl:ns.length=xs.length+1)(k:Nat):cj a b ns k xs=fi ((a^ns.sum.toNat)^k) (cK a b ns) xs:=by
 have hs:(cK a b ns).length=xs.length:=by rw[p8 (by lia)];lia
 refine km (by rw[dk,nu hs,hs]) λi hi=>?_
 rw[dk]at hi;rw[kU hs (by lia),jh hi,zzD (zwj hF (by lia))]
theorem zBH{c:Rat}(c0:0<c)(c1:c<=1)(h:x<=1)(k:y<1):x+c*(y-x)<1:=by
 have h1:=Qj (show 0<=1-c by grind) (show 0<=1-x by grind);have h2:=VZ c0 (show 0<1-y by grind)
 grind
theorem pD{a:Rat} : dQ a b ns xs=true ↔ (∀i,i<xs.length+1->(dP xs).getD (i+1) 0<(dP xs).getD i 0) /\ ∀i,i<ns.length->(dD a b ns xs).getD i 0<1:=by
 unfold dQ;rw[wZ,WO,WO]
 constructor
 ·rintro ⟨h1,h2⟩
  refine⟨λi hi=>?_,λi hi=>?_⟩
  ·have:=h1 _ (wU.mpr ⟨i,wH.mpr hi,rfl⟩)
   exact of_decide_eq_true this
  ·have:=h2 _ (wU.mpr ⟨_,getD_mem (d:=0) (show i<(dD a b ns xs).length by rw[iR];exact hi),rfl⟩)
   exact of_decide_eq_true this
 ·rintro ⟨h1,h2⟩
  refine⟨λx hx=>?_,λx hx=>?_⟩
  ·obtain⟨i,hi,rfl⟩:=wU.mp hx
   exact decide_eq_true (h1 i (wH.mp hi))
  ·obtain⟨t,ht,rfl⟩:=wU.mp hx
   obtain⟨i,hi,rfl⟩:=wU.mp ht;have:=h2 i (wH.mp hi);rw[jW (wH.mp hi)]at this;exact decide_eq_true this
theorem zyf{a:Rat}(c:Rat)(hn:ns.length=xs.length+1)(h:xs.length=ys.length)(hi:i<ns.length):(dD a b ns (fi c xs ys)).getD i 0=(dD a b ns xs).getD i 0+c*((dD a b ns ys).getD i 0-(dD a b ns xs).getD i 0):=by
 have hm:(i+1) % ns.length<ns.length:=qm _ (by lia);rw[jW hi,jW hi,jW hi,<- Nr c h,BU a b ns c (by simp[h]) (i+1) (by simp;lia),kU (by rw[de,de];simp[h]) (by rw[de];simp;lia)]
theorem RH:∀l:List Rat,(∀i,i+1<l.length->l.getD (i+1) 0<l.getD i 0)->l.Pairwise (· > ·)
 | [],_=>.nil
 | x::l,h=>by
  have h':∀i,i+1<l.length->l.getD (i+1) 0<l.getD i 0:=λi hi=>by
   have:=h (i+1) (by simp;lia)
   simpa using this
  have hd:∀j,j<l.length->l.getD j 0<x:=λj=>by
   induction j with
   | zero=>intro hj;have:=h 0 (by simp;lia);simpa using this
   | succ j ih=>intro hj;have h3:=h' j hj;have h4:=ih (by lia);grind
  refine W9.mpr ⟨λy hy=>?_,RH l h'⟩;obtain⟨j,hj,e⟩:=wX hy;have:=hd j hj;rw[wa,wc hj]at this
  show y<x
  rw[<- e];exact this
theorem zzp{l:List Rat}(h:l.Pairwise (· > ·))(hi:i+1<l.length):l.getD (i+1) 0<l.getD i 0:=by
 rw[wa,wa,wc hi,wc (show i<l.length by lia)];exact(We.mp h) i (i+1) (by lia) hi (by lia)
theorem nW(xs:List Rat)(i:Nat):(dP xs).getD (i+1) 0=(xs++[0]).getD i 0:=by
 unfold dP;rw[Vh]
 rfl
theorem Yg(h:∀i,i<xs.length+1->(dP xs).getD (i+1) 0<(dP xs).getD i 0):iu (xs++[0])/\(xs++[0]).getD 0 0<1:=by
 have pw:(xs++[0]).Pairwise (· > ·):=RH _ λi hi=>by
  have:=h (i+1) (by simp at hi;lia);rw[nW,nW]at this;exact this
 refine⟨⟨pw,λy hy=>?_⟩,?_⟩
 ·rcases vX.mp hy with z | z
  ·exact vT ((qH.mp pw).2.2 y z 0 (w6.mpr rfl))
  ·rw[w6.mp z];exact WZ
 ·have:=h 0 (by lia)
  rw[nW]at this;exact this
theorem SI(pw:(xs++[0]).Pairwise (· > ·))(one:(xs++[0]).getD 0 0<1):∀i,i<xs.length+1->(dP xs).getD (i+1) 0<(dP xs).getD i 0
 | 0,_=>by rw[nW];exact one
 | i+1,hi=>by rw[nW,nW];exact zzp pw (by simp;lia)
theorem Fu{a:Rat}(h:ns.length=xs.length+1):cQ a b ns xs++[0]=aM a b ns (xs++[0]) ns.length:=by
 have hl:=lP (a:=a) (b:=b) h;have hr:(aM a b ns (xs++[0]) ns.length).length=xs.length+1:=by rw[de];simp
 refine km (by rw[hr,wR,hl];rfl) λi hi=>?_
 rw[wR,hl]at hi;have hi:i<xs.length+1:=hi;rcases wA i xs.length with z | z
 ·rw[EI (by lia),EO h z]
 ·have e:i=xs.length:=by lia
  have e2:(cQ a b ns xs++[0]).getD i 0=0:=by rw[e,<- hl];exact pK
  rw[e2,e,h,aM,gJ _ _ _ _ _ _ (by rw[de];simp),if_pos rfl]
theorem Ra{a b:Rat}(a0:0<a)(b0:0<=b){ns:List Int}{row:List Rat}(F:iu row)(one:row.getD 0 0<1)(iI:∀t,t<row.length->eH a b ns row t<1):∀i,i<=row.length->iu (turned a b ns row i)
 | 0,_=>F
 | i+1,hi=>by
  have ih:=Ra a0 b0 F one iI i (by lia)
  have oi:(aM a b ns row i).getD i 0<1:=by
   cases i with
   | zero=>exact one
   | succ j =>
    have:=iI j (by lia);unfold eH at this;rw[xp (by lia)]at this;exact this
  obtain⟨x,l,ex⟩:∃x l,turned a b ns row i=x::l:=by
   cases e:turned a b ns row i with
   | nil =>
    have:=B7 a b ns row (by lia) i;rw[e]at this;simp at this;lia
   | cons x l=>exact⟨x,l,rfl⟩
  have hx:x=(aM a b ns row i).getD i 0:=by
   have:=Bx a b ns row (show i<row.length by lia);rw[ex]at this;exact this
  show iu (mw a b (ns.getD i 0).toNat (turned a b ns row i))
  rw[ex]at ih ⊢;exact ih.step a0 b0 (by rw[hx];exact oi)
theorem Ly{a:Rat}(ok:aR a b)(hn:ns.length=xs.length+1)(f:dQ a b ns xs=true):∀i,i<(cQ a b ns xs).length+1->(dP (cQ a b ns xs)).getD (i+1) 0<(dP (cQ a b ns xs)).getD i 0:=by
 obtain⟨h1,h2⟩:=pD.mp f;obtain⟨F,one⟩:=Yg h1;have hl:(xs++[0]).length=ns.length:=by simp[hn]
 have iI:∀t,t<(xs++[0]).length->eH a b ns (xs++[0]) t<1:=λt ht=>by
  have:=h2 t (by lia);rw[jW (by lia)]at this;unfold eH;rw[hl];exact this
 have Fl:=Ra ok.a0 ok.b0 F one iI (xs++[0]).length (wo _);rw[hl,zuN a b ns _ hl.symm,<- Fu hn]at Fl;have t:=iI (ns.length-1) (by lia);unfold eH at t;rw[hl,show ns.length-1+1=ns.length by lia,Nat.mod_self,<- Fu hn]at t;exact SI Fl.pw t
theorem zC6{a:Rat}(h:aR a b){S:Nat}(hS:1<=S)(ha:a<1):0<a^S/\a^S<=1:=by
 obtain⟨m,rfl⟩:∃m,S=m+1:=⟨S-1,by lia⟩;exact⟨mh h.a0 _,vT (LV h.a0 ha m)⟩
theorem zwJ{a:Rat}(ok:aR a b)(sz:du ns)(hn:ns.length=xs.length+1)(ha:a<1)(d:jX a b ns=true)(f:dQ a b ns xs=true):dQ a b ns (cj a b ns 1 xs)=true:=by
 have hps:=sz.pos
 have hF:a^ns.sum.toNat≠1:=λe=>by
  have:=(rk ok (by lia)).mp e;rw[this]at ha;exact absurd ha (by decide)
 have hs:(cK a b ns).length=xs.length:=by rw[p8 sz.some];lia
 refine pD.mpr ⟨?_,λi hi=>?_⟩
 ·rw[o_ hn sz.nn]
  exact Ly ok hn f
 ·rw[R9 hF hn 1,zyf _ (by lia) hs hi]
  have hp:=zC6 ok (show 1<=ns.sum.toNat by lia) ha;have e1:(a^ns.sum.toNat)^1=a^ns.sum.toNat:=by rw[WL,V8,QW]
  rw[e1];refine zBH hp.1 hp.2 ?_ ((pD.mp f).2 i hi);unfold jX at d;rw[WV,List.any_eq_false]at d;have:=d (decide (1<(dD a b ns (cK a b ns)).getD i 0)) (wU.mpr ⟨_,getD_mem (d:=0) (show i<(dD a b ns (cK a b ns)).length by rw[iR];exact hi),rfl⟩)
  by_cases z:1<(dD a b ns (cK a b ns)).getD i 0
  ·exact absurd (decide_eq_true z) this
  ·exact Vu.mp z
theorem zzv(c:Rat)(xs:List Rat):fi c xs xs=xs:=km (nu rfl) λi hi=>by
 rw[nu rfl]at hi;rw[kU rfl hi]
 grind
def cg(a b:Rat)(ns:List Int)(xs:List Rat)(k:Nat):Bool:=dQ a b ns (cj a b ns k xs)
theorem q_{a:Rat}(ok:aR a b)(sz:du ns)(hk:k<=31):d_ a b ns k:=⟨ok,sz,by lia,by
 have h1:=sz.sum;have h2:(6*ns.sum.toNat+1+1)*k<=50*k:=Wf k (by lia);lia⟩
theorem Oh{a:Rat}(ok:aR a b)(sz:du ns)(c:Cm m xs)(hk:k<=31):Cm (m+188+102*k) (cj a b ns k xs):=(zCw (q_ ok sz hk) c).mono (by
 have h1:=sz.sum;have h2:(6*ns.sum.toNat+3)*k<=51*k:=Wf k (by lia);lia)
theorem Ci{a:Rat}(ok:aR a b)(sz:du ns)(hn:ns.length=xs.length+1)(c:Cm m xs)(hm:m<=3700)(hk:k<=30):cW a b ns (cj a b ns k xs):=⟨ok.ba,ok.bb,λn hn=>by have:=sz.each n hn;lia,by rw[dk];exact hn,by have:=sz.bK;lia,⟨_,Oh ok sz c (by lia),by have:=sz.bK;have:=sz.upTo;lia⟩⟩
def Ek(K:wb)(a:Ad):Sp:=λvs H Q E=>∃x0 x1 x2,vs=[x0,x1,x2] /\ ∃(ra rb:Rat)(ns:List Int)(xs:List Rat),Is K H x0 (R ra rb)/\Is K H x1 (TZ ns)/\Is K H x2 (TN xs)/\aR ra rb/\du ns/\ns.length=xs.length+1/\cW ra rb ns xs/\(eT ra rb ns xs=false->∃n:Nat,n<=30/\(n=30\/cg ra rb ns xs n=false)/\(∀k,k<=n->cW ra rb ns (cj ra rb ns k xs))/\(∀k,k<n->∀j,ag 6900 ((cj ra rb ns k xs).getD j 0))) /\
 (cg ra rb ns xs 0=false->∀H',ah H H'->Q (.int 0) H') /\
 (cg ra rb ns xs 0=true->eT ra rb ns xs=true->∀H',ah H H'->Q .a_ H') /\
 (∀c:Nat,1<=c->c<=30->eT ra rb ns xs=false->(∀k,k<c->cg ra rb ns xs k=true)->cg ra rb ns xs c=false->∀H',ah H H'->Q (.int (c:Int)) H') /\
 (eT ra rb ns xs=false->(∀k,k<=30->cg ra rb ns xs k=true)->∀H',ah H H'->E (.ref a.fC) none H')
theorem zmw{w:V}(h1:Is K H v (R ra rb))(h2:Is K H w (TZ ns))(h3:Is K H u (TN xs))(ok:aR ra rb)(sz:du ns)(hn:ns.length=xs.length+1)(r0:cW ra rb ns xs)(hb:eT ra rb ns xs=false->∃n:Nat,n<=30/\(n=30\/cg ra rb ns xs n=false)/\(∀k,k<=n->cW ra rb ns (cj ra rb ns k xs))/\(∀k,k<n->∀j,ag 6900 ((cj ra rb ns k xs).getD j 0)))
  (q0:cg ra rb ns xs 0=false->∀H',ah H H'->Q (.int 0) H')
  (q1:cg ra rb ns xs 0=true->eT ra rb ns xs=true->∀H',ah H H'->Q .a_ H')
  (q2:∀c:Nat,1<=c->c<=30->eT ra rb ns xs=false->(∀k,k<c->cg ra rb ns xs k=true)->cg ra rb ns xs c=false->∀H',ah H H'->Q (.int (c:Int)) H')
  (q3:eT ra rb ns xs=false->(∀k,k<=30->cg ra rb ns xs k=true)->∀H',ah H H'->E (.ref a.fC) none H'):Ek K a [v,w,u] H Q E:=⟨_,_,_,rfl,ra,rb,ns,xs,h1,h2,h3,ok,sz,hn,r0,hb,q0,q1,q2,q3⟩
theorem zni{w:V}(h1:Is K H v (R ra rb))(h2:Is K H w (TZ ns))(h3:Is K H u (TN xs))(ok:aR ra rb)(sz:du ns)(hn:ns.length=xs.length+1)(c:Cm m xs)(hm:m<=3700)
  (q0:cg ra rb ns xs 0=false->∀H',ah H H'->Q (.int 0) H')
  (q1:cg ra rb ns xs 0=true->eT ra rb ns xs=true->∀H',ah H H'->Q .a_ H')
  (q2:∀c:Nat,1<=c->c<=30->eT ra rb ns xs=false->(∀k,k<c->cg ra rb ns xs k=true)->cg ra rb ns xs c=false->∀H',ah H H'->Q (.int (c:Int)) H')
  (q3:eT ra rb ns xs=false->(∀k,k<=30->cg ra rb ns xs k=true)->∀H',ah H H'->E (.ref a.fC) none H'):Ek K a [v,w,u] H Q E :=
 zmw h1 h2 h3 ok sz hn (by have:=Ci ok sz hn c hm (k:=0) (by decide);rw[kK]at this;exact this) (λ_=>⟨30,wo 30,.inl rfl,λk hk=>Ci ok sz hn c hm hk,λk hk j=>((Oh ok sz c (k:=k) (by lia)).get j).mono (by lia)⟩) q0 q1 q2 q3
theorem znl(T:Txt K mg a):aG P w K mg base (eW P w) 11 a.HM a.GY AB (Ek K a):=by
 refine T.G3.F.oV pT ?_ ?_;wtm_at "b3"
 refine⟨_,(ar (bQ (cU (cz (au (pB T) hr T.mL (ae (pv 0) (ae (pv 1) (ae (pv 2) af)))))) (av (aB ay)) bR)
     (ar (bQ (cz (au (zoG T) hr T.Hy (ae (pv 0) (ae (pv 1) (ae (pv 2) af))))) (av (aB fG)) bR)
     (ar (az 3 pT.nd (au (pA T) hr T.mK (ae (pv 0) (ae (pv 1) af))))
     (ar (az 4 pT.nd (pv 2))
     (ar (g6 ub rfl (zwC rfl T.h0j (ae ay (ae (aC cF (mH rfl T.HI) ay) af))) (bP (i:=5) pT.nd rfl (Or.inl rfl)) (ar (az 4 pT.nd (au (TU T) hr T.A3 (ae (pv 3) (ae (pv 4) (ae ay af)))))
     (av (bQ (cU (cz (au (pB T) hr T.mL (ae (pv 0) (ae (pv 1) (ae (pv 4) af)))))) (av (aB (pv 5))) bR))))
     (av (Lc T.YV rfl rfl T.A2 NS (ae iY af)))))))),?_⟩
 wtm_at "cl";rw[show start Mx [x0,x1,x2]=[some x0,some x1,some x2,none,none,none]from rfl];obtain⟨ra,rb,ns,xs,hr',hn',hx',ok,sz,hn,r0,hb,q0,q1,q2,q3⟩:=h;have h8:=sz.bK;have h1:=sz.some;have hps:=sz.pos;have e0:cg ra rb ns xs 0=dQ ra rb ns xs:=by unfold cg;rw[kK]
 o_head rR hr' hn' hx' r0 (λH1 S1=>?_);k_few
 . rename_i z
   exact q0 (by rw[e0];exact z) H1 S1
 . rename_i z
   have hr1:=hr'.by S1;have hn1:=hn'.by S1;have hx1:=hx'.by S1;refine zoy hr1 hn1 hx1 ok sz (λH2 S2=>?_);k_few
   . rename_i y
     exact q1 (by rw[e0];exact z) y H2 (S1.trans S2)
   . rename_i y
     have y:eT ra rb ns xs=false:=by first | exact y | exact uw _ ▸ y
     obtain⟨n,n30,stop,rd,bd⟩:=hb y;refine rY (hr1.by S2) (hn1.by S2) (nC ok sz) (by lia) (by lia) (λv3 H3 S3 i3=>?_);have T3:ah H H3:=S1.trans (S2.trans S3);have hr3:=hr'.by T3;have hn3:=hn'.by T3;have hx3:=hx'.by T3;clear hr1 hn1 hx1 S1 S2 S3;o_head zzC ?_;o_head zud (lo:=1) (hi:=31) (by decide) (by decide) (by decide) (by decide) (λi σ H'=>∃(v:V)(o:Option V),σ = [some x0,some x1,some x2,some v3,some v,o]/\ah H3 H'/\Is K H' v (TN (cj ra rb ns i xs)) /\ ∀k,k<=i->cg ra rb ns xs k=true) ⟨_,_,rfl,ah.refl _,by rw[kK];exact hx3,λk hk=>by rw[show k=0 by lia,e0];exact z⟩ ?_ ?_
     . rintro i σ H4 hi ⟨v,o,rfl,S4,iv,fr⟩
       have hi:i<30:=hi;have i34:=i3.by S4
       have hin:i<n:=by
         rcases stop with e | e
         . lia
         . rcases wA i n with u | u
           . exact u
           . rw[fr n u]at e;cases e
       o_head Pq (ss:=df ra rb ns) i34 iv (by decide) (by decide) (by rw[m4 h1,dk];lia) (by rw[dk];lia) ((jk ok _).mono (by have:=sz.sum;lia)) (λj hj=>((q_ ok sz (k:=1) (by decide)).pow hj).mono (by decide)) (λj hj=>((q_ ok sz (k:=1) (by decide)).aD hj).mono (by decide)) (λj=>bd i hin j) (λj=>(tJ ok sz j).mono (by decide)) (λv5 H5 S5 i5=>?_);have i5:Is K H5 v5 (TN (cj ra rb ns 1 (cj ra rb ns i xs))):=i5;rw[p_]at i5;have T5:=S4.trans S5;o_head rR (hr3.by T5) (hn3.by T5) i5 (rd (i+1) (by lia)) (λH6 S6=>?_);have T6:=T5.trans S6;k_few
       . rename_i w
         have q:=q2 (i+1) (by lia) (by lia) y (λk hk=>fr k (by lia)) (by unfold cg;exact w) H6 (T3.trans T6);rw[show((i+1:Nat):Int)=1+(i:Int) by lia]at q;exact q
       . rename_i w
         refine⟨_,_,rfl,T6,i5.by S6,λk hk=>?_⟩;rcases wA k (i+1)with u | u
         . exact fr k (by lia)
         . have:k=i+1:=by lia
           subst this;unfold cg
           first | exact w | exact Bool.not_eq_false _ ▸ w
     . rintro σ H4 ⟨v,o,rfl,S4,iv,fr⟩
       k_few;exact⟨by simp;decide,q3 y (λk hk=>fr k hk) H4 (T3.trans S4)⟩
def NI(K:wb):Sp:=λvs H Q _=>∃x0 x1,vs=[x0,x1] /\ ∃(h:Rat)(xs:List Rat)(ds:List wC),Is K H x0 (.tuple (N h::TN xs::ds))/\x1=.int (xs.length:Int)/\xs.length<=8 /\ ∀H',ah H H'->Q (.bl true) H'
theorem MB(i:Is K H v (.tuple (N h::TN xs::ds)))(h8:xs.length<=8)(q:∀H',ah H H'->Q (.bl true) H'):NI K [v,.int (xs.length:Int)] H Q E:=⟨_,_,rfl,h,xs,ds,i,rfl,h8,q⟩
theorem ME(T:Txt K mg a):aG P w K mg base aS 3 a.Jj a.Hv yn (NI K):=by
 refine T.AU.F.ok Z4 ?_ ?_;wtm_at "b2"
 refine⟨_,(ar (bQ (PW.pt (fN (cU (cz (au (rG T) hr T.mJ (ae (ao (pv 0)) af)))) (fN (cU (cz (bE (show aJ _ (.builtin "isinstance") (eJ K)from jw) rfl T.h0c iM (ae (ao (pv 0)) (ae (ik (v:=.ty "tuple") rfl T.h0i ee rfl) af))))) (iD (bZ (show aN _ (wT .NotEq) (f_ K)from jO hu) (bE (show aJ _ (.builtin "len") (dj K)from d6) rfl T.h0r dU (ae (ao (pv 0)) af)) (pv 1) (bC _)))))) (av (aB eI)) bR)
     (av (aB (bE (show aJ _ (.builtin "all") (lA K)from nP rfl) rfl T.h0t oj (ae (d7 rfl (cR.by (N':=["phase"]) (src:=[none]) rfl (by kernel_rfl)) (j7 (ao (pv 0))) (λ_ _ _ _ _=>(bP (i:=0) (of_decide_eq_true (by kernel_rfl)) rfl (Or.inl rfl))) (λ_ _ _ _ _=>dM) (λ_ _ _ _ _=>(au (rG (K:=K) (mg:=mg) (a:=a) T) hr T.mJ (ae (pv 0) af)))) af))))),?_⟩
 wtm_at "cl";rw[show start CN [x0,x1]=[some x0,some x1]from rfl];obtain⟨hh,xs,ds,hi,rfl,h8,q⟩:=h;o_head aA (j:=0) hi rfl (λv0 i0=>?_);k_few
 all_goals first | (rename_i e;rw[pj]at e;cases (show true=false from e)) | skip
 refine aA (j:=1) hi rfl (λv1 i1=>?_);k_few
 all_goals first | (rename_i e;cases (show true=false from e)) | skip
 refine aA (j:=1) hi rfl (λv2 i2=>?_);o_head RA i2 ?_;k_few
 all_goals first | (rename_i e;exact absurd rfl e) | skip
 refine aA (j:=1) hi rfl (λv3 i3=>?_);k_few;obtain⟨a3,vs3,rfl,s3,t3⟩:=bX.mp i3;refine jo s3 (o0:=none) (tl:=[]) rfl (λj y _=>y=.bl true) ?_ ?_
 . intro D j x ys o H1 hx inv
   obtain⟨hj,ix⟩:=dC t3 hx;have ix:=ix.by inv.2.2.1;k_few;rw[pj];exact d5 inv (by lia) (λ_ _ _ _ _ h=>h) ⟨_,rfl⟩ (ah.refl _) rfl
 . intro D ys H1 n1 S1 e1 l1 r1
   have ey:ys=(vc ys.length true).map V.bl:=by
     refine WN (by simp) λi h1 h2=>?_
     rw[r1 i ys[i] (wc h1)];simp
   rw[ey]at e1;o_head mz (.of e1) ?_;rw[show(vc ys.length true).all id=true by simp];exact q _ S1
def YA(K:wb):Sp:=λvs H Q _=>∃x0 x1,vs=[x0,x1] /\ ∃(h:Rat)(xs:List Rat)(f g:Int),Is K H x0 (.tuple [N h,TN xs,.int f,.int g])/\x1=.int (xs.length:Int)/\xs.length<=8/\0<=f/\f<=30/\0<=g/\g<=40 /\ ∀H',ah H H'->Q (.bl true) H'
theorem zxa{f g:Int}(e:xs.length=n)(i:Is K H v (.tuple [N h,TN xs,.int f,.int g]))(h8:xs.length<=8)(f0:0<=f)(f1:f<=30)(g0:0<=g)(g1:g<=40)(q:∀H',ah H H'->Q (.bl true) H'):YA K [v,.int (n:Int)] H Q E:=⟨_,_,rfl,h,xs,f,g,i,by rw[e],h8,f0,f1,g0,g1,q⟩
theorem zwz(T:Txt K mg a):aG P w K mg base aS 4 a.J7 a.Jk zM (YA K):=by
 refine T.JB.F.ok zwG ?_ ?_;wtm_at "b2"
 refine⟨_,(ar (bQ (PW.pt (fN (cU (cz (bE (show aJ _ (.builtin "isinstance") (eJ K)from jw) rfl T.h0c iM (ae (pv 0) (ae (ik (v:=.ty "tuple") rfl T.h0i ee rfl) af))))) (fN (bZ (show aN _ (wT .NotEq) (f_ K)from jO hu) (bE (show aJ _ (.builtin "len") (dj K)from d6) rfl T.h0r dU (ae (pv 0) af)) ay (bC _)) (iD (cU (cz (au (ME T) hr T.AU (ae (pv 0) (ae (pv 1) af))))))))) (av (aB eI)) bR)
     (av (aB (eO (au (Sm T) hr T.AK (ae ay (ae (mH rfl T.HI) (ae (ao (pv 0)) af)))) (gE (au (Sm T) hr T.AK (ae ay (ae (mH rfl T.YN) (ae (ao (pv 0)) af))))))))),?_⟩
 wtm_at "cl";rw[show start B6 [x0,x1]=[some x0,some x1]from rfl];obtain⟨hh,xs,f,g,hi,rfl,h8,f0,f1,g0,g1,q⟩:=h;k_few
 all_goals first | (rename_i e;cases (show true=false from e)) | skip
 refine lg hi ?_;k_few
 all_goals first | (rename_i e;exact absurd rfl e) | skip
 refine MB hi h8 (λH1 S1=>?_);have hi1:=hi.by S1;o_head aA (j:=2) hi1 rfl (λv2 i2=>?_);o_head Lq i2 ?_;rw[show lM 0 30 (.int f)=true by simp[lM,f0,f1]];o_head aA (j:=3) hi1 rfl (λv3 i3=>?_);o_head Lq i3 ?_;rw[show lM 0 40 (.int g)=true by simp[lM,g0,g1]];exact q _ S1
def iK(w:String):Prop:=w="one"\/w="rests"\/w="drawn"
def Rb(K:wb):Sp:=λvs H Q _=>∃x0 x1,vs=[x0,x1] /\ ∃(h:Rat)(xs:List Rat)(w:String),Is K H x0 (.tuple [N h,TN xs,.str (wW w)])/\x1=.int (xs.length:Int)/\xs.length<=8/\iK w /\ ∀H',ah H H'->Q (.bl true) H'
theorem ZU{w:String}(e:xs.length=n)(i:Is K H v (.tuple [N h,TN xs,.str (wW w)]))(h8:xs.length<=8)(hw:iK w)(q:∀H',ah H H'->Q (.bl true) H'):Rb K [v,.int (n:Int)] H Q E:=⟨_,_,rfl,h,xs,w,i,by rw[e],h8,hw,q⟩
def rK:List wC:=[.str (wW "one"),.str (wW "rests"),.str (wW "drawn")]
theorem Am{w:PySem.Str}(h:XI w=true):Sh 1 (.str w):=⟨by simpa [vU] using h,by simp[Vg]⟩
theorem zt6 :vU (.tuple rK)=true:=(nZ (n:=1) λd hd=>by
 simp only[rK,wF,WA,or_false]at hd;rcases hd with rfl | rfl | rfl<;>exact Am (rJ _)).1
theorem zDa{w:String}(t:aU K H p [.str (wW "one"),.str (wW "rests"),.str (wW "drawn")])(h:iK w)(q:Q (.bl true) H):pY K (.str (wW w)) (.ref p) H Q:=by
 refine⟨.str (wW w),rK,eZ.mpr rfl,bX.mpr ⟨p,_,rfl,t,.cons (eZ.mpr rfl) (.cons (eZ.mpr rfl) (.cons (eZ.mpr rfl) .nil))⟩,(Am (rJ _)).mono (by decide),zt6,?_⟩
 rw[show rK.any (wY · (.str (wW w)))=true by
  unfold rK;simp only[Qt,List.any_nil,wY,Ud,uM,beq_iff_eq];rcases h with rfl | rfl | rfl<;>simp]
 exact q
theorem zmU(T:Txt K mg a):aG P w K mg base aS 4 a.HF a.GW sJ (Rb K):=by
 refine T.Hg.F.ok znn ?_ ?_;wtm_at "b2";have hgd:=hr.gd
 refine⟨_,(ar (bQ (PW.pt (fN (cU (cz (bE (show aJ _ (.builtin "isinstance") (eJ K)from jw) rfl T.h0c iM (ae (pv 0) (ae (ik (v:=.ty "tuple") rfl T.h0i ee rfl) af))))) (fN (bZ (show aN _ (wT .NotEq) (f_ K)from jO hu) (bE (show aJ _ (.builtin "len") (dj K)from d6) rfl T.h0r dU (ae (pv 0) af)) ay (bC _)) (iD (cU (cz (au (ME T) hr T.AU (ae (pv 0) (ae (pv 1) af))))))))) (av (aB eI)) bR)
     (av (aB (eO (bE (show aJ _ (.builtin "isinstance") (eJ K)from jw) rfl T.h0c iM (ae (ao (pv 0)) (ae (ik (v:=.ty "str") rfl T.h0o zDL rfl) af))) (gE (e_ (show aN _ (wT .In) (pY K)from KO hu) (ao (pv 0)) (b_ (v:=.ref a.A7) rfl T.YW rfl) (by with_unfolding_all rfl))))))),?_⟩
 wtm_at "cl";rw[show start FP [x0,x1]=[some x0,some x1]from rfl];obtain⟨hh,xs,ww,hi,rfl,h8,hw,q⟩:=h;k_few
 all_goals first | (rename_i e;cases (show true=false from e)) | skip
 refine lg hi ?_;k_few
 all_goals first | (rename_i e;exact absurd rfl e) | skip
 refine MB hi h8 (λH1 S1=>?_);have hi1:=hi.by S1;o_head aA (j:=2) hi1 rfl (λv2 i2=>?_);o_head zyO i2 ?_;rw[show CY (.str (wW ww))=true from rfl];o_head aA (j:=2) hi1 rfl (λv3 i3=>?_);cases eZ.mp i3;k_few;exact zDa (T.Y0 _) hw (q _ S1)
structure gX where
 h:Rat
 xs:List Rat
 r:Nat
 g:Nat
def gX.d(e:gX):wC:=.tuple [N e.h,TN e.xs,.int (e.r:Int),.int (e.g:Int)]
def oB(h:Rat)(xs:List Rat)(w:String):wC:=.tuple [N h,TN xs,.str (wW w)]
def OL(K:wb):Sp:=λvs H Q _=>∃x0 x1,vs=[x0,x1] /\ ∃(n:Nat)(ps:List gX)(h:Rat)(xs:List Rat)(w:String),Is K H x0 (.list (ps.map gX.d++[oB h xs w]))/\x1=.int (n:Int)/\n<=8/\(∀e∈ps,e.xs.length=n/\e.r<=30/\e.g<=40)/\xs.length=n/\iK w/\ps.length<=100 /\ ∀H',ah H H'->Q (.bl true) H'
theorem zsa{ps:List gX}{w:String}(i:Is K H v (.list (ps.map gX.d++[oB h xs w])))(h8:n<=8)(hp:∀e∈ps,e.xs.length=n/\e.r<=30/\e.g<=40)(hx:xs.length=n)(hw:iK w)(bK:ps.length<=100)(q:∀H',ah H H'->Q (.bl true) H'):OL K [v,.int (n:Int)] H Q E:=⟨_,_,rfl,n,ps,h,xs,w,i,rfl,h8,hp,hx,hw,bK,q⟩
theorem zw9(ds:List α)(d : α):L2.cutD (ds++[d]) none (some (-1))=ds:=by
 unfold L2.cutD;have e1:HT.aX (ds++[d]).length 0 none=0:=by simp[HT.aX]
 have e2:HT.aX (ds++[d]).length (ds++[d]).length (some (-1))=ds.length:=by
  rw[wR,vV];simp[HT.aX];lia
 rw[e1,e2];simp
theorem zD7{ps:List gX}{us:List V}(t:ak K H us (ps.map gX.d)){x:V}(hx:us[i]? = some x):∃e∈ps,i<ps.length/\Is K H x e.d:=by
 obtain⟨hi,ix⟩:=jF t hx;rw[wm]at hi;refine⟨ps[i],vK hi,hi,?_⟩;rw[wa,wu,wc hi]at ix;exact ix
theorem zsC(T:Txt K mg a):aG P w K mg base aS 5 a.JF a.HG sW (OL K):=by
 refine T.IG.F.ok zsV ?_ ?_;wtm_at "b2"
 refine⟨_,(ar (bQ (PW.pt (fN (cU (cz (bE (show aJ _ (.builtin "isinstance") (eJ K)from jw) rfl T.h0c iM (ae (pv 0) (ae (ik (v:=.ty "list") rfl T.h0m kH rfl) af))))) (iD (cU (zB (pv 0)))))) (av (aB eI)) bR)
     (av (aB (eO (bE (show aJ _ (.builtin "all") (lA K)from nP rfl) rfl T.h0t oj (ae (d7 rfl (cR.by (N':=["row","worms"]) (src:=[none,some 1]) rfl (by kernel_rfl)) (gI (jZ j4 (pv 0) kj (j6 (gr gH ay)))) (λ_ _ _ _ _=>(bP (i:=0) (of_decide_eq_true (by kernel_rfl)) rfl (Or.inl rfl))) (λ_ _ _ _ _=>dM) (λ_ _ _ _ _=>(au (zwz (K:=K) (mg:=mg) (a:=a) T) hr T.JB (ae (pv 0) (ae (pv 1) af))))) af)) (gE (au (zmU T) hr T.Hg (ae (dH dh (pv 0) (gr gH ay) (λ_ _=>rfl)) (ae (pv 1) af)))))))),?_⟩
 wtm_at "cl";rw[show start FY [x0,x1]=[some x0,some x1]from rfl];obtain⟨n,ps,hl',xs,wd,hi,rfl,h8,hp,hx',hw,bK,q⟩:=h;o_head zy3 hi ?_;rw[show k_ (PyData.list (ps.map gX.d++[oB hl' xs wd]))=true from rfl];o_head CH hi ?_;rw[show(!(ps.map gX.d++[oB hl' xs wd]).isEmpty)=true by simp];o_head lQ hi (λl1 H1 us n1 S1 e1 t1=>?_);rw[zw9]at t1;have lt:=t1.length;rw[wm]at lt;o_head ju (.of e1) (o0:=none) (tl:=[some (.int (n:Int))]) rfl (λj y _=>y=.bl true) ?_ ?_
 . intro D j x ys o H2 hx inv
   obtain⟨e,he,hj,ir⟩:=zD7 t1 hx;obtain⟨p1,p2,p3⟩:=hp e he;unfold gX.d at ir;o_head zxa p1 (ir.by inv.2.2.1) (by lia) (by lia) (by lia) (by lia) (by lia) (λH3 S3=>?_);k_few;exact d5 inv (by lia) (λ_ _ _ _ _ h=>h) ⟨_,rfl⟩ S3 rfl
 . intro D ys H2 n2 S2 e2 l2 r2
   have ey:ys=(vc ys.length true).map V.bl:=by
     refine WN (by simp) λi h1 h2=>?_
     rw[r2 i ys[i] (wc h1)];simp
   rw[ey]at e2;o_head mz (.of e2) ?_;rw[show(vc ys.length true).all id=true by simp];have T2:=S1.trans S2;o_head lE (hi.by T2) (λv3 i3=>?_);unfold oB at i3;o_head ZU hx' i3 (by lia) hw (λH3 S3=>?_);exact q _ (T2.trans S3)
theorem oX{a:Rat}(ok:aR a b)(L:fM xs (ps++[0]) fl ns)(hn:ns.length=ps.length+1)(f:dQ a b ns ps=true) :
  fM (ai a b xs ns.length) (cQ a b ns ps++[0]) fl ns/\(∀t,t<ns.length->cE a b (ai a b xs t)=[bD xs.length fl t])/\aE a b xs ns.length=fj a b ns ps:=by
 have hl:(ps++[0]).length=ns.length:=by simp[hn]
 have iI:∀t,t<(ps++[0]).length->eH a b ns (ps++[0]) t<1:=λt ht=>by
  have:=(pD.mp f).2 t (by lia);rw[jW (by lia)]at this;unfold eH;rw[hl];exact this
 obtain⟨P,F,_,W⟩:=z9 ok.a0 ok.b0 L _ (wo _) iI;have ht:=Yr ok.a0 ok.b0 L _ (wo _) iI;rw[hl]at P W ht;rw[<- Fu hn]at P;have st:=Yg (Ly ok hn f);have hbl:=lP (a:=a) (b:=b) hn;have hbl2:(cQ a b ns ps++[0]).length=(ps++[0]).length:=by simp[hbl]
 have hpl:=aY a b xs ns.length;refine⟨⟨P,st.1,st.2,by rw[hbl2];exact L.len,λc hc=>?_,λc hc=>?_⟩,W,?_⟩
 ·rw[hpl];exact L.some c (by lia)
 ·rw[hpl];exact L.size c (by lia)
 ·rw[ht];rfl
theorem me{a b:Rat}(ok:aR a b){xs ps:List Rat}{fl:Nat->Nat}{ns:List Int}(L:fM xs (ps++[0]) fl ns)(hn:ns.length=ps.length+1)(n0:∀n∈ns,0<=n):∀k,(∀j,j<k->cg a b ns ps j=true) ->
  fM (ai a b xs (k*ns.length)) (cj a b ns k ps++[0]) fl ns/\aE a b xs (k*ns.length)=rf a b ns ps k
 | 0,_=>by
  rw[xr,kK];exact⟨L,rfl⟩
 | k+1,h=>by
  obtain⟨Lk,Hk⟩:=me ok L hn n0 k λj hj=>h j (by lia)
  have hl:ns.length=(cj a b ns k ps).length+1:=by rw[dk];exact hn
  obtain⟨L1,_,H1⟩:=oX ok Lk hl (h k (by lia));rw[cw,<- o_ hl n0,p_]at L1;have e:(k+1)*ns.length=k*ns.length+ns.length:=qB ..;rw[e];refine⟨L1,?_⟩;rw[<- jU,Hk,H1]
  rfl
theorem zwg{a:Rat}(ok:aR a b)(L:fM xs (ps++[0]) fl ns)(hn:ns.length=ps.length+1)(n0:∀n∈ns,0<=n){t:Nat}(h:∀j,j<k+1->cg a b ns ps j=true)(ht:t<ns.length):cE a b (ai a b xs (k*ns.length+t))=[bD xs.length fl t]:=by
 obtain⟨Lk,_⟩:=me ok L hn n0 k λj hj=>h j (by lia)
 have hl:ns.length=(cj a b ns k ps).length+1:=by rw[dk];exact hn
 have:=(oX ok Lk hl (h k (by lia))).2.1 t ht;rw[cw,aY]at this;exact this
theorem M7{a b:Rat}(a0:0<a)(b0:0<=b){xs row:List Rat}{fl:Nat->Nat}{ns:List Int}(L:fM xs row fl ns):∀n,n<=row.length->(¬ ∀t,t<n->eH a b ns row t<1)->∃t,t<n/\1<(cE a b (ai a b xs t)).length
 | 0,_,z=>absurd (λt ht=>by lia) z
 | n+1,hn,z=>by
  by_cases y:∀t,t<n->eH a b ns row t<1
  ·refine⟨n,by lia,zwY a0 b0 L (by lia) y (λu=>z λt ht=>?_)⟩
   rcases wA t n with k | k
   ·exact y t k
   ·have:t=n:=by lia
    rw[this];exact u
  ·obtain⟨t,h1,h2⟩:=M7 a0 b0 L n (by lia) y
   exact⟨t,by lia,h2⟩
theorem zwB{a:Rat}(ok:aR a b)(L:fM xs (ps++[0]) fl ns)(hn:ns.length=ps.length+1)(f:dQ a b ns ps=false):∃t,t<ns.length/\1<(cE a b (ai a b xs t)).length:=by
 have hl:(ps++[0]).length=ns.length:=by simp[hn]
 refine M7 ok.a0 ok.b0 L ns.length (by lia) λz=>?_
 have:dQ a b ns ps=true:=pD.mpr ⟨SI L.mQ.pw L.one,λi hi=>by
  have:=z i hi;unfold eH at this;rw[hl]at this;rw[jW hi];exact this⟩
 rw[f]at this;cases this
theorem B5{row:List Rat}(L:fM xs row fl ns)(hn:xs.length=n):((wt n).map λw=>row.getD (fl w) 0)=xs:=by
 refine km (by simp[hn]) λw hw=>?_
 have hw:w<n:=by simpa using hw
 rw[L.pl.at' w (by lia),wa,wu,vM hw]
 rfl
theorem Cp(h1:1<=xs.length)(h8:xs.length<=8):du (aW xs):=by
 have hs:=yP xs;have hv:=kP xs;have hp:=nh h1;refine⟨by lia,by lia,λn hn=>?_,?_⟩
 ·have h2:=ztI xs n hn
  refine⟨?_,by lia⟩;obtain⟨v,hv,rfl⟩:=wU.mp hn;have hm:=kh hv;obtain⟨j,hj,e⟩:=wX hm;have:j∈fV xs v:=vg.mpr ⟨wH.mpr hj,decide_eq_true (by rw[wa,wc hj];exact e)⟩;have:=qt this;lia
 ·have h3:=PD xs
  have:=zl (kZ xs);lia
def fF(a b:Rat)(xs:List Rat)(r:Nat):Prop:=∀k,k<r->cg a b (aW xs) (bA xs) k=true
structure ft(a b:Rat)(xs:List Rat):Prop where
 ok:aR a b
 h1:1<=xs.length
 h8:xs.length<=8
 hp:cu xs
 h0:0∈xs
 cm:Cm 3600 xs
theorem ft.round{a:Rat}(h:ft a b xs):cW a b (aW xs) (bA xs)/\du (aW xs)/\(aW xs).length=(bA xs).length+1:=by
 have hz:bA xs++[0]=aj xs:=DY h.hp h.h0;have h8:=h.h8;have sz:=Cp h.h1 h8;have hsl:=yP xs;have hvl:=kP xs;have hsu:=Lv xs;have hpl:(bA xs).length+1=(aj xs).length:=by rw[<- hz];simp
 refine⟨⟨h.ok.ba,h.ok.bb,λn hn=>by have:=sz.each n hn;lia,by lia,by lia,⟨3600,rW h.cm,by lia⟩⟩,sz,by lia⟩
def KL(K:wb):Sp:=λvs H Q _=>∃x0 x1,vs=[x0,x1] /\ ∃(a b:Rat)(xs:List Rat)(r:Nat),x1=.int (r:Int)/\Is K H x0 (aZ a b xs)/\ft a b xs/\1<=r/\r<=30/\fF a b xs r /\ ∀H',ah H H'->Q (.bl true) H'
theorem zuR{a:Rat}(h:Is K H v (aZ a b xs))(ok:ft a b xs)(r1:1<=r)(h30:r<=30)(f:fF a b xs r)(q:∀H',ah H H'->Q (.bl true) H'):KL K [v,.int (r:Int)] H Q E:=⟨_,_,rfl,a,b,xs,r,rfl,h,ok,r1,h30,f,q⟩
theorem zuB(T:Txt K mg a):aG P w K mg base aS 9 a.JZ a.Ik tI (KL K):=by
 refine T.Jg.F.ok Fz ?_ ?_;wtm_at "b2"
 refine⟨_,(ar (bQ (cU (cz (au (EH T) hr T.sa (ae (pv 0) af)))) (av (aB eI)) bR)
     (ar (az 2 Fz.nd (mE (yj T) hr T.oN DI (ae (pv 0) af)))
     (ar (az 3 Fz.nd (au (ON T) hr T.AL (by exact(@ae _ _ _ _ _ (ao (pv 0)) (@ae _ _ _ _ _ (ao (pv 2)) (@ae _ _ _ _ _ (ao (pv 2)) (@ae _ _ _ _ _ (aC jD (pv 1) ay) af zuP) eX) eX) eX))))
     (av (aB (eO (au (pB T) hr T.mL (ae (ao (pv 0)) (ae (ao (pv 2)) (ae (ao (pv 2)) af)))) (gE (au (pB T) hr T.mL (ae (ao (pv 0)) (ae (ao (pv 2)) (ae (pv 3) af))))))))))),?_⟩
 wtm_at "cl";rw[show start YD [x0,x1]=[some x0,some x1,none,none]from rfl];obtain⟨ra,rb,xs,r,rfl,hw,ok,r1,h30,fr,q⟩:=h;obtain⟨rok,sz,hn⟩:=ok.round;have h8:=ok.h8;have bx:∀i,ag 4000 (xs.getD i 0):=λi=>(ok.cm.get i).mono (by decide)
 have cp:Cm 3600 (bA xs):=rW ok.cm;have e1:((r:Int)-1).toNat=r-1:=by lia
 have hlk:d_ ra rb (aW xs) ((r:Int)-1).toNat:=q_ ok.ok sz (by lia);have hbp:∀i,ag 6900 ((bA xs).getD i 0):=λi=>(cp.get i).mono (by decide)
 have f0:dQ ra rb (aW xs) (bA xs)=true:=by
   have:=fr 0 (by lia);unfold cg at this;rw[kK]at this;exact this
 have f1:dQ ra rb (aW xs) (cj ra rb (aW xs) (r-1) (bA xs))=true:=fr (r-1) (by lia);o_head EX hw ?_;rw[decide_eq_true ok.h0];o_head yu hw h8 bx (λz=>absurd ok.h0 z) (λ_ vl H1 S1 il=>?_);have hw1:=hw.by S1;o_head aA (j:=0) hw1 rfl (λvr ir=>?_);o_head aA (j:=0) il rfl (λvz iz=>?_);o_head aA (j:=1) il rfl (λvp ip=>?_);o_head RP ir iz ip hn (by lia) hlk hbp (λv2 H2 S2 i2=>?_);rw[e1]at i2;o_head aA (j:=0) (hw1.by S2) rfl (λvr2 ir2=>?_);o_head aA (j:=0) (il.by S2) rfl (λvz2 iz2=>?_);o_head aA (j:=1) (il.by S2) rfl (λvp2 ip2=>?_);o_head rR ir2 iz2 ip2 rok (λH3 S3=>?_);rw[f0];have S23:=S2.trans S3;o_head aA (j:=0) (hw1.by S23) rfl (λvr3 ir3=>?_);o_head aA (j:=0) (il.by S23) rfl (λvz3 iz3=>?_);o_head rR ir3 iz3 (i2.by S3) (Ci ok.ok sz hn cp (by decide) (by lia)) (λH4 S4=>?_);rw[f1];exact q _ (S1.trans (S23.trans S4))
def Yi(K:wb):Sp:=λvs H Q _=>∃x0 x1,vs=[x0,x1] /\ ∃(a b:Rat)(xs:List Rat)(r:Nat),x1=.int (r:Int)/\Is K H x0 (aZ a b xs)/\ft a b xs/\r<=30/\fF a b xs r /\ ∀v H',ah H H'->Is K H' v (BD a b xs (r*(aj xs).length))->Q v H'
theorem Co{a:Rat}(h:Is K H v (aZ a b xs))(ok:ft a b xs)(h30:r<=30)(f:fF a b xs r)(q:∀v H',ah H H'->Is K H' v (BD a b xs (r*(aj xs).length))->Q v H'):Yi K [v,.int (r:Int)] H Q E:=⟨_,_,rfl,a,b,xs,r,rfl,h,ok,h30,f,q⟩
theorem CC{K:wb}{H:Hp} : ∀{xs:List Rat}{us:List V},ak K H us (xs.map N)->∃cs:List we,us=cs.map V.ref
 | [],us,h=>⟨[],gU.mp h⟩
 | x::xs,us,h=>by
  obtain⟨v,r,rfl,iv,t⟩:=eD.mp h;obtain⟨a,_,rfl,_,_⟩:=bX.mp (show Is K H v (.tuple _)from iv);obtain⟨cs,rfl⟩:=CC t;exact⟨a::cs,rfl⟩
def fW(x:Rat):List Int:=[x.num,(x.den:Int)]
theorem zzl(h:fW x=fW y):x=y:=by
 unfold fW at h
 injection h with h1 h2
 injection h2 with h2 _
 exact u6 h1 (by lia)
theorem zuk(h:xs.Nodup):(xs.map fW).Nodup:=by
 unfold List.Nodup at *;rw[qw];exact h.imp λ{a b} n e=>n (zzl e)
theorem Pz(h:j<xs.length):(xs.map fW).getD j []=fW (xs.getD j 0):=by
 rw[wa,wu,wa,wc h]
 rfl
theorem zwo{ks:List (List Int)}{us ws:List we}(nd:ks.Nodup)(hl:ks.length=us.length)(hj:j<us.length):lS (gz ks us ws) (ks.getD j [])=some (ws.getD j 0):=by
 unfold lS gz;rw[List.find?_map];have pw:=We.mp nd;cases e:(wt us.length).find? ((λx:NE=>decide (x.1=ks.getD j [])) ∘ λj=>(ks.getD j [],us.getD j 0,ws.getD j 0))with
 | none =>
  have:=List.find?_eq_none.mp e j (wH.mpr hj);simp at this
 | some i =>
  have hm:=wH.mp (xj e);have hp:=uW e;have hp:ks.getD i []=ks.getD j []:=of_decide_eq_true hp;have hi:i<ks.length:=by lia
  have hj':j<ks.length:=by lia
  rw[wa,wa,wc hi,wc hj']at hp
  have hij:i=j:=by
   rcases WU i j with z | z | z
   ·exact absurd hp (pw i j hi hj' z)
   ·exact z
   ·exact absurd hp.symm (pw j i hj' hi z)
  rw[hij];rfl
theorem Zo{cs ws:List we}(t:ak K H (cs.map V.ref) (xs.map N)):yH K H (gz (xs.map fW) cs ws):=by
 intro x hx;obtain⟨j,hj,rfl⟩:=wU.mp hx;have hj:=wH.mp hj;have hl:=t.length;simp only[wm]at hl;have:=(dC t (i:=j) (x:=.ref (cs.getD j 0)) (by rw[wu,wa,wc hj];rfl)).2
 show Is K H (.ref (cs.getD j 0)) (TZ ((xs.map fW).getD j []))
 rw[Pz (by lia)];exact this
theorem TV(T:Txt K mg a):aG P w K mg base aS 9 a.Hj a.GJ zf (Yi K):=by
 refine T.AJ.F.ok rg ?_ ?_;wtm_at "b2"
 refine⟨_,(ar (az 2 rg.nd (mE (yj T) hr T.oN DI (ae (pv 0) af)))
     (ar (az 3 rg.nd (au (ON T) hr T.AL (by exact(@ae _ _ _ _ _ (ao (pv 0)) (@ae _ _ _ _ _ (ao (pv 2)) (@ae _ _ _ _ _ (ao (pv 2)) (@ae _ _ _ _ _ (pv 1) af fO) eX) eX) eX))))
     (ar (az 4 rg.nd (zyh rfl (W7 (Xx (by decide) _) hu) rfl T.h0n rfl T.h0v (ae (aC (show aN _ (WC .Add) (pf K)from F6) (ao (pv 2)) (br (ae (b_ (v:=.ref a.dy) rfl T.dW rfl) af))) (ae (aC (show aN _ (WC .Add) (pf K)from F6) (pv 3) (br (ae (b_ (v:=.ref a.dy) rfl T.dW rfl) af))) af))))
     (ar (az 5 rg.nd (dY (show aJ _ (.type "tuple") (eQ K)from fX) rfl T.h0i ee (ae (d7 rfl (cR.by (N':=["phase","now"]) (src:=[none,some 4]) rfl (by kernel_rfl)) (j7 (ao (pv 0))) (λ_ _ _ _ _=>(bP (i:=0) (of_decide_eq_true (by kernel_rfl)) rfl (Or.inl rfl))) (λ_ _ _ _ _=>dM) (λ_ _ _ _ _=>(show PE _ _ (Ec K _ _)from(zxL (by exact(W7 (Xx (by decide) _) hu)) (pv 1) (pv 0) (λ_ _=>rfl))))) af)))
     (av (aB (br (ae (au (zn7 T) hr T.G7 (by exact(@ae _ _ _ _ _ (ao (pv 0)) (@ae _ _ _ _ _ (ao (pv 2)) (@ae _ _ _ _ _ (ao (pv 2)) (@ae _ _ _ _ _ (pv 1) af fO) eX) eX) eX))) (ae (br (ae (ao (pv 0)) (ae (pv 5) af))) af))))))))),?_⟩
 wtm_at "cl";rw[show start MP [x0,x1]=[some x0,some x1,none,none,none,none]from rfl];obtain⟨ra,rb,xs,r,rfl,hw,ok,h30,fr,q⟩:=h;have hz:bA xs++[0]=aj xs:=DY ok.hp ok.h0;have h1:=ok.h1;have h8:=ok.h8;have sz:=Cp h1 h8;have hsl:=yP xs;have hvl:=kP xs;have hvp:=nh h1;have hpl:(bA xs).length+1=(aj xs).length:=by rw[<- hz];simp
 have hn:(aW xs).length=(bA xs).length+1:=by lia
 have L:fM xs (bA xs++[0]) (aV xs) (aW xs):=by rw[hz];exact N6 ok.hp.nn ok.hp.lt
 obtain⟨Lr,Hr⟩:=me ok.ok L hn (kZ xs) r fr;rw[hsl]at Lr Hr;have hel:=B5 Lr (aY ra rb xs _);have bx:∀i,ag 4000 (xs.getD i 0):=λi=>(ok.cm.get i).mono (by decide)
 have cp:Cm 3600 (bA xs):=rW ok.cm;have hlk:d_ ra rb (aW xs) ((r:Int)).toNat:=by rw[wP];exact q_ ok.ok sz (by lia)
 have hbp:∀i,ag 6900 ((bA xs).getD i 0):=λi=>(cp.get i).mono (by decide)
 o_head yu hw h8 bx (λz=>absurd ok.h0 z) (λ_ vl H1 S1 il=>?_);have hw1:=hw.by S1;o_head aA (j:=0) hw1 rfl (λvr ir=>?_);o_head aA (j:=0) il rfl (λvz iz=>?_);o_head aA (j:=1) il rfl (λvp ip=>?_);o_head RP ir iz ip hn (by lia) hlk hbp (λv2 H2 S2 i2=>?_);rw[wP]at i2;o_head aA (j:=1) (il.by S2) rfl (λvp2 ip2=>?_);o_head cB (ds:=[N 0]) (by simp) (.cons (d9 0 (T.eU _) rfl rfl) .nil) (λv3 H3 S3 i3=>?_);refine CL (ip2.by S3) i3 (by rw[wm];simp;lia) (λv4 H4 S4 i4=>?_);o_head cB (ds:=[N 0]) (by simp) (.cons (d9 0 (T.eU _) rfl rfl) .nil) (λv5 H5 S5 i5=>?_);have S25:=S3.trans (S4.trans S5);refine CL (i2.by S25) i5 (by rw[wm,dk];simp;lia) (λv6 H6 S6 i6=>?_)
 have i46:Is K H6 v4 (TN (aj xs)):=by
   have:=i4.by (S5.trans S6);rw[<- hz];unfold TN;rw[vA];exact this
 have i66:Is K H6 v6 (TN (cj ra rb (aW xs) r (bA xs)++[0])):=by
   unfold TN;rw[vA];exact i6
 have S16:=S2.trans (S25.trans S6);have hw6:=hw1.by S16;have il6:=il.by S16;have T6:=S1.trans S16;clear hw hw1 il ir iz ip i2 ip2 i3 i4 i5 i6 S1 S2 S3 S4 S5 S6 S25 S16;have hrl:(cj ra rb (aW xs) r (bA xs)++[0]).length=(aj xs).length:=by rw[wR,dk];simp;lia
 generalize cj ra rb (aW xs) r (bA xs)++[0]=row at *;obtain⟨aa,us,rfl,hs1,tu⟩:=bX.mp i46;obtain⟨ab,ws,rfl,hs2,tw⟩:=bX.mp i66;obtain⟨cs,rfl⟩:=CC tu;obtain⟨ds,rfl⟩:=CC tw;have hcl:=tu.length;have hdl:=tw.length;simp only[wm]at hcl hdl;have nd:=zuk (B_ xs);have hkl:((aj xs).map fW).length=cs.length:=by rw[wm];lia
 o_head ⟨aa,ab,(aj xs).map fW,cs,ds,rfl,hs1,hs2,by lia,by lia,?_,nd,λD ep hD=>?_⟩
 . rw[WM]
   exact tu
 . have S7:ah H6 (upd H6 D (hJ D ep (gz ((aj xs).map fW) cs ds))):=ah.upd hD
   have e7:upd H6 D (hJ D ep (gz ((aj xs).map fW) cs ds)) D=some (hJ D ep (gz ((aj xs).map fW) cs ds)):=cZ;generalize upd H6 D (hJ D ep (gz ((aj xs).map fW) cs ds))=H7 at *;have tu7:ak K H7 (cs.map V.ref) ((aj xs).map N):=ak.same S7 _ _ tu;have tw7:ak K H7 (ds.map V.ref) (row.map N):=ak.same S7 _ _ tw;have hw7:=hw6.by S7;o_head aA (j:=1) hw7 rfl (λvq iq=>?_);obtain⟨aq,uq,rfl,hsq,tq⟩:=bX.mp iq;have hql:=tq.length;rw[wm]at hql;refine jo hsq (o0:=none) (tl:=[some (.ref D)]) rfl (λj y H'=>Is K H' y (N (((wt xs.length).map λw=>row.getD (aV xs w) 0).getD j 0))) ?_ ?_
   . intro D' j x ys o H8 hx inv
     obtain⟨hj,ix⟩:=dC tq hx;have S8:=inv.same;obtain⟨ax,_,rfl,_,_⟩:=bX.mp (show Is K H7 x (.tuple _)from ix);have hfl:=(ly xs).lt j hj;have hxe:xs.getD j 0=(aj xs).getD (aV xs j) 0:=(ly xs).at' j hj;o_head ⟨D,ax,ep,_,fW (xs.getD j 0),ds.getD (aV xs j) 0,rfl,rfl,S8 _ _ e7,Zo (ak.same S8 _ _ tu7),ix.by S8,?_,?_⟩
     . rw[hxe,<- Pz hfl]
       exact zwo nd hkl (by lia)
     . refine d5 inv (by lia) fK ⟨_,rfl⟩ (ah.refl _) ?_
       have hr:((wt xs.length).map λw=>row.getD (aV xs w) 0).getD j 0=row.getD (aV xs j) 0:=by
         rw[wa,wu,vM hj];rfl
       rw[hr];exact(dC tw7 (i:=aV xs j) (x:=.ref (ds.getD (aV xs j) 0)) (by rw[wu,wa,wc (by lia)];rfl)).2.by S8
   . intro D' ys H8 n8 S8 e8 hl8 hr8
     have t8:ak K H8 ys (((wt xs.length).map λw=>row.getD (aV xs w) 0).map N):=gc (by rw[hl8,hql];simp) hr8;rw[hel]at t8;o_head iQ (dE e8 t8) (λv9 H9 S9 i9=>?_);have S69:=S7.trans (S8.trans S9);o_head aA (j:=0) (hw6.by S69) rfl (λvr9 ir9=>?_);o_head aA (j:=0) (il6.by S69) rfl (λvz9 iz9=>?_);o_head aA (j:=1) (il6.by S69) rfl (λvp9 ip9=>?_);k_few
     refine zmP ir9 iz9 ip9 hn (by lia) hlk cp (by
       have h5:=sz.sum;rw[wP];have:(6*(aW xs).sum.toNat+3)*r<=51*30:=V2 (by lia) h30;lia) (λv10 H10 S10 i10=>?_)
     rw[wP,<- Hr]at i10;o_head aA (j:=0) (hw6.by (S69.trans S10)) rfl (λvr10 ir10=>?_);o_head cB (ds:=[R ra rb,TN (ai ra rb xs (r*(aj xs).length))]) (by simp) (.cons ir10 (.cons (i9.by S10) .nil)) (λv11 H11 S11 i11=>?_);o_head cB (ds:=[N (aE ra rb xs (r*(aj xs).length)),aZ ra rb (ai ra rb xs (r*(aj xs).length))]) (by simp) (.cons (i10.by S11) (.cons i11 .nil)) (λv12 H12 S12 i12=>?_);exact q v12 H12 (T6.trans (S69.trans (S10.trans (S11.trans S12)))) i12
def PF(K:wb):Sp:=λvs H Q _=>∃x0 x1 x2,vs=[x0,x1,x2] /\ ∃(a b:Rat)(xs:List Rat)(r g:Nat),x1=.int (r:Int)/\x2=.int (g:Int)/\Is K H x0 (aZ a b xs)/\aR a b/\1<=xs.length/\xs.length<=8/\(1<=r->ft a b xs/\r<=30/\fF a b xs r)/\g<=40/\ag 8000 (aE a b xs (r*(aj xs).length))/\(∀i,i<=g->Cm 3700 (aE a b (ai a b xs (r*(aj xs).length)) i::ai a b (ai a b xs (r*(aj xs).length)) i)) /\ ∀v H',ah H H'->Is K H' v (BD a b xs (r*(aj xs).length+g))->Q v H'
theorem Nl{a:Rat}{g:Nat}(h:Is K H v (aZ a b xs))(ok:aR a b)(h1:1<=xs.length)(h8:xs.length<=8)(f:1<=r->ft a b xs/\r<=30/\fF a b xs r)(hg:g<=40)(c:ag 8000 (aE a b xs (r*(aj xs).length)))(c2:∀i,i<=g->Cm 3700 (aE a b (ai a b xs (r*(aj xs).length)) i::ai a b (ai a b xs (r*(aj xs).length)) i))(q:∀v H',ah H H'->Is K H' v (BD a b xs (r*(aj xs).length+g))->Q v H'):PF K [v,.int (r:Int),.int (g:Int)] H Q E:=⟨_,_,_,rfl,a,b,xs,r,g,rfl,rfl,h,ok,h1,h8,f,hg,c,c2,q⟩
theorem Yc(T:Txt K mg a):aG P w K mg base aS 10 a.Iq a.Hh ye (PF K):=by
 refine T.AQ.F.ok CB ?_ ?_;wtm_at "b3"
 refine⟨_,(ar (az 3 CB.nd (tP (bZ oy (pv 1) ay (bC _)) (au (TV T) hr T.AJ (ae (pv 0) (ae (pv 1) af))) (br (ae (b_ (v:=.ref a.dy) rfl T.dW rfl) (ae (pv 0) af)))))
     (ar (az 4 CB.nd (au (L5 T) hr T.A5 (ae (ao (pv 3)) (ae (pv 2) af))))
     (av (aB (br (ae (au (gu T) hr T.fQ (ae (ao (pv 3)) (ae (ao (pv 4)) af))) (ae (ao (pv 4)) af))))))),?_⟩
 wtm_at "cl";rw[show start KW [x0,x1,x2]=[some x0,some x1,some x2,none,none]from rfl];obtain⟨ra,rb,xs,r,g,rfl,rfl,hw,ok,h1,h8,f,hg,c,c2,q⟩:=h;k_few
 . rename_i z
   obtain⟨sw,h30,fr⟩:=f (by lia);refine Co hw sw h30 fr (λv1 H1 S1 i1=>?_);o_head aA (j:=1) i1 rfl (λv2 i2=>?_);o_head Dy i2 ok.ba ok.bb (by rw[aY];exact h1) (by rw[aY];exact h8) (by lia) (by lia) (by rw[wP];exact c2) (λv3 H3 S3 i3=>?_);rw[wP]at i3;have i13:=i1.by S3;o_head aA (j:=0) i13 rfl (λv4 i4=>?_);o_head aA (j:=0) i3 rfl (λv5 i5=>?_);have b5:ag 3700 (aE ra rb (ai ra rb xs (r*(aj xs).length)) g):=(c2 g (wo _)).d4 (wz ..);k_few;rename_i v6 H6 S6 i6;refine aA (j:=1) (i3.by S6) rfl (λv7 i7=>?_);k_few;rw[jU]at i6;rw[cw]at i7;refine cB (ds:=[N (aE ra rb xs (r*(aj xs).length+g)),aZ ra rb (ai ra rb xs (r*(aj xs).length+g))]) (by simp) (.cons i6 (.cons i7 .nil)) (λv8 H8 S8 i8=>?_);exact q v8 H8 (S1.trans (S3.trans (S6.trans S8))) i8
 . rename_i z
   have hr0:r=0:=by lia
   refine cB (ds:=[N 0,aZ ra rb xs]) (by simp) (.cons (d9 0 (T.eU _) rfl rfl) (.cons hw .nil)) (λv1 H1 S1 i1=>?_);have i1:Is K H1 v1 (BD ra rb xs (r*(aj xs).length)):=by rw[hr0,xr];exact i1
   o_head aA (j:=1) i1 rfl (λv2 i2=>?_);o_head Dy i2 ok.ba ok.bb (by rw[aY];exact h1) (by rw[aY];exact h8) (by lia) (by lia) (by rw[wP];exact c2) (λv3 H3 S3 i3=>?_);rw[wP]at i3;have i13:=i1.by S3;o_head aA (j:=0) i13 rfl (λv4 i4=>?_);o_head aA (j:=0) i3 rfl (λv5 i5=>?_);have b5:ag 3700 (aE ra rb (ai ra rb xs (r*(aj xs).length)) g):=(c2 g (wo _)).d4 (wz ..);k_few;rename_i v6 H6 S6 i6;refine aA (j:=1) (i3.by S6) rfl (λv7 i7=>?_);k_few;rw[jU]at i6;rw[cw]at i7;refine cB (ds:=[N (aE ra rb xs (r*(aj xs).length+g)),aZ ra rb (ai ra rb xs (r*(aj xs).length+g))]) (by simp) (.cons i6 (.cons i7 .nil)) (λv8 H8 S8 i8=>?_);exact q v8 H8 (S1.trans (S3.trans (S6.trans S8))) i8
def fo(h:Rat)(xs:List Rat)(r g:Nat):wC:=.tuple [N h,TN xs,.int (r:Int),.int (g:Int)]
def cq(a b:Rat)(xs:List Rat)(i r g:Nat):Nat:=i+(r*(aj (ai a b xs i)).length+g)
def oH(a b:Rat)(xs:List Rat)(e:Nat × Nat × Nat):wC:=fo (aE a b xs e.1) (ai a b xs e.1) e.2.1 e.2.2
def om(a b:Rat)(xs:List Rat)(n:Nat)(w:String):wC:=.tuple [N (aE a b xs n),TN (ai a b xs n),.str (wW w)]
def cf(a b:Rat)(xs:List Rat)(es:List (Nat × Nat × Nat))(n:Nat)(w:String):List wC:=es.map (oH a b xs)++[om a b xs n w]
def fA(es:List (Nat × Nat × Nat))(n j:Nat):Nat:=(es.map (·.1)++[n]).getD j 0
theorem zws(es:List (Nat × Nat × Nat))(n:Nat):fA es n es.length=n:=by
 unfold fA;rw[wa,vi (by simp)];simp
theorem Rg{a:Rat}{w:String}(h:j<es.length):(cf a b xs es n w)[j]? = some (oH a b xs es[j]):=by
 unfold cf;rw[vI (by simpa using h),wu,wc h]
 rfl
def Sn(K:wb):Sp:=λvs H Q _=>∃x0 x1 x2,vs=[x0,x1,x2] /\ ∃(a b h h':Rat)(xs ys:List Rat)(r g:Nat)(ds:List wC),Is K H x0 (R a b)/\Is K H x1 (fo h xs r g)/\Is K H x2 (.tuple (N h'::TN ys::ds))/\aR a b/\1<=xs.length/\xs.length<=8/\(1<=r->ft a b xs/\r<=30/\fF a b xs r)/\g<=40/\ag 3500 h/\ag 3500 (aE a b xs (r*(aj xs).length+g))/\ag 8000 (aE a b xs (r*(aj xs).length))/\(∀i,i<=g->Cm 3700 (aE a b (ai a b xs (r*(aj xs).length)) i::ai a b (ai a b xs (r*(aj xs).length)) i)) /\ ∀H',ah H H'->Q (.bl (decide (h'=h+aE a b xs (r*(aj xs).length+g))&&decide (ys=ai a b xs (r*(aj xs).length+g)))) H'
theorem zrT{a h':Rat}{g:Nat}{w:V}(h0:Is K H v (R a b))(h1:Is K H w (fo h xs r g))(h2:Is K H u (.tuple (N h'::TN ys::ds)))(ok:aR a b)(x1:1<=xs.length)(x8:xs.length<=8)(f:1<=r->ft a b xs/\r<=30/\fF a b xs r)(hg:g<=40)(bh:ag 3500 h)(bk:ag 3500 (aE a b xs (r*(aj xs).length+g)))(c:ag 8000 (aE a b xs (r*(aj xs).length)))(c2:∀i,i<=g->Cm 3700 (aE a b (ai a b xs (r*(aj xs).length)) i::ai a b (ai a b xs (r*(aj xs).length)) i))(q:∀H',ah H H'->Q (.bl (decide (h'=h+aE a b xs (r*(aj xs).length+g))&&decide (ys=ai a b xs (r*(aj xs).length+g)))) H'):Sn K [v,w,u] H Q E:=⟨_,_,_,rfl,a,b,h,h',xs,ys,r,g,ds,h0,h1,h2,ok,x1,x8,f,hg,bh,bk,c,c2,q⟩
theorem zsu(T:Txt K mg a):aG P w K mg base aS 11 a.JC a.HJ zZ (Sn K):=by
 refine T.Iy.F.ok Gd ?_ ?_;wtm_at "b3"
 refine⟨_,(ar (az 3 Gd.nd (br (ae (pv 0) (ae (ao (pv 1)) af))))
     (ar (bQ (PW.pt (yY (bZ oy (ao (pv 1)) ay (bC _)) (ES (cU (cz (au (zuB T) hr T.Jg (ae (pv 3) (ae (ao (pv 1)) af)))))))) (av (aB eI)) bR)
     (ar (az 4 Gd.nd (au (Yc T) hr T.AQ (ae (pv 3) (ae (ao (pv 1)) (ae (ao (pv 1)) af)))))
     (av (aB (eO (e_ (show aN _ (wT .Eq) (cO K)from dG hu) (ao (pv 2)) (au (gu T) hr T.fQ (ae (ao (pv 1)) (ae (ao (pv 4)) af))) (bC _)) (gE (e_ (show aN _ (wT .Eq) (cO K)from dG hu) (ao (pv 2)) (ao (ao (pv 4))) (bC _))))))))),?_⟩
 wtm_at "cl";rw[show start UT [x0,x1,x2]=[some x0,some x1,some x2,none,none]from rfl];obtain⟨ra,rb,hh,hn,xs,ys,r,g,ds,hr,hrow,hf,ok,x1',x8,f,hg,bh,bk,c,c2,q⟩:=h;unfold fo at hrow;o_head aA (j:=1) hrow rfl (λv1 i1=>?_);o_head cB (ds:=[R ra rb,TN xs]) (by simp) (.cons hr (.cons i1 .nil)) (λv2 H2 S2 i2=>?_);have i2:Is K H2 v2 (aZ ra rb xs):=i2;have hrow2:=hrow.by S2;o_head aA (j:=2) hrow2 rfl (λv3 i3=>?_);rw[bW.mp i3];k_few
 all_goals first
   | (rename_i z
      obtain⟨sw,h30,fr⟩:=f (by lia);refine aA (j:=2) hrow2 rfl (λv3 i3=>?_);rw[bW.mp i3];o_head zuR i2 sw (by lia) h30 fr (λH3 F=>?_);k_few)
   | (have F:=ah.refl H2)
 all_goals
   have hrow3:=hrow2.by F;have i23:=i2.by F;have T3:=S2.trans F;have hf3:=hf.by T3;clear F;refine aA (j:=2) hrow3 rfl (λv4 i4=>?_);rw[bW.mp i4];o_head aA (j:=3) hrow3 rfl (λv5 i5=>?_);rw[bW.mp i5];o_head Nl i23 ok x1' x8 f hg c c2 (λv6 H6 S6 i6=>?_);unfold BD at i6;have hf6:=hf3.by S6;o_head aA (j:=0) hf6 rfl (λv7 i7=>?_);o_head aA (j:=0) (hrow3.by S6) rfl (λv8 i8=>?_);o_head aA (j:=0) i6 rfl (λv9 i9=>?_);k_few
   . rename_i v10 H10 S10 i10 z
     have q':=q H10 (T3.trans (S6.trans S10));rw[decide_eq_true z,ql]at q';refine aA (j:=1) (hf6.by S10) rfl (λv11 i11=>?_);o_head aA (j:=1) (i6.by S10) rfl (λv12 i12=>?_);o_head aA (j:=1) (show Is K H10 v12 (aZ ra rb _)from i12) rfl (λv13 i13=>?_);exact Eg i11 i13 q'
   . rename_i v10 H10 S10 i10 z
     have q':=q H10 (T3.trans (S6.trans S10));rw[decide_eq_false z,Ww]at q';exact q'
def cT(a b:Rat)(xs:List Rat):Option String :=
 if(aj xs).length=1 then some "one"
 else if dQ a b (aW xs) (bA xs)=true then
  if cQ a b (aW xs) (bA xs)=bA xs then some "rests"
  else if a<1/\jX a b (aW xs)=true then some "drawn" else none
 else none
def By:Option String->V
 | none=>.a_
 | some s=>.str (wW s)
def Pf(K:wb):Sp:=λvs H Q _=>∃x0,vs=[x0] /\ ∃(a b:Rat)(xs:List Rat),Is K H x0 (aZ a b xs)/\ft a b xs /\ ∀H',ah H H'->Q (By (cT a b xs)) H'
theorem MG{a:Rat}(h:Is K H v (aZ a b xs))(ok:ft a b xs)(q:∀H',ah H H'->Q (By (cT a b xs)) H'):Pf K [v] H Q E:=⟨_,rfl,a,b,xs,h,ok,q⟩
theorem LX(T:Txt K mg a):aG P w K mg base aS 10 a.JO a.Iu yV (Pf K):=by
 refine T.AZ.F.ok Sx ?_ ?_;wtm_at "b1"
 refine⟨_,(ar (bQ (bZ (show aN _ (wT .Eq) (cO K)from dG hu) (bE (show aJ _ (.builtin "len") (dj K)from d6) rfl T.h0r dU (ae (au (Fj T) hr T.sk (ae (pv 0) af)) af)) ay (bC _)) (av (aB iY)) bR)
     (ar (bQ (cU (cz (au (EH T) hr T.sa (ae (pv 0) af)))) (av (aB fG)) bR)
     (ar (az 1 Sx.nd (mE (yj T) hr T.oN DI (ae (pv 0) af)))
     (ar (bQ (cU (cz (au (pB T) hr T.mL (ae (ao (pv 0)) (ae (ao (pv 1)) (ae (ao (pv 1)) af)))))) (av (aB fG)) bR)
     (ar (bQ (bZ (show aN _ (wT .Eq) (cO K)from dG hu) (au (R7 T) hr T.AN (ae (ao (pv 0)) (ae (ao (pv 1)) (ae (ao (pv 1)) af)))) (ao (pv 1)) (bC _)) (av (aB iY)) bR)
     (ar (bQ (PW.pt (yY (bZ (show aN _ (wT .Eq) (cO K)from dG hu) (au (U6 T) hr T.A9 (ae (ao (pv 0)) af)) iY (bC _)) (ES (cz (au (U5 T) hr T.AO (ae (ao (pv 0)) (ae (ao (pv 1)) af))))))) (av (aB iY)) bR)
     (av (aB fG)))))))),?_⟩
 wtm_at "cl";rw[show start L0 [x0]=[some x0,none]from rfl];obtain⟨ra,rb,xs,hw,ok,q⟩:=h;obtain⟨rok,sz,hn⟩:=ok.round;have h8:=ok.h8;have bx:∀i,ag 4000 (xs.getD i 0):=λi=>(ok.cm.get i).mono (by decide)
 have bp:∀i,ag 4000 ((bA xs).getD i 0):=λi=>((rW ok.cm).get i).mono (by decide)
 unfold cT at q;o_head Ex hw h8 bx (λlf H1 us1 n1 S1 e1 t1=>?_);have hul:=t1.length;rw[wm]at hul;have hw1:=hw.by S1;o_head jf (.of e1) ?_;rw[hul];k_few
 . rename_i z
   have z:(aj xs).length=1:=by lia
   rw[if_pos z]at q;exact q _ S1
 . rename_i z
   have z:¬ (aj xs).length=1:=by lia
   rw[if_neg z]at q;refine EX hw1 ?_;rw[decide_eq_true ok.h0];o_head yu hw1 h8 bx (λz=>absurd ok.h0 z) (λ_ vl H2 S2 il=>?_);have hw2:=hw1.by S2;o_head aA (j:=0) hw2 rfl (λvr ir=>?_);o_head aA (j:=0) il rfl (λvz iz=>?_);o_head aA (j:=1) il rfl (λvp ip=>?_);o_head rR ir iz ip rok (λH3 S3=>?_);have T3:=S1.trans (S2.trans S3);have hw3:=hw2.by S3;have il3:=il.by S3;clear hw hw1 hw2 il ir iz ip S1 S2 S3 e1 t1 n1;k_few
   . rename_i y
     rw[if_neg (by rw[y];decide)]at q;exact q _ T3
   . rename_i y
     rw[if_pos y]at q;refine aA (j:=0) hw3 rfl (λvr ir=>?_);o_head aA (j:=0) il3 rfl (λvz iz=>?_);o_head aA (j:=1) il3 rfl (λvp ip=>?_);o_head LH ir iz ip rok (λv4 H4 S4 i4=>?_);o_head aA (j:=1) (il3.by S4) rfl (λvp4 ip4=>?_);refine Eg i4 ip4 ?_;k_few
     . rename_i u
       rw[if_pos u]at q;exact q _ (T3.trans S4)
     . rename_i u
       rw[if_neg u]at q;refine aA (j:=0) (hw3.by S4) rfl (λvr4 ir4=>?_);o_head MZ ir4 (ok.ok.ba.mono (by decide)) ?_;unfold rF
       by_cases z1:1<ra
       . rw[if_pos z1]
         o_head ke _ _ false (by rw[wY];decide) ?_;k_few;rw[if_neg (λh=>absurd h.1 (by grind))]at q;exact q _ (T3.trans S4)
       . rw[if_neg z1]
         by_cases z2:ra=1
         . rw[if_pos z2]
           o_head ke _ _ false (by rw[wY];decide) ?_;k_few;rw[if_neg (λh=>absurd h.1 (by grind))]at q;exact q _ (T3.trans S4)
         . rw[if_neg z2]
           have ha:ra<1:=by
             by_cases h:ra<1
             . exact h
             . exact absurd (Qa (Vu.mp h) (WE z2)) z1
           o_head ke _ _ true (by rw[wY];decide) ?_;o_head aA (j:=0) (hw3.by S4) rfl (λvr5 ir5=>?_);o_head aA (j:=0) (il3.by S4) rfl (λvz5 iz5=>?_);o_head N2 ir5 iz5 ok.ok sz z2 (λH5 S5=>?_);k_few
           . rename_i d
             rw[if_pos ⟨ha,d⟩]at q;exact q _ (T3.trans (S4.trans S5))
           . rename_i d
             rw[if_neg (λh=>by rw[h.2]at d;cases d)]at q;exact q _ (T3.trans (S4.trans S5))
def LW(a b:Rat)(xs:List Rat):Nat->List (Nat × Nat × Nat)->Nat->Prop
 | i,[],n=>i=n
 | i,e::es,n=>e.1=i/\(e.2.1<=30/\e.2.2<=40/\(1<=e.2.1->0∈ai a b xs i/\fF a b (ai a b xs i) e.2.1))/\LW a b xs (cq a b xs i e.2.1 e.2.2) es n
theorem LW.le{a b:Rat}{xs:List Rat} : ∀{es:List (Nat × Nat × Nat)}{i n:Nat},LW a b xs i es n->i<=n
 | [],_,_,h=>Nat.le_of_eq h
 | e::es,i,n,h=>by
  have:=LW.le h.2.2;unfold cq at this;lia
theorem LW.first{a:Rat}(h:LW a b xs i es n):fA es n 0=i:=by
 cases es with
 | nil=>exact(show i=n from h).symm
 | cons e es=>exact h.1
theorem LW.at{a b:Rat}{xs:List Rat} : ∀{es:List (Nat × Nat × Nat)}{i n:Nat},LW a b xs i es n->∀j (hj:j<es.length),es[j].1=fA es n j/\(es[j].2.1<=30/\es[j].2.2<=40/\(1<=es[j].2.1->0∈ai a b xs es[j].1/\fF a b (ai a b xs es[j].1) es[j].2.1))/\cq a b xs es[j].1 es[j].2.1 es[j].2.2=fA es n (j+1)/\fA es n (j+1)<=n
 | [],_,_,_,j,hj=>absurd hj (by simp)
 | e::es,i,n,h,j,hj=>by
  obtain⟨e1,e2,e3⟩:=h;cases j with
  | zero =>
   have h1:=e3.first;have h2:=e3.le;rw[<- h1]at h2;refine⟨rfl,?_,?_,h2⟩
   ·show e.2.1<=30/\e.2.2<=40/\(1<=e.2.1->0∈ai a b xs e.1/\fF a b (ai a b xs e.1) e.2.1)
    rw[e1];exact e2
   ·show cq a b xs e.1 e.2.1 e.2.2=fA es n 0
    rw[h1,e1]
  | succ j=>exact LW.at e3 j (by simpa using hj)
def OQ(a b:Rat)(xs:List Rat)(e:Nat × Nat × Nat):gX:=⟨aE a b xs e.1,ai a b xs e.1,e.2.1,e.2.2⟩
theorem zso(a b:Rat)(xs:List Rat)(es:List (Nat × Nat × Nat))(n:Nat)(w:String):cf a b xs es n w=(es.map (OQ a b xs)).map gX.d++[oB (aE a b xs n) (ai a b xs n) w]:=by
 rw[WM];rfl
theorem N_{a:Rat}{w:String}(h:∀j (hj:j<es.length),es[j].1=fA es n j)(hj:j<=es.length):∃ds,(cf a b xs es n w)[j]? = some (.tuple (N (aE a b xs (fA es n j))::TN (ai a b xs (fA es n j))::ds)):=by
 unfold cf;rcases wA j es.length with z | z
 ·rw[vI (by simpa using z),wu,wc z,<- h j z]
  exact⟨_,rfl⟩
 ·have:j=es.length:=by lia
  subst this;rw[vi (by simp),wm,Vf,zws];exact⟨_,rfl⟩
theorem zxu{t u:Bool}{g:TG}{tb:TS}{D:cv}{σ : L2.St}{a b:we}{xs ys:List V}(hx:dg t K H a xs)(hy:dg u K H b ys)(hxy:ys.length<xs.length)(Pv:Nat->L2.St->Hp->Prop)(h0:Pv 0 σ H)(hl:∀i σ H,i<=ys.length->Pv i σ H->dg t K H a xs/\dg u K H b ys)
  (hs:∀i x y σ H c H',xs[i]? = some x->ys[i]? = some y->Pv i σ H->H c=none->ah H H'->H' c=some (.tup [x,y])->g (.ref c) σ H' λσ2 H2=>tb {D with nx:=Pv (i+1),ct:=Pv (i+1),bk:=D.nx} σ2 H2) (hd:∀σ H,Pv ys.length σ H->D.nx σ H):LI t u K g tb D σ [.ref a,.ref b] H:=by
 refine⟨a,b,rfl,⟨xs,hx⟩,⟨ys,hy⟩,λi m σ H=>i+m=ys.length/\Pv i σ H,⟨ys.length,by lia,h0⟩,?_⟩;rintro i m σ H ⟨him,hp⟩;obtain⟨hq1,hq2⟩:=hl i σ H (by lia) hp
 by_cases hm:m=0
 ·have e:i=ys.length:=by lia
  subst e;exact .inl ⟨⟨xs,ys,hq1,hq2,.inr ⟨hxy,rfl⟩⟩,hd _ _ hp⟩
 ·have hi:i<xs.length:=by lia
  have hj:i<ys.length:=by lia
  refine .inr ⟨⟨xs,xs[i],ys,ys[i],hq1,by simp[hi],hq2,by simp[hj]⟩,λσ' H'=>Pv (i+1) σ' H',λσ' H' h=>⟨m-1,by lia,by lia,h⟩,?_⟩;rintro v H' ⟨c,x,y,rfl,hn,hx',hy',rfl⟩;exact hs i x y σ H c _ (hx' xs hq1) (hy' ys hq2) hp hn (ah.upd hn) cZ
theorem MW{a:Rat} : cT a b xs=none \/ ∃w,cT a b xs=some w/\iK w:=by
 unfold cT
 split
 ·exact .inr ⟨_,rfl,.inl rfl⟩
 ·split
  ·split
   ·exact .inr ⟨_,rfl,.inr (.inl rfl)⟩
   ·split
    ·exact .inr ⟨_,rfl,.inr (.inr rfl)⟩
    ·exact .inl rfl
  ·exact .inl rfl
theorem zCP{o:Option String}{w:String}(ho:o=none \/ ∃w,o=some w/\iK w)(hw:iK w)(q:Q (.bl (decide (o=some w))) H):cO K (By o) (.str (wW w)) H Q:=by
 rcases ho with rfl | ⟨v,rfl,hv⟩
 ·exact mV (d:=.none) (e:=.str (wW w)) (mf.mpr rfl) (eZ.mpr rfl) (by decide) (DT w) (by rw[show wY .none (.str (wW w))=decide ((none:Option String)=some w) by rw[wY]<;>simp];exact q)
 ·refine ke _ _ _ ?_ q
  rcases hv with rfl | rfl | rfl<;>rcases hw with rfl | rfl | rfl<;>rw[wY]<;>decide
def Yo(K:wb):Sp:=λvs H Q _=>∃x0 x1,vs=[x0,x1] /\ ∃(a b:Rat)(xs ys:List Rat)(es:List (Nat × Nat × Nat))(n:Nat)(w:String),Is K H x0 (aZ a b xs)/\Is K H x1 (.list (cf a b ys es n w))/\aR a b/\1<=ys.length/\ys.length<=8/\xs.length=ys.length/\cu ys/\LW a b ys 0 es n/\es.length<=100/\0∈ai a b ys n/\iK w/\(∀i k,i+k<=n->Cm 3500 (aE a b (ai a b ys i) k::ai a b (ai a b ys i) k)) /\ ∀H',ah H H'->Q (.bl (decide (ys=xs)&&decide (cT a b (ai a b ys n)=some w))) H'
theorem ztT{a:Rat}{w:String}(h:Is K H v (aZ a b xs))(hp:Is K H u (.list (cf a b ys es n w)))(ok:aR a b)(h1:1<=ys.length)(h8:ys.length<=8)(hl:xs.length=ys.length)(ph:cu ys)(lw:LW a b ys 0 es n)(bK:es.length<=100)(h0:0∈ai a b ys n)(hw:iK w)(c:∀i k,i+k<=n->Cm 3500 (aE a b (ai a b ys i) k::ai a b (ai a b ys i) k))(q:∀H',ah H H'->Q (.bl (decide (ys=xs)&&decide (cT a b (ai a b ys n)=some w))) H'):Yo K [v,u] H Q E:=⟨_,_,rfl,a,b,xs,ys,es,n,w,h,hp,ok,h1,h8,hl,ph,lw,bK,h0,hw,c,q⟩
theorem ztZ(T:Txt K mg a):aG P w K mg base aS 12 a.JP a.IF v_ (Yo K):=by
 refine T.Jc.F.ok ER ?_ ?_;wtm_at "b2"
 refine⟨_,(ar (bQ (cU (cz (au (zsC T) hr T.IG (ae (pv 1) (ae (bE (show aJ _ (.builtin "len") (dj K)from d6) rfl T.h0r dU (ae (ao (pv 0)) af)) af))))) (av (aB eI)) bR)
     (ar (bQ (PW.pt (fN (bZ (show aN _ (wT .NotEq) (f_ K)from jO hu) (ao (ao (pv 1))) (b_ (v:=.ref a.dy) rfl T.dW rfl) (bC _)) (iD (bZ (show aN _ (wT .NotEq) (f_ K)from jO hu) (ao (ao (pv 1))) (ao (pv 0)) (bC _))))) (av (aB eI)) bR)
     (ar (g6 vP rfl (PB rfl T.h0v (ae (pv 1) (ae (jZ j4 (pv 1) (j6 ay) kj) af))) (my (n:=2) rfl (gx (bP (i:=2) ER.nd rfl (Or.inl rfl)) (gx (bP (i:=3) ER.nd rfl (Or.inl rfl)) lI))) (av (bQ (cU (cz (au (zsu T) hr T.Iy (ae (ao (pv 0)) (ae (pv 2) (ae (pv 3) af)))))) (av (aB eI)) bR)))
     (av (aB (e_ (show aN _ (wT .Eq) (cO K)from dG hu) (au (LX T) hr T.AZ (ae (br (ae (ao (pv 0)) (ae (ao (dH dh (pv 1) (gr gH ay) (λ_ _=>rfl))) af))) af)) (ao (dH dh (pv 1) (gr gH ay) (λ_ _=>rfl))) (bC _))))))),?_⟩
 wtm_at "cl";rw[show start Rk [x0,x1]=[some x0,some x1,none,none]from rfl];obtain⟨ra,rb,xs,ys,es,n,wd,hw,hp,ok,y1,y8,hl,ph,lw,bK,h0,hwd,c,q⟩:=h;have hat:=lw.at;have hix:=λj hj=>(hat j hj).1
 have c0:∀i,i<=n->Cm 3500 (aE ra rb ys i::ai ra rb ys i):=λi hi=>c 0 i (by lia)
 o_head aA (j:=1) hw rfl (λv1 i1=>?_);o_head RA i1 ?_;o_head zsa (n:=xs.length) (ps:=es.map (OQ ra rb ys)) (h:=aE ra rb ys n) (xs:=ai ra rb ys n) (w:=wd) (by rw[<- zso];exact hp) (by lia) ?_ (by rw[aY];exact hl.symm) hwd (by rw[wm];exact bK) (λH1 S1=>?_)
 . intro e he
   obtain⟨e',he',rfl⟩:=wU.mp he;obtain⟨j,hj,rfl⟩:=wX he';obtain⟨_,⟨b1,b2,_⟩,_⟩:=hat j hj;exact⟨by show(ai ra rb ys _).length=_;rw[aY];exact hl.symm,b1,b2⟩
 have hp1:=hp.by S1;have hw1:=hw.by S1;obtain⟨ds0,e0⟩:=N_ (a:=ra) (b:=rb) (xs:=ys) (w:=wd) hix (j:=0) (by lia);rw[lw.first]at e0;o_head Yu (j:=0) hp1 e0 (λv2 i2=>?_);o_head aA (j:=0) i2 rfl (λv3 i3=>?_);k_few
 . rename_i z;exact absurd rfl z
 refine Yu (j:=0) hp1 e0 (λv4 i4=>?_);o_head aA (j:=1) i4 rfl (λv5 i5=>?_);o_head aA (j:=1) hw1 rfl (λv6 i6=>?_);refine zAN (show Is K H1 v5 (TN ys)from i5) i6 ?_
 by_cases hxy:ys=xs
 . rw[decide_eq_true hxy]
   subst hxy;obtain⟨lp,us,rfl,hsp,tp⟩:=cC.mp hp1;have hul:=tp.length;have hpl:(cf ra rb ys es n wd).length=es.length+1:=by simp[cf]
   o_head lQ hp1 (λl2 H2 us2 n2 S2 e2 t2=>?_);rw[Cn]at t2;have hul2:=t2.length;rw[Qv,hpl]at hul2;o_head zxu (t:=false) (u:=false) (S2.seq hsp) (aO.of e2) (by lia) (λj σ H'=>(∃o2 o3,σ = [some x0,some (.ref lp),o2,o3])/\ah H2 H') ⟨⟨_,_,rfl⟩,ah.refl _⟩ (λj σ H' _ h=>⟨h.2.seq (S2.seq hsp),h.2.seq (aO.of e2)⟩) ?_ ?_
   . rintro j x y σ H3 cc H4 hx hy ⟨⟨o2,o3,rfl⟩,S3⟩ nc S4 e4
     obtain⟨hi,ix⟩:=jF tp hx;obtain⟨hi2,iy⟩:=jF t2 hy;rw[Qv,hpl]at hi2;have hj:j<es.length:=by lia
     obtain⟨e1,⟨jH,g40,fr⟩,e3,le⟩:=hat j hj;obtain⟨ds,ey⟩:=N_ (a:=ra) (b:=rb) (xs:=ys) (w:=wd) hix (j:=j+1) (by lia);rw[wa,Rg hj]at ix;rw[wa,List.getElem?_tail,ey]at iy;have T4:=S2.trans (S3.trans S4);have ix4:Is K H4 x (fo (aE ra rb ys (fA es n j)) (ai ra rb ys (fA es n j)) es[j].2.1 es[j].2.2):=by rw[<- e1];exact ix.by T4
     have iy4:Is K H4 y (.tuple (N (aE ra rb ys (fA es n (j+1)))::TN (ai ra rb ys (fA es n (j+1)))::ds)):=iy.by (S3.trans S4);rw[e1]at e3 fr;unfold cq at e3;generalize es[j].2.1=r at *;generalize es[j].2.2=g at *;have ci:=c0 (fA es n j) (by lia);refine mm (.of e4) rfl ?_;o_head aA (j:=0) (hw1.by T4) rfl (λv7 i7=>?_);o_head zrT i7 ix4 iy4 ok (by rw[aY];exact y1) (by rw[aY];exact y8) (λr1=>⟨⟨ok,by rw[aY];exact y1,by rw[aY];exact y8,ph.at ok.a0 ok.b0 _,(fr r1).1,(kF ci λy hy=>wy _ hy).mono (by decide)⟩,jH,(fr r1).2⟩) g40 (ci.d4 (wz ..)) ((c _ _ (by lia)).d4 (wz ..)) (((c (fA es n j) (r*(aj (ai ra rb ys (fA es n j))).length) (by lia)).d4 (wz ..)).mono (by decide)) (λt ht=>by rw[cw];exact(c _ t (by lia)).mono (by decide)) (λH5 S5=>?_);rw[jU,cw,e3,decide_eq_true rfl,decide_eq_true rfl,Xq];k_few;exact⟨⟨_,_,rfl⟩,S3.trans (S4.trans S5)⟩
   . rintro σ H3 ⟨⟨o2,o3,rfl⟩,S3⟩
     have T3:=S2.trans S3;have hw3:=hw1.by T3;have hp3:=hp1.by T3;have cn:=c0 n (wo n);o_head aA (j:=0) hw3 rfl (λv7 i7=>?_);o_head lE hp3 (λv8 i8=>?_);unfold om at i8;o_head aA (j:=1) i8 rfl (λv9 i9=>?_);o_head cB (ds:=[R ra rb,TN (ai ra rb ys n)]) (by simp) (.cons i7 (.cons i9 .nil)) (λv10 H10 S10 i10=>?_);o_head MG (show Is K H10 v10 (aZ ra rb (ai ra rb ys n))from i10) ⟨ok,by rw[aY];exact y1,by rw[aY];exact y8,ph.at ok.a0 ok.b0 _,h0,(kF cn λy hy=>wy _ hy).mono (by decide)⟩ (λH11 S11=>?_);have S311:=S10.trans S11;o_head lE (hp3.by S311) (λv12 i12=>?_);unfold om at i12;o_head aA (j:=2) i12 rfl (λv13 i13=>?_);rw[eZ.mp i13];refine zCP MW hwd ?_;have q':=q H11 (S1.trans (T3.trans S311));rw[decide_eq_true rfl,ql]at q';exact q'
 . rw[decide_eq_false hxy]
   k_few;have q':=q H1 S1;rw[decide_eq_false hxy,Ww]at q';exact q'
def Tj(K:wb):Sp:=λvs H Q _=>∃x0,vs=[x0] /\ ∃(a b:Rat)(xs:List Rat)(g:Nat),Is K H x0 (aZ a b xs)/\aR a b/\1<=xs.length/\xs.length<=8/\g<=8/\(∀t,t<=g->Cm 3700 (ai a b xs t))/\(∀t,t<g->(cE a b (ai a b xs t)).length=1)/\(cE a b (ai a b xs g)).length≠1 /\ ∀H',ah H H'->Q (.int ((g+1:Nat):Int)) H'
theorem UC{a:Rat}{g:Nat}(h:Is K H v (aZ a b xs))(ok:aR a b)(h1:1<=xs.length)(h8:xs.length<=8)(hg:g<=8)(c:∀t,t<=g->Cm 3700 (ai a b xs t))(w1:∀t,t<g->(cE a b (ai a b xs t)).length=1)(w2:(cE a b (ai a b xs g)).length≠1)(q:∀H',ah H H'->Q (.int ((g+1:Nat):Int)) H'):Tj K [v] H Q E:=⟨_,rfl,a,b,xs,g,h,ok,h1,h8,hg,c,w1,w2,q⟩
theorem zkS(T:Txt K mg a):aG P w K mg base aS 5 a.G5 a.GC zg (Tj K):=by
 refine T.GQ.F.ok rl ?_ ?_;wtm_at "b1"
 refine⟨_,(ar (az 1 rl.nd ay)
     (ar (az 2 rl.nd (au (FV T) hr T.sC (ae (pv 0) af)))
     (ar (nE vP (bZ (show aN _ (wT .Eq) (cO K)from dG hu) (bE (show aJ _ (.builtin "len") (dj K)from d6) rfl T.h0r dU (ae (ao (pv 2)) af)) ay (bC _)) (ar (zC0 (i:=1) rl.nd rfl (Or.inl rfl) ay zDk)
     (av (az 2 rl.nd (au (FV T) hr T.sC (ae (ao (pv 2)) af))))))
     (av (aB (pv 1)))))),?_⟩
 wtm_at "cl";rw[show start T1 [x0]=[some x0,none,none]from rfl];obtain⟨ra,rb,xs,g,hw,ok,h1,h8,hg,c,w1,w2,q⟩:=h;o_head DC hw ok.ba ok.bb h1 h8 (c 0 (by lia)) (by lia) (λv2 H2 S2 i2=>?_);o_head zI (λm σ' H'=>∃(t:Nat)(v:V),σ'=[some x0,some (.int ((t+1:Nat):Int)),some v]/\m=g-t/\t<=g/\ah H H'/\Is K H' v (GD ra rb (ai ra rb xs t))) _ ⟨0,v2,rfl,rfl,by lia,S2,i2⟩ ?_;rintro m σ' H3 ⟨t,v,rfl,rfl,ht,S3,iv⟩;o_head aA (j:=1) iv rfl (λv4 i4=>?_);o_head lg i4 ?_;rw[wm];k_few
 . rename_i z
   have z:(cE ra rb (ai ra rb xs t)).length=1:=by lia
   have htg:t<g:=by
     rcases wA t g with y | y
     . exact y
     . have:t=g:=by lia
       subst this;exact absurd z w2
   have hpl:=aY ra rb xs t;have hpl2:=aY ra rb xs (t+1);refine Ah ?_;o_head Zv rfl ?_;o_head ZI ?_;o_head aA (j:=2) iv rfl (λv5 i5=>?_);o_head DC (show Is K H3 v5 (aZ ra rb (ai ra rb xs (t+1)))from i5) ok.ba ok.bb (by lia) (by lia) (c (t+1) (by lia)) (by lia) (λv6 H6 S6 i6=>?_);k_few;exact⟨g-(t+1),by lia,t+1,v6,by push_cast;rfl,rfl,by lia,S3.trans S6,i6⟩
 . rename_i z
   have htg:t=g:=by
     rcases wA t g with y | y
     . exact absurd (by rw[w1 t y];rfl) z
     . lia
   subst htg;exact q H3 S3
def Ov(B:Int)(x:Rat):Prop:=∃t:Int,x=wB t B
theorem Ov.zero(B:Int):Ov B 0:=⟨0,by simp⟩
theorem Ov.more{d:Int}(h:Ov B x)(hB:0<B)(hd:0<d):Ov (B*d) x:=by
 obtain⟨t,rfl⟩:=h;exact⟨t*d,rB hB hd⟩
theorem zAW(t u:Int):∃m,Bd m t/\Bd m u:=⟨t.natAbs+u.natAbs,⟨W7 (by lia:t.natAbs<=t.natAbs+u.natAbs) Xy⟩,⟨W7 (by lia:u.natAbs<=t.natAbs+u.natAbs) Xy⟩⟩
theorem zEQ{a:Rat}(h:aR a b):Bd 6 a.num:=by
 have h1:=h.a0;have h2:=h.a4;have h3:=h.ad;have n0:0<=a.num:=Qi.mpr (vT h1)
 have n1:a.num<=4*a.den:=by
   have:=(Xh a 4).mp h2
   simpa using this
 exact ⟨by have : (2 : Nat) ^ 6 = 64 := by decide
           lia⟩
theorem zEj{a:Rat}(h:aR a b):Bd 4 (a.den:Int):=by
 have h3:=h.ad
 exact ⟨by have : (2 : Nat) ^ 4 = 16 := by decide
           lia⟩
theorem zEs{a:Rat}(h:aR a b):Bd 4 b.num:=by
 have h1:=h.b0;have h2:=h.b1;have h3:=h.bd;have n0:0<=b.num:=Qi.mpr h1
 have n1:b.num<=b.den:=by
   have:=(Xh b 1).mp h2
   simpa using this
 exact ⟨by have : (2 : Nat) ^ 4 = 16 := by decide
           lia⟩
theorem Ov.push{a:Rat}(ok:aR a b)(hB:0<B)(hd:(b.den:Int) ∣ B)(h:Ov B x)(n:Nat):Ov (B*(a.den:Int)^n) (push a b n x):=by
 obtain⟨t,rfl⟩:=h;obtain⟨m,h1,h2⟩:=zAW t B;obtain⟨_,_,_,T,e,_⟩:=RU (zEQ ok) (zEj ok) (zEs ok) hB hd h1 h2 n;exact⟨T,e⟩
theorem m5(a:Rat)(n:Nat):0<(a.den:Int)^n:=ue (den_pos a)
theorem Ov.up{a:Rat}(h:Ov B x)(hB:0<B)(n:Nat):Ov (B*(a.den:Int)^n) x:=h.more hB (m5 a n)
theorem Tn(h:∀x∈xs,Ov B x)(i:Nat):Ov B (xs.getD i 0):=by
 rcases wA i xs.length with z | z
 ·exact h _ (getD_mem z)
 ·rw[wa,wL z];exact Ov.zero B
theorem zxc(h:∀i,i<xs.length->Ov B (xs.getD i 0)):∀x∈xs,Ov B x:=λx hx=>by
 obtain⟨j,hj,rfl⟩:=wX hx;have:=h j hj;rw[wa,wc hj]at this;exact this
theorem Nd{a b:Rat}(ok:aR a b):∀(n:Nat)(B:Int)(ps:List Rat)(left:List Nat),0<B->(b.den:Int) ∣ B->left.Nodup->(∀w∈left,w<ps.length)->(∀x∈ps,Ov B x)->∀x∈(cS a b n ps left).2.2,Ov (B*(a.den:Int)^(cS a b n ps left).1.flatten.length) x
 | 0,B,ps,left,hB,_,_,_,h=>λx hx=>by
  have:Ov (B*(a.den:Int)^0) x:=by rw[QJ,xI];exact h x hx
  exact this
 | n+1,B,ps,left,hB,hd,nd,lt,h=>by
  by_cases e:aF ps left=[]
  ·rw[ny e]
   intro x hx;have:Ov (B*(a.den:Int)^0) x:=by rw[QJ,xI];exact h x hx
   exact this
  ·rw[jz e]
   have nd':(bV left (aF ps left)).Nodup:=mY nd;have lt':=m6 (wave:=aF ps left) lt
   have ih:=Nd ok n (B*(a.den:Int)^(aF ps left).length) (cX (a^(aF ps left).length) (aD a b (aF ps left).length) ps (bV left (aF ps left))) (bV left (aF ps left)) (vQ hB (m5 a _)) (qj hd (Vi ..)) nd' (λw hw=>by rw[iP];exact lt' w hw) (zxc λi hi=>by
    rw[jB _ _ _ _ nd' lt']
    split
    ·rw[<- hW];exact(Tn h i).push ok hB hd _
    ·exact(Tn h i).up hB _)
   intro x hx;have:=ih x hx
   show Ov (B*(a.den:Int)^(aF ps left::_).flatten.length) x
   rw[VM,wR,uj,<- qi];exact this
theorem Ov.rise(hx:Ov B x)(hy:Ov B y)(hB:0<B):Ov B (x+(1-y)):=by
 obtain⟨t,rfl⟩:=hx;obtain⟨z,rfl⟩:=hy;refine⟨t+B-z,?_⟩
 symm
 refine fY (by lia) ?_;have q1:=cY t (show B≠0 by lia);have q2:=cY z (show B≠0 by lia);have q3:((t+B-z:Int):Rat)=(t:Rat)+(B:Rat)-(z:Rat):=by push_cast;rfl
 rw[q3,<- q1,<- q2]
 grind
def jl(a b:Rat)(xs:List Rat):Nat:=(cE a b xs).flatten.length
theorem zBm{a:Rat}(ok:aR a b)(hB:0<B)(hd:(b.den:Int) ∣ B)(h1:1<=xs.length)(h:∀x∈xs,Ov B x):∀y∈dA a b xs,Ov (B*(a.den:Int)^jl a b xs) y:=by
 have hr:∀x∈bN xs,Ov B x:=λx hx=>by
  obtain⟨y,hy,rfl⟩:=wU.mp hx;exact(h y hy).rise (h _ (ic h1)) hB
 have:=Nd ok xs.length B (bN xs) (wt xs.length) hB hd W5 (λw hw=>by rw[fH];exact wH.mp hw) hr;intro y hy;rcases zy7 y hy with z | z
 ·exact this y z
 ·rw[z];exact Ov.zero _
def bY(a b:Rat)(xs:List Rat):Nat->Nat
 | 0=>0
 | k+1=>bY a b xs k+jl a b (ai a b xs k)
theorem lU(a b:Rat)(xs:List Rat)(m:Nat):∀k,bY a b xs (m+k)=bY a b xs m+bY a b (ai a b xs m) k
 | 0=>rfl
 | k+1=>by
  show bY a b xs (m+k)+jl a b (ai a b xs (m+k))=bY a b xs m+(bY a b (ai a b xs m) k+jl a b (ai a b (ai a b xs m) k))
  rw[lU a b xs m k,cw];lia
theorem Bf{a b:Rat}(ok:aR a b){B:Int}(hB:0<B)(hd:(b.den:Int) ∣ B){xs:List Rat}(h1:1<=xs.length)(h:∀x∈xs,Ov B x):∀k,(∀y∈ai a b xs k,Ov (B*(a.den:Int)^bY a b xs k) y)/\Ov (B*(a.den:Int)^bY a b xs k) (aE a b xs k)
 | 0=>by
  show(∀y∈xs,Ov (B*(a.den:Int)^0) y)/\Ov (B*(a.den:Int)^0) 0
  rw[QJ,xI];exact⟨h,Ov.zero B⟩
 | k+1=>by
  obtain⟨hp,hh⟩:=Bf ok hB hd h1 h k;have hBk:=vQ hB (m5 a (bY a b xs k));have hpl:=aY a b xs k
  have e:B*(a.den:Int)^bY a b xs (k+1)=B*(a.den:Int)^bY a b xs k*(a.den:Int)^jl a b (ai a b xs k):=by
   rw[qi,<- uj];rfl
  rw[e];refine⟨zBm ok hBk (qj hd (Vi ..)) (by lia) hp,?_⟩;exact(Ov.rise hh (hp _ (ic (by lia))) hBk).up hBk _
theorem LG{a b:Rat}(a0:0<a)(b0:0<=b){xs:List Rat}(h1:1<=xs.length)(hp:cu xs):∀k:Nat,0<=aE a b xs k/\aE a b xs k<=((k:Int):Rat)
 | 0=>⟨WZ,WZ⟩
 | k+1=>by
  obtain⟨l,u⟩:=LG a0 b0 h1 hp k;have hk:=hp.at a0 b0 k;have hm:=ic (xs:=ai a b xs k) (by rw[aY];exact h1);have m0:=hk.nn _ hm;have m1:=hk.lt _ hm;have e:aE a b xs (k+1)=aE a b xs k+(1-cb (ai a b xs k)):=rfl;have ek:(((k+1:Nat):Int):Rat)=((k:Int):Rat)+1:=by push_cast;rfl
  rw[e,ek];exact⟨by grind,by grind⟩
theorem EF{l:Nat}(hB:0<B)(bB:Bd m B)(h:Ov B x)(x0:0<=x)(x1:x<=(((2^l:Nat):Int):Rat)):∃t:Int,x=wB t B/\Bd (m+l+1) t:=by
 obtain⟨t,rfl⟩:=h;refine⟨t,rfl,?_⟩;have q1:=cY t (show B≠0 by lia);have hBr:(0:Rat)<(B:Rat):=uK.mpr hB;have t0:(0:Rat)<=(t:Rat):=by rw[<- q1];exact Qj x0 (vT hBr)
 have t1:(t:Rat)<=(((2^l:Nat):Int):Rat)*(B:Rat):=by
  rw[<- q1];exact QK x1 (vT hBr)
 have t0':0<=t:=Rat.intCast_nonneg.mp t0
 have t1':t<=((2^l:Nat):Int)*B:=by
  rw[<- vS]at t1;exact Vt.mp t1
 have b:=bB.lt;refine⟨?_⟩
 have hb:t.natAbs<=2^l*B.natAbs:=by
  have e:((2^l*B.natAbs:Nat):Int)=((2^l:Nat):Int)*B:=by
   rw[VD]
   congr 1
   lia
  lia
 have:2^l*B.natAbs<2^l*2^m:=Nat.mul_lt_mul_of_pos_left b (Wi l);have e2:2^(m+l+1)=2^l*2^m*2:=by rw[WY,QV,V5 (2^m)]
 lia
theorem Oa{a:Rat}(ok:aR a b)(h:Bd m B)(n:Nat):Bd (m+3*n) (B*(a.den:Int)^n):=by
 refine⟨?_⟩;have h1:=h.lt;have h8:=ok.ad;rw[xW,Int.natAbs_pow,Int.natAbs_natCast,QV,Nat.pow_mul];have e:(2:Nat)^3=8:=by decide
 rw[e];have h2:a.den^n<=8^n:=Nat.pow_le_pow_left h8 n;have hp:0<8^n:=Nat.pow_pos (by decide);exact W7 (qM _ h2) (Nat.mul_lt_mul_of_pos_right h1 hp)
theorem Ov.sub(hx:Ov B x)(hy:Ov B y)(hB:0<B):Ov B (x-y):=by
 obtain⟨t,rfl⟩:=hx;obtain⟨z,rfl⟩:=hy;refine⟨t-z,?_⟩
 symm
 refine fY (by lia) ?_;have q1:=cY t (show B≠0 by lia);have q2:=cY z (show B≠0 by lia);have q3:((t-z:Int):Rat)=(t:Rat)-(z:Rat):=by push_cast;rfl
 rw[q3,<- q1,<- q2]
 grind
theorem Sk{a:Rat}(ok:aR a b)(c:kc b.den m xs)(h1:1<=xs.length)(hp:cu xs){l:Nat}(hk:k<=2^l):Cm (m+3*bY a b xs (i+k)+l+1) (aE a b (ai a b xs i) k::ai a b (ai a b xs i) k):=by
 obtain⟨B,hB,hd,bB,hx⟩:=c;have hov:=Bf ok hB hd h1 (λx hx'=>let ⟨t,e,_⟩:=hx x hx';⟨t,e⟩);obtain⟨hph,hh⟩:=hov (i+k);have hBk:=vQ hB (m5 a (bY a b xs (i+k)))
 have hi:Ov (B*(a.den:Int)^bY a b xs (i+k)) (aE a b xs i):=by
  have:=((hov i).2).up (a:=a) (vQ hB (m5 a (bY a b xs i))) (bY a b (ai a b xs i) k);rw[qi,<- uj,<- lU]at this;exact this
 have hhk:Ov (B*(a.den:Int)^bY a b xs (i+k)) (aE a b (ai a b xs i) k):=by
  have e:aE a b (ai a b xs i) k=aE a b xs (i+k)-aE a b xs i:=by
   have:=jU a b xs i k
   grind
  rw[e];exact hh.sub hi hBk
 have bb:=Oa ok bB (bY a b xs (i+k));have hpi:=hp.at ok.a0 ok.b0 i;have hpk:=hpi.at ok.a0 ok.b0 k;have hl:(((k:Nat):Int):Rat)<=(((2^l:Nat):Int):Rat):=Vt.mpr (by lia)
 have h1l:(1:Rat)<=(((2^l:Nat):Int):Rat):=by
  have:((1:Int):Rat)<=(((2^l:Nat):Int):Rat):=Vt.mpr (by have:=Wi l;lia);exact this
 refine⟨_,hBk,bb.mono (by lia),λx hx'=>?_⟩;rcases wF.mp hx' with rfl | hx'
 ·have hb:=LG ok.a0 ok.b0 (xs:=ai a b xs i) (by rw[aY];exact h1) hpi k
  exact EF hBk bb hhk hb.1 (xo hb.2 hl)
 ·have:=hph x (by rw[<- cw];exact hx')
  exact EF hBk bb this (hpk.nn x hx') (xo (vT (hpk.lt x hx')) h1l)
theorem zzs{a:Rat}(a0:0<a)(b0:0<=b)(h1:1<=xs.length)(hp:cu xs):jl a b xs<=xs.length:=by
 obtain⟨v,J⟩:=ze a0 b0 h1 hp.nn hp.lt;unfold jl;rw[J.perm.length_eq];unfold seg;have:=WK (λw=>decide (0<=aV xs w)&&decide (aV xs w<v)) (wt xs.length);rw[vx]at this;exact this
theorem pC{a b:Rat}(a0:0<a)(b0:0<=b){xs:List Rat}(h1:1<=xs.length)(hp:cu xs):∀k,bY a b xs k<=k*xs.length
 | 0=>Wm _
 | k+1=>by
  have ih:=pC a0 b0 h1 hp k;have hl:=aY a b xs k;have:=zzs a0 b0 (xs:=ai a b xs k) (by lia) (hp.at a0 b0 k);rw[qB]
  show bY a b xs k+jl a b (ai a b xs k)<=_
  lia
theorem zuH{a:Rat}(a0:0<a)(b0:0<=b)(h1:1<=xs.length)(hp:cu xs):1<=(cE a b xs).length:=by
 obtain⟨v,J⟩:=ze a0 b0 h1 hp.nn hp.lt;obtain⟨ws,e,_⟩:=J.first;rw[e];simp
theorem Lo{a:Rat}(a0:0<a)(b0:0<=b)(h1:1<=xs.length)(hp:cu xs):(aj (dA a b xs)).length<=(aj xs).length/\(1<(cE a b xs).length->(aj (dA a b xs)).length<(aj xs).length):=by
 obtain⟨v,J⟩:=ze a0 b0 h1 hp.nn hp.lt;have e:=congrArg xK J.new;rw[ib,wR,vR,ib,vV]at e;have v1:=J.v1;have vm:=J.vm;exact⟨by lia,λh=>by have:=J.more.mp h;lia⟩
theorem rT{a b:Rat}(a0:0<a)(b0:0<=b){xs:List Rat}(h1:1<=xs.length)(hp:cu xs):∀k,(aj (ai a b xs k)).length<=(aj xs).length
 | 0=>wo _
 | k+1=>Wa (Lo a0 b0 (xs:=ai a b xs k) (by rw[aY];exact h1) (hp.at a0 b0 k)).1 (rT a0 b0 h1 hp k)
theorem Nf{a b:Rat}(ok:aR a b){xs ps:List Rat}{fl:Nat->Nat}{ns:List Int}(L:fM xs (ps++[0]) fl ns)(hn:ns.length=ps.length+1)(f:dQ a b ns ps=true):∀t,t<=ns.length->bY a b xs t=upTo ns t
 | 0,_=>rfl
 | t+1,ht=>by
  have ih:=Nf ok L hn f t (by lia);have hw:=(oX ok L hn f).2.1 t (by lia);have hl:(ps++[0]).length=ns.length:=by simp[hn]
  have hs:=L.size t (by lia)
  show bY a b xs t+jl a b (ai a b xs t)=_
  unfold jl;rw[hw,ih,rE (by lia),hs];simp
theorem N1{a b:Rat}(ok:aR a b){xs ps:List Rat}{fl:Nat->Nat}{ns:List Int}(L:fM xs (ps++[0]) fl ns)(hn:ns.length=ps.length+1)(n0:∀n∈ns,0<=n):∀k,(∀j,j<k->cg a b ns ps j=true)->bY a b xs (k*ns.length)=k*upTo ns ns.length
 | 0,_=>by rw[xr,xr];rfl
 | k+1,h=>by
  have ih:=N1 ok L hn n0 k λj hj=>h j (by lia)
  obtain⟨Lk,_⟩:=me ok L hn n0 k λj hj=>h j (by lia)
  have hl:ns.length=(cj a b ns k ps).length+1:=by rw[dk];exact hn
  rw[qB,lU,ih,Nf ok Lk hl (h k (by lia)) _ (wo _),qB]
structure gC(a b:Rat)(xs:List Rat)(r g:Nat):Prop where
 jH:r<=30
 free:fF a b xs r
 ends:cg a b (aW xs) (bA xs) r=false
 g1:1<=g
 gN:g<=(aj xs).length
 one:∀t,t+1<g->(cE a b (ai a b (ai a b xs (r*(aj xs).length)) t)).length=1
 join:1<(cE a b (ai a b (ai a b xs (r*(aj xs).length)) (g-1))).length
theorem Yp{p:Nat->Prop} : ∀n,(∃t,t<n /\ ¬ p t)->∃g,g<n/\(∀t,t<g->p t) /\ ¬ p g
 | 0,h=>by obtain⟨t,ht,_⟩:=h;lia
 | n+1,h=>by
  by_cases z:∃t,t<n /\ ¬ p t
  ·obtain⟨g,h1,h2,h3⟩:=Yp n z
   exact⟨g,by lia,h2,h3⟩
  ·obtain⟨t,ht,hp⟩:=h
   have htn:t=n:=by
    rcases wA t n with y | y
    ·exact absurd ⟨t,y,hp⟩ z
    ·lia
   subst htn;exact⟨t,by lia,λs hs=>qy.mp λy=>z ⟨s,hs,y⟩,hp⟩
structure zDF(a b:Rat)(xs:List Rat):Prop where
 hz:bA xs++[0]=aj xs
 hn:(aW xs).length=(bA xs).length+1
 hs:(aW xs).length=(aj xs).length
 L:fM xs (bA xs++[0]) (aV xs) (aW xs)
theorem nQ{a:Rat}(hp:cu xs)(h0:0∈xs):zDF a b xs:=by
 have hz:bA xs++[0]=aj xs:=DY hp h0;have hsl:=yP xs;have hpl:(bA xs).length+1=(aj xs).length:=by rw[<- hz];simp
 exact⟨hz,by lia,hsl,by rw[hz];exact N6 hp.nn hp.lt⟩
theorem Sr{a:Rat}(ok:aR a b)(h1:1<=xs.length)(hp:cu xs)(h0:0∈xs)(h30:r<=30)(f:fF a b xs r)(e:cg a b (aW xs) (bA xs) r=false):∃g,gC a b xs r g:=by
 obtain⟨hz,hn,hs,L⟩:=nQ (a:=a) (b:=b) hp h0;obtain⟨Lr,_⟩:=me ok L hn (kZ xs) r f;obtain⟨t,ht,hj⟩:=zwB ok Lr (by rw[dk];exact hn) e;rw[hs]at ht hj;obtain⟨g,g1,g2,g3⟩:=Yp (p:=λt=>(cE a b (ai a b (ai a b xs (r*(aj xs).length)) t)).length=1) (aj xs).length ⟨t,ht,λz=>by rw[z]at hj;lia⟩;refine⟨g+1,h30,f,e,by lia,by lia,λt ht=>g2 t (by lia),?_⟩;have:=zuH (a:=a) (b:=b) ok.a0 ok.b0 (xs:=ai a b (ai a b xs (r*(aj xs).length)) g) (by rw[aY,aY];exact h1) ((hp.at ok.a0 ok.b0 _).at ok.a0 ok.b0 _);rw[qZ];have g3:¬ (cE a b (ai a b (ai a b xs (r*(aj xs).length)) g)).length=1:=g3;lia
theorem gC.bY{a:Rat}{g:Nat}(R:gC a b xs r g)(ok:aR a b)(h1:1<=xs.length)(hp:cu xs)(h0:0∈xs){t:Nat}(ht:t<=g):bY a b xs (r*(aj xs).length+t)<=30*xs.length+xs.length*xs.length:=by
 obtain⟨hz,hn,hs,L⟩:=nQ (a:=a) (b:=b) hp h0;have h2:=N1 ok L hn (kZ xs) r R.free;rw[hs]at h2;have h3:=Lv xs;rw[hs]at h3;have h4:=pC ok.a0 ok.b0 (xs:=ai a b xs (r*(aj xs).length)) (by rw[aY];exact h1) (hp.at ok.a0 ok.b0 _) t;rw[aY]at h4;rw[lU,h2];have h5:r*upTo (aW xs) (aj xs).length<=30*xs.length:=V2 R.jH h3;have h6:t*xs.length<=xs.length*xs.length:=Wf _ (by have:=R.gN;have:=kP xs;lia);lia
theorem gC.Kc{a:Rat}{g:Nat}(R:gC a b xs r g)(ok:aR a b)(h1:1<=xs.length)(hp:cu xs):(aj (ai a b xs (r*(aj xs).length+g))).length<(aj xs).length:=by
 have g1:=R.g1
 have e:ai a b xs (r*(aj xs).length+g)=dA a b (ai a b (ai a b xs (r*(aj xs).length)) (g-1)):=by
  rw[<- cw];obtain⟨k,rfl⟩:∃k,g=k+1:=⟨g-1,by lia⟩
  rfl
 have h2:cu (ai a b (ai a b xs (r*(aj xs).length)) (g-1)):=(hp.at ok.a0 ok.b0 _).at ok.a0 ok.b0 _;have hl:(ai a b (ai a b xs (r*(aj xs).length)) (g-1)).length=xs.length:=by rw[aY,aY]
 have h3:=(Lo ok.a0 ok.b0 (xs:=ai a b (ai a b xs (r*(aj xs).length)) (g-1)) (by lia) h2).2 R.join;have h4:=rT ok.a0 ok.b0 (xs:=xs) h1 hp (r*(aj xs).length+(g-1));rw[cw]at h3;rw[cw]at e;rw[e];lia
theorem zs7{a:Rat}(ok:aR a b)(sz:du ns)(hn:ns.length=xs.length+1)(st:eT a b ns xs=true):cQ a b ns xs=xs\/(a<1/\jX a b ns=true):=by
 have hps:=sz.pos;unfold eT at st
 by_cases z1:1<a
 ·rw[if_pos z1]at st
  have e:=of_decide_eq_true st;have hF:a^ns.sum.toNat≠1:=λe=>absurd ((rk ok (by lia)).mp e) (by grind)
  refine .inl ?_;rw[<- o_ hn sz.nn,R9 hF hn 1];rw[<- e,zzv]
 ·rw[if_neg z1]at st
  by_cases z2:a=1
  ·rw[if_pos z2]at st
   refine .inl ?_;rw[<- o_ hn sz.nn]
   exact km (dk ..) λi hi=>by
    rw[dk]at hi;have hi':i<(df a b ns).length:=by rw[m4 (by lia)];lia
    have hz:(df a b ns).getD i 0=0:=by
     rw[WO]at st;have:=st _ (wU.mpr ⟨_,getD_mem (d:=0) hi',rfl⟩);exact of_decide_eq_true this
    rw[jh hi,hz];unfold fP;rw[z2,GM.one_pow',GM.one_pow']
    grind
  ·rw[if_neg z2]at st
   refine .inr ⟨?_,st⟩
   by_cases h:a<1
   ·exact h
   ·exact absurd (Qa (Vu.mp h) (WE z2)) z1
theorem zAf{a:Rat}(ok:ft a b xs)(h:cT a b xs=none)(f:cg a b (aW xs) (bA xs) 0=true):eT a b (aW xs) (bA xs)=false:=by
 obtain⟨_,sz,hn⟩:=ok.round;unfold cg at f;rw[kK]at f;cases e:eT a b (aW xs) (bA xs)with
 | false=>rfl
 | true =>
  unfold cT at h;rw[if_pos f]at h
  split at h
  ·cases h
  ·split at h
   ·cases h
   ·rename_i y
    rcases zs7 ok.ok sz hn e with z | z
    ·exact absurd z y
    ·rw[if_pos z]at h;cases h
def Ni(K:wb)(a:Ad):Sp:=λvs H Q E=>∃x0 x1,vs=[x0,x1] /\ ∃(ra rb h:Rat)(xs:List Rat),Is K H x0 (N h)/\Is K H x1 (aZ ra rb xs)/\ft ra rb xs/\cT ra rb xs=none/\(∀r g t,gC ra rb xs r g->t<=g->Cm 3600 (ai ra rb xs (r*(aj xs).length+t))) /\
 ((∀k,k<=30->cg ra rb (aW xs) (bA xs) k=true)->∀H',ah H H'->E (.ref a.fC) none H') /\ ∀r g v H',gC ra rb xs r g->ah H H'->Is K H' v (fo h xs r g)->Q v H'
theorem zsq{w:V}(h1:Is K H v (N h))(h2:Is K H w (aZ ra rb xs))(ok:ft ra rb xs)(hw:cT ra rb xs=none)(c:∀r g t,gC ra rb xs r g->t<=g->Cm 3600 (ai ra rb xs (r*(aj xs).length+t)))(qe:(∀k,k<=30->cg ra rb (aW xs) (bA xs) k=true)->∀H',ah H H'->E (.ref a.fC) none H')(q:∀r g v H',gC ra rb xs r g->ah H H'->Is K H' v (fo h xs r g)->Q v H'):Ni K a [v,w] H Q E:=⟨_,_,rfl,ra,rb,h,xs,h1,h2,ok,hw,c,qe,q⟩
theorem Zr(T:Txt K mg a):aG P w K mg base (eW P w) 12 a.Jq a.HU yo (Ni K a):=by
 refine T.IP.F.oV zC ?_ ?_;wtm_at "b2"
 refine⟨_,(ar (az 2 zC.nd (mE (yj T) hr T.oN zq (ae (pv 1) af)))
     (ar (az 3 zC.nd (mE (znl T) hr T.G3 zq (ae (ao (pv 1)) (ae (ao (pv 2)) (ae (ao (pv 2)) af)))))
     (ar (az 4 zC.nd (au (zkS T) hr T.GQ (ae (ao (au (TV T) hr T.AJ (ae (pv 1) (ae (pv 3) af)))) af)))
     (av (aB (br (by exact(@ae _ _ _ _ _ (pv 0) (@ae _ _ _ _ _ (ao (pv 1)) (@ae _ _ _ _ _ (pv 3) (@ae _ _ _ _ _ (pv 4) af fO) fO) eX) fO)))))))),?_⟩
 wtm_at "cl";rw[show start O1 [x0,x1]=[some x0,some x1,none,none,none]from rfl];obtain⟨ra,rb,hr',xs,ih,hw,ok,hno,hc,qe,q⟩:=h;obtain⟨rok,sz,hn⟩:=ok.round;have h8:=ok.h8;have bx:∀i,ag 4000 (xs.getD i 0):=λi=>(ok.cm.get i).mono (by decide)
 o_head yu hw h8 bx (λz=>absurd ok.h0 z) (λ_ vl H1 S1 il=>?_);have hw1:=hw.by S1;o_head aA (j:=0) hw1 rfl (λvr ir=>?_);o_head aA (j:=0) il rfl (λvz iz=>?_);o_head aA (j:=1) il rfl (λvp ip=>?_);o_head zni ir iz ip ok.ok sz hn (rW ok.cm) (by decide) (λz H2 S2=>?_) (λz y H2 S2=>?_) (λc c1 c2 y z w H2 S2=>?_) (λy z H2 S2=>?_)
 . have RR:(0:Nat)<=30:=by decide
   have FF:fF ra rb xs 0:=λk hk=>by lia
   have EE:=z;k_few;obtain⟨g,R⟩:=Sr ok.ok ok.h1 ok.hp ok.h0 RR FF EE;have g1:=R.g1;have gN:=R.gN;have hvl:=kP xs;refine Co (r:=0) (hw1.by S2) ok RR FF (λv3 H3 S3 i3=>?_);o_head aA (j:=1) i3 rfl (λv4 i4=>?_);k_few;have hj:=R.join;refine UC (g:=g-1) i4 ok.ok (by rw[aY];exact ok.h1) (by rw[aY];exact h8) (by lia) (λt ht=>by rw[cw];exact(hc _ g t R (by lia)).mono (by decide)) (λt ht=>R.one t (by lia)) (by lia) (λH5 S5=>?_);rw[show g-1+1=g by lia];have S15:=S2.trans (S3.trans S5);o_head aA (j:=1) (hw1.by S15) rfl (λv6 i6=>?_);o_head cB (ds:=[N hr',TN xs,.int ((0:Nat):Int),.int (g:Int)]) (by simp) (.cons (ih.by (S1.trans S15)) (.cons i6 (.cons (bW.mpr rfl) (.cons (bW.mpr rfl) .nil)))) (λv7 H7 S7 i7=>?_);exact q 0 g v7 H7 R (S1.trans (S15.trans S7)) i7
 . rw[zAf ok hno z]at y
   cases y
 . have RR:=c2
   have FF:fF ra rb xs c:=z;have EE:=w;k_few;obtain⟨g,R⟩:=Sr ok.ok ok.h1 ok.hp ok.h0 RR FF EE;have g1:=R.g1;have gN:=R.gN;have hvl:=kP xs;refine Co (r:=c) (hw1.by S2) ok RR FF (λv3 H3 S3 i3=>?_);o_head aA (j:=1) i3 rfl (λv4 i4=>?_);k_few;have hj:=R.join;refine UC (g:=g-1) i4 ok.ok (by rw[aY];exact ok.h1) (by rw[aY];exact h8) (by lia) (λt ht=>by rw[cw];exact(hc _ g t R (by lia)).mono (by decide)) (λt ht=>R.one t (by lia)) (by lia) (λH5 S5=>?_);rw[show g-1+1=g by lia];have S15:=S2.trans (S3.trans S5);o_head aA (j:=1) (hw1.by S15) rfl (λv6 i6=>?_);o_head cB (ds:=[N hr',TN xs,.int (c:Int),.int (g:Int)]) (by simp) (.cons (ih.by (S1.trans S15)) (.cons i6 (.cons (bW.mpr rfl) (.cons (bW.mpr rfl) .nil)))) (λv7 H7 S7 i7=>?_);exact q c g v7 H7 R (S1.trans (S15.trans S7)) i7
 . exact qe z H2 (S1.trans S2)
def pF(a b:Rat)(xs:List Rat)(i r g:Nat):Prop:=(i=0/\r=0/\g=1)\/(1<=i/\cT a b (ai a b xs i)=none/\gC a b (ai a b xs i) r g)
def fE(a b:Rat)(xs:List Rat):Nat->List (Nat × Nat × Nat)->Nat->Prop
 | i,[],n=>i=n
 | i,e::es,n=>e.1=i/\pF a b xs i e.2.1 e.2.2/\fE a b xs (cq a b xs i e.2.1 e.2.2) es n
theorem fE.snoc{a b:Rat}{xs:List Rat} : ∀{es:List (Nat × Nat × Nat)}{i n r g:Nat},fE a b xs i es n->pF a b xs n r g->fE a b xs i (es++[(n,r,g)]) (cq a b xs n r g)
 | [],i,n,r,g,h,k=>by
  have e:i=n:=h;subst e;exact⟨rfl,k,rfl⟩
 | e::es,i,n,r,g,h,k=>⟨h.1,h.2.1,fE.snoc h.2.2 k⟩
theorem p0(h:Rat)(xs:List Rat)(r g:Nat):di (fo h xs r g)=true:=by rw[fo,di,ck,ck,ck,ck,ck,kG,zG];rfl
theorem U3(a b:Rat)(xs:List Rat)(n:Nat)(w:String):di (om a b xs n w)=true:=by rw[om,di,ck,ck,ck,ck,kG,zG];rfl
structure c_(a b:Rat)(xs:List Rat):Prop where
 ok:aR a b
 h1:1<=xs.length
 h6:xs.length<=6
 hp:cu xs
 sz:∃m,kc b.den m xs/\m+648*xs.length<=3935
theorem c_.of{a:Rat}(ok:aR a b)(h1:1<=xs.length)(h6:xs.length<=6)(ph:∀x∈xs,fc x):c_ a b xs/\kc b.den 47 xs:=by
 have b6:∀j,ag 6 (xs.getD j 0):=λj=>by
  rcases wA j xs.length with z | z
  ·exact(ph _ (getD_mem z)).d4
  ·rw[wa,wL z];exact ag.zero.mono (by decide)
 have c0:Cm 43 xs:=(Cm.Y1 b6).mono (by lia);have c1:kc b.den 47 xs:=kc.of c0 (den_pos b) ⟨by have:=ok.bd;have:(2:Nat)^4=16:=(by decide);lia⟩;exact⟨⟨ok,h1,h6,⟨λx hx=>(ph x hx).nn,λx hx=>(ph x hx).lt⟩,47,c1,by lia⟩,c1⟩
def kx(a b:Rat)(xs:List Rat)(i:Nat):Prop:=bY a b xs i+216*(aj (ai a b xs i)).length<=6+216*xs.length/\i+186*(aj (ai a b xs i)).length<=1+186*6
structure fT(a b:Rat)(xs:List Rat)(es:List (Nat × Nat × Nat))(n:Nat)(w:String):Prop where
 walk:fE a b xs 0 es n
 e1:1<=es.length
 bK:es.length<=9
 n1:1<=n
 word:cT a b (ai a b xs n)=some w
 sp:kx a b xs n
theorem c_.kI{a:Rat}(h:c_ a b xs)(hg:bY a b xs (i+k)+216<=20+216*xs.length)(hk:k<=1024):Cm 3500 (aE a b (ai a b xs i) k::ai a b (ai a b xs i) k):=by
 obtain⟨m,c,hm⟩:=h.sz;exact(Sk h.ok c h.h1 h.hp (i:=i) (k:=k) (l:=10) (by rw[show(2:Nat)^10=1024 by decide];exact hk)).mono (by lia)
theorem c_.cm{a:Rat}(h:c_ a b xs)(hg:bY a b xs i+216<=20+216*xs.length)(hi:i<=1024):Cm 3500 (aE a b xs i::ai a b xs i):=h.kI (i:=0) (k:=i) (by rw[QG];exact hg) hi
theorem c_.Ko{a:Rat}(h:c_ a b xs)(h1:1<=i)(c:Cm 3500 (aE a b xs i::ai a b xs i)):ft a b (ai a b xs i) :=
 ⟨h.ok,by rw[aY];exact h.h1,by rw[aY];have:=h.h6;lia,h.hp.at h.ok.a0 h.ok.b0 i,h.hp.zero h.ok.a0 h.ok.b0 h.h1 h1,(kF c λy hy=>wy _ hy).mono (by decide)⟩
theorem c_.nf{a:Rat}(h:c_ a b xs)(i:Nat):1<=(aj (ai a b xs i)).length/\(aj (ai a b xs i)).length<=6:=by
 have:=kP (ai a b xs i);rw[aY]at this;have h6:=h.h6;exact⟨nh (by rw[aY];exact h.h1),by lia⟩
theorem c_.nl{a:Rat}(i:Nat):(aj (ai a b xs i)).length<=xs.length:=by
 have:=kP (ai a b xs i);rw[aY]at this;exact this
theorem c_.one{a:Rat}(h:c_ a b xs):kx a b xs 1:=by
 have h6:=h.h6;have h1:=h.h1;have:=pC h.ok.a0 h.ok.b0 h.h1 h.hp 1;have:=(h.nf 1).2;have:=c_.nl (a:=a) (b:=b) (xs:=xs) 1;exact⟨by lia,by lia⟩
theorem c_.within{a:Rat}(h:c_ a b xs){g t:Nat}(i1:1<=i)(sp:kx a b xs i)(n2:2<=(aj (ai a b xs i)).length)(R:gC a b (ai a b xs i) r g)(ht:t<=g):bY a b xs (i+(r*(aj (ai a b xs i)).length+t))+216<=20+216*xs.length/\i+(r*(aj (ai a b xs i)).length+t)<=1024/\bY a b xs (i+(r*(aj (ai a b xs i)).length+t))<=bY a b xs i+216/\r*(aj (ai a b xs i)).length+t<=186:=by
 have h6:=h.h6;have nf:=(h.nf i).2;have hl:=aY a b xs i;have g1:=R.bY h.ok (by rw[hl];exact h.h1) (h.hp.at h.ok.a0 h.ok.b0 i) (h.hp.zero h.ok.a0 h.ok.b0 h.h1 i1) ht;rw[hl]at g1
 have g2:30*xs.length+xs.length*xs.length<=216:=by
  have:xs.length*xs.length<=6*6:=V2 h6 h6;lia
 have g3:r*(aj (ai a b xs i)).length<=30*6:=V2 R.jH nf;have g4:=R.gN;obtain⟨s1,s2⟩:=sp;rw[lU];exact⟨by lia,by lia,by lia,by lia⟩
theorem c_.next{a:Rat}(h:c_ a b xs){g:Nat}(i1:1<=i)(sp:kx a b xs i)(n2:2<=(aj (ai a b xs i)).length)(R:gC a b (ai a b xs i) r g):kx a b xs (cq a b xs i r g):=by
 obtain⟨_,_,w1,w2⟩:=h.within i1 sp n2 R (wo g);have f:=R.Kc h.ok (by rw[aY];exact h.h1) (h.hp.at h.ok.a0 h.ok.b0 i);rw[cw]at f;obtain⟨s1,s2⟩:=sp;unfold kx cq;exact⟨by lia,by lia⟩
theorem Rm{a:Rat}(h:cT a b xs=none)(h1:1<=(aj xs).length):2<=(aj xs).length:=by
 unfold cT at h
 split at h
 ·cases h
 ·lia
def iA(a b:Rat)(xs:List Rat):Prop:=∃es i,fE a b xs 0 es i/\1<=i/\cT a b (ai a b xs i)=none /\ ∀k,k<=30->cg a b (aW (ai a b xs i)) (bA (ai a b xs i)) k=true
def Cr(K:wb)(a:Ad):Sp:=λvs H Q E=>∃x0,vs=[x0] /\ ∃(ra rb:Rat)(xs:List Rat),Is K H x0 (aZ ra rb xs)/\c_ ra rb xs /\
 (iA ra rb xs->∀H',ah H H'->E (.ref a.fC) none H') /\ ∀l H' es n w,fT ra rb xs es n w->H l=none->ah H H'->Is K H' (.ref l) (.list (cf ra rb xs es n w))->Q (.ref l) H'
theorem LQ(h:Is K H v (aZ ra rb xs))(ok:c_ ra rb xs)(qe:iA ra rb xs->∀H',ah H H'->E (.ref a.fC) none H')(q:∀l H' es n w,fT ra rb xs es n w->H l=none->ah H H'->Is K H' (.ref l) (.list (cf ra rb xs es n w))->Q (.ref l) H'):Cr K a [v] H Q E:=⟨_,rfl,ra,rb,xs,h,ok,qe,q⟩
theorem Ob(T:Txt K mg a):aG P w K mg base (eW P w) 13 a.Jy a.HL AE (Cr K a):=by
 refine T.oI.F.oV md ?_ ?_;wtm_at "b1"
 refine⟨_,(ar (az 1 md.nd (fb (ae (br (by exact(@ae _ _ _ _ _ (b_ (v:=.ref a.dy) rfl T.dW rfl) (@ae _ _ _ _ _ (ao (pv 0)) (@ae _ _ _ _ _ ay (@ae _ _ _ _ _ ay af lG) lG) eX) fO))) af)))
     (ar (az 2 md.nd fG)
     (ar (nE ub (bZ tE (pv 2) fG (bC _)) (ar (az 3 md.nd (dH dh (pv 1) (gr gH ay) (λ_ _=>rfl)))
     (ar (az 4 md.nd (au (Yc T) hr T.AQ (ae (br (ae (ao (pv 0)) (ae (ao (pv 3)) af))) (ae (ao (pv 3)) (ae (ao (pv 3)) af)))))
     (ar (az 5 md.nd (au (gu T) hr T.fQ (ae (ao (pv 3)) (ae (ao (pv 4)) af))))
     (ar (az 2 md.nd (au (LX T) hr T.AZ (ae (ao (pv 4)) af)))
     (av (nA (nX WT WQ WR lH (pv 1) (ae (tP (bZ tE (pv 2) fG (bC _)) (mE (Zr T) hr T.IP zq (ae (pv 5) (ae (ao (pv 4)) af))) (br (ae (pv 5) (ae (ao (ao (pv 4))) (ae (pv 2) af))))) af)))))))))
     (av (aB (pv 1)))))),?_⟩
 wtm_at "cl";rw[show start R0 [x0]=[some x0,none,none,none,none,none]from rfl];obtain⟨ra,rb,xs,hw,ok,qe,q⟩:=h;o_head aA (j:=1) hw rfl (λv1 i1=>?_);o_head cB (ds:=[N 0,TN xs,.int 0,.int 1]) (by simp) (.cons (d9 0 (T.eU _) rfl rfl) (.cons i1 (.cons (bW.mpr rfl) (.cons (bW.mpr rfl) .nil)))) (λv2 H2 S2 i2=>?_);o_head fB (by simp) (λlr H3 n3 S3 e3=>?_);have hlr:H lr=none:=jt S2 n3;k_few
 refine zI (λm σ' H'=>∃(us:List V)(es:List (Nat × Nat × Nat))(vw:V)(o3 o4 o5:Option V),σ'=[some x0,some (.ref lr),some vw,o3,o4,o5]/\ah H H'/\H' lr=some (.lst us) /\
   ((vw=.a_ /\ ∃i r g,fE ra rb xs 0 es i/\pF ra rb xs i r g/\ak K H' us ((es++[(i,r,g)]).map (oH ra rb xs))/\(1<=i->kx ra rb xs i)/\es.length+(aj (ai ra rb xs (cq ra rb xs i r g))).length<=6/\m=(aj (ai ra rb xs (cq ra rb xs i r g))).length) \/
     ∃n w,vw=.str (wW w)/\fT ra rb xs es n w/\ak K H' us (cf ra rb xs es n w)/\m=0)) _ ⟨[v2],[],.a_,_,_,_,rfl,S2.trans S3,e3,.inl ⟨rfl,0,0,1,rfl,.inl ⟨rfl,rfl,rfl⟩,.cons (i2.by S3) .nil,λh=>by lia,by have:=(ok.nf (cq ra rb xs 0 0 1)).2;simpa using this,rfl⟩⟩ ?_
 rintro m σ' H4 ⟨us,es,vw,o3,o4,o5,rfl,S4,e4,C⟩;rcases C with⟨rfl,i,r,g,wk,ro,t4,sp,bK,rfl⟩ | ⟨n,w',rfl,P,t4,rfl⟩
 . have hN:=(ok.nf i).2
   have h6:=ok.h6;have h1L:=ok.h1
   have facts:g<=40/\(1<=r->ft ra rb (ai ra rb xs i)/\r<=30/\fF ra rb (ai ra rb xs i) r)/\bY ra rb xs (cq ra rb xs i r g)+216<=20+216*xs.length/\cq ra rb xs i r g<=1024/\bY ra rb xs i+216<=20+216*xs.length/\i<=1024/\(∀t,t<=g->bY ra rb xs (i+(r*(aj (ai ra rb xs i)).length+t))+216<=20+216*xs.length)/\kx ra rb xs (cq ra rb xs i r g)/\r<=30:=by
     rcases ro with⟨rfl,rfl,rfl⟩ | ⟨i1,hno,R⟩
     . have e:cq ra rb xs 0 0 1=1:=by unfold cq;lia
       have h2:=pC ok.ok.a0 ok.ok.b0 ok.h1 ok.hp;refine⟨by lia,λz=>by lia,by rw[e];have:=h2 1;lia,by lia,by have:=h2 0;lia,by lia,λt ht=>?_,by rw[e];exact ok.one,by lia⟩;have h3:=h2 (0+(0*(aj (ai ra rb xs 0)).length+t));have h4:(0+(0*(aj (ai ra rb xs 0)).length+t))*xs.length<=1*6:=V2 (by lia) h6;lia
     . have n2:=Rm hno (ok.nf i).1
       have sp:=sp i1;have w:=λ{t:Nat}(ht:t<=g)=>ok.within i1 sp n2 R ht
       have w0:=w (wo g);have g4:=R.gN;have si:=sp.1;have si2:=sp.2;have c:Cm 3500 (aE ra rb xs i::ai ra rb xs i):=ok.cm (by lia) (by lia);exact⟨by lia,λ_=>⟨ok.Ko i1 c,R.jH,R.free⟩,w0.1,w0.2.1,by lia,by lia,λt ht=>(w ht).1,ok.next i1 sp n2 R,R.jH⟩
   obtain⟨g40,fr,gl,nl,gi,ni,gw,sl,jH⟩:=facts;have cI:=ok.cm gi ni;have cL:=ok.cm gl nl
   have n1:1<=cq ra rb xs i r g:=by
     unfold cq;rcases ro with⟨rfl,rfl,rfl⟩ | ⟨i1,hno,R⟩
     . lia
     . lia
   have swL:=ok.Ko n1 cL;have hrN:r*(aj (ai ra rb xs i)).length<=30*6:=V2 jH hN;have hul:=t4.length;rw[wm,wR,vV]at hul;have hnf:=(ok.nf (cq ra rb xs i r g)).1;o_head Ah ?_;k_few
   have il:Is K H4 (.ref lr) (.list (es.map (oH ra rb xs)++[oH ra rb xs (i,r,g)])):=by
     rw[vA]at t4;exact cC.mpr ⟨lr,us,rfl,.of e4,t4⟩
   refine lE il (λv5 i5=>?_);have i5:Is K H4 v5 (fo (aE ra rb xs i) (ai ra rb xs i) r g):=i5;have hw4:=hw.by S4;o_head aA (j:=0) hw4 rfl (λv6 i6=>?_);o_head aA (j:=1) i5 rfl (λv7 i7=>?_);o_head cB (ds:=[R ra rb,TN (ai ra rb xs i)]) (by simp) (.cons i6 (.cons i7 .nil)) (λv8 H8 S8 i8=>?_);have i58:=i5.by S8;o_head aA (j:=2) i58 rfl (λv9 i9=>?_);rw[bW.mp i9];o_head aA (j:=3) i58 rfl (λv10 i10=>?_);rw[bW.mp i10];k_few;have bH:ag 8000 (aE ra rb (ai ra rb xs i) (r*(aj (ai ra rb xs i)).length)):=((ok.kI (i:=i) (k:=r*(aj (ai ra rb xs i)).length) (by have:=gw 0 (by lia);rw[XG]at this;exact this) (by lia)).d4 (wz ..)).mono (by decide)
   have cG:∀t,t<=g->Cm 3700 (aE ra rb (ai ra rb (ai ra rb xs i) (r*(aj (ai ra rb xs i)).length)) t::ai ra rb (ai ra rb (ai ra rb xs i) (r*(aj (ai ra rb xs i)).length)) t):=λt ht=>by
     rw[cw ra rb xs];exact(ok.kI (i:=i+r*(aj (ai ra rb xs i)).length) (k:=t) (by have:=gw t ht;rw[<- WS]at this;exact this) (by lia)).mono (by decide)
   refine Nl (show Is K H8 v8 (aZ ra rb (ai ra rb xs i))from i8) ok.ok (by rw[aY];exact ok.h1) (by rw[aY];lia) fr g40 bH cG (λv11 H11 S11 i11=>?_);have i11:Is K H11 v11 (.tuple [N (aE ra rb (ai ra rb xs i) (r*(aj (ai ra rb xs i)).length+g)),aZ ra rb (ai ra rb (ai ra rb xs i) (r*(aj (ai ra rb xs i)).length+g))]):=i11;rw[cw]at i11;have i11:Is K H11 v11 (.tuple [N (aE ra rb (ai ra rb xs i) (r*(aj (ai ra rb xs i)).length+g)),aZ ra rb (ai ra rb xs (cq ra rb xs i r g))]):=i11;have i511:=i58.by S11;have bI:ag 3500 (aE ra rb xs i):=cI.d4 (wz ..);have bJ:ag 3500 (aE ra rb (ai ra rb xs i) (r*(aj (ai ra rb xs i)).length+g)):=(ok.kI (i:=i) (k:=r*(aj (ai ra rb xs i)).length+g) gl (by lia)).d4 (wz ..);o_head aA (j:=0) i511 rfl (λv12 i12=>?_);o_head aA (j:=0) i11 rfl (λv13 i13=>?_);k_few;rename_i v14 H14 S14 i14;rw[jU]at i14;have i14:Is K H14 v14 (N (aE ra rb xs (cq ra rb xs i r g))):=i14;have i1114:=i11.by S14;refine aA (j:=1) i1114 rfl (λv15 i15=>?_);have i15:Is K H14 v15 (aZ ra rb (ai ra rb xs (cq ra rb xs i r g))):=i15;o_head MG i15 swL (λH16 S16=>?_);have S816:=S8.trans (S11.trans (S14.trans S16));have e16:=S816 _ _ e4;have t16:ak K H16 us ((es++[(i,r,g)]).map (oH ra rb xs)):=ak.same S816 _ _ t4;have S416:=S4.trans S816;have i1116:=i1114.by S16;have i1416:=i14.by S16;have i1516:=i15.by S16;have wk':=wk.snoc ro;generalize hlead:cq ra rb xs i r g=n at *;cases hwd:cT ra rb (ai ra rb xs n)with
   | none =>
     show iB 2 V.a_ _ _ _
     o_head mr (aO.of e16) ?_;o_head aA (j:=1) i1116 rfl (λv17 i17=>?_);k_few;have n2:=Rm hwd hnf;refine zsq i1416 (show Is K H16 v17 (aZ ra rb (ai ra rb xs n))from i17) swL hwd (λr' g' t R ht=>?_) (λz H' S=>qe ⟨_,n,wk',n1,hwd,z⟩ H' (S416.trans S)) (λr' g' v18 H18 R S18 i18=>?_)
     . have w:=ok.within n1 sl n2 R ht
       rw[cw];exact(kF (ok.cm w.1 w.2.1) λy hy=>wy _ hy).mono (by decide)
     . k_few
       have e18:=S18 _ _ e16;refine lR e18 (by lia) (λH19 E19 e19=>?_);have K19:=E19.keep e18;have fw:=R.Kc ok.ok (by rw[aY];exact ok.h1) (ok.hp.at ok.ok.a0 ok.ok.b0 n);rw[cw]at fw;have fw:(aj (ai ra rb xs (cq ra rb xs n r' g'))).length<(aj (ai ra rb xs n)).length:=fw;o_head ⟨_,fw,us++[v18],es++[(i,r,g)],.a_,_,_,_,rfl,(S416.trans S18).grow hlr E19,e19,.inl ⟨rfl,n,r',g',wk',.inr ⟨n1,hwd,R⟩,?_,λ_=>sl,?_,rfl⟩⟩
       . rw[vA]
         exact(ak.keep K19 _ _ (oZ _ (λe=>p0 _ _ _ _) _) (ak.same S18 _ _ t16)).append (.cons (i18.jm K19 (p0 _ _ _ _)) .nil)
       . rw[wR,vV]
         lia
   | some wd =>
     show iB 2 (V.str (wW wd)) _ _ _
     o_head mr (aO.of e16) ?_;k_few
     . rename_i z;cases z
     . refine aA (j:=1) i1116 rfl (λv17 i17=>?_)
       o_head aA (j:=1) i17 rfl (λv18 i18=>?_);o_head cB (ds:=[N (aE ra rb xs n),TN (ai ra rb xs n),.str (wW wd)]) (by simp) (.cons i1416 (.cons i18 (.cons (eZ.mpr rfl) .nil))) (λv19 H19 S19 i19=>?_);k_few;have e19:=S19 _ _ e16;refine lR e19 (by lia) (λH20 E20 e20=>?_);have K20:=E20.keep e19;o_head ⟨0,by lia,us++[v19],es++[(i,r,g)],_,_,_,_,rfl,(S416.trans S19).grow hlr E20,e20,.inr ⟨n,wd,rfl,⟨wk',by simp,by rw[wR,vV];lia,n1,hwd,sl⟩,?_,rfl⟩⟩;exact(ak.keep K20 _ _ (oZ _ (λe=>p0 _ _ _ _) _) (ak.same S19 _ _ t16)).append (.cons (i19.jm K20 (U3 _ _ _ _ _)) .nil)
 . k_few
   . rename_i z;cases z
   . exact q lr H4 es n w' P hlr S4 (cC.mpr ⟨lr,us,rfl,.of e4,t4⟩)
theorem zyT{a:Rat}{g r' g':Nat}(R:gC a b xs r g)(S:gC a b xs r' g'):r=r'/\g=g':=by
 have er:r=r':=by
  rcases WU r r' with z | z | z
  ·have:=S.free r z;rw[R.ends]at this;cases this
  ·exact z
  ·have:=R.free r' z;rw[S.ends]at this;cases this
 subst er;refine⟨rfl,?_⟩;have g1:=R.g1;have g2:=S.g1;have j1:=R.join;have j2:=S.join;rcases WU g g' with z | z | z
 ·have:=S.one (g-1) (by lia);lia
 ·exact z
 ·have:=R.one (g'-1) (by lia);lia
theorem RE{a:Rat}{g r' g':Nat}(R:pF a b xs i r g)(S:pF a b xs i r' g'):r=r'/\g=g':=by
 rcases R with⟨e,rfl,rfl⟩ | ⟨i1,_,R⟩<;>rcases S with⟨e',rfl,rfl⟩ | ⟨i1',_,S⟩
 ·exact⟨rfl,rfl⟩
 ·lia
 ·lia
 ·exact zyT R S
theorem Of{a b:Rat}{xs:List Rat} : ∀{es es':List (Nat × Nat × Nat)}{i n n':Nat},fE a b xs i es n->fE a b xs i es' n'->1<=n->cT a b (ai a b xs n)≠none->1<=n'->cT a b (ai a b xs n')=none->(∀k,k<=30->cg a b (aW (ai a b xs n')) (bA (ai a b xs n')) k=true)->False
 | [],[],i,n,n',h,k,n1,w,_,w',_=>by
  have e:i=n:=h;have e':i=n':=k;subst e;subst e';exact w w'
 | [],f::fs,i,n,n',h,k,n1,w,_,_,_=>by
  have e:i=n:=h;subst e;rcases k.2.1 with⟨z,_,_⟩ | ⟨_,z,_⟩
  ·lia
  ·exact w z
 | e::es,[],i,n,n',h,k,_,_,n1',_,all=>by
  have e':i=n':=k;subst e';rcases h.2.1 with⟨z,_,_⟩ | ⟨_,_,R⟩
  ·lia
  ·have:=R.ends
   rw[all _ R.jH]at this;cases this
 | e::es,f::fs,i,n,n',h,k,n1,w,n1',w',all=>by
  obtain⟨e1,e2⟩:=RE h.2.1 k.2.1;have k2:=k.2.2;rw[<- e1,<- e2]at k2;exact Of h.2.2 k2 n1 w n1' w' all
theorem R4{a b:Rat}{xs:List Rat} : ∀{es es':List (Nat × Nat × Nat)}{i n n':Nat},fE a b xs i es n->fE a b xs i es' n'->1<=n->cT a b (ai a b xs n)≠none->1<=n'->cT a b (ai a b xs n')≠none->es=es'/\n=n'
 | [],[],i,n,n',h,k,_,_,_,_=>⟨rfl,(show i=n from h).symm.trans k⟩
 | [],f::fs,i,n,n',h,k,n1,w,_,_=>by
  have e:i=n:=h;subst e;rcases k.2.1 with⟨z,_,_⟩ | ⟨_,z,_⟩
  ·lia
  ·exact absurd z w
 | e::es,[],i,n,n',h,k,_,_,n1',w'=>by
  have e':i=n':=k;subst e';rcases h.2.1 with⟨z,_,_⟩ | ⟨_,z,_⟩
  ·lia
  ·exact absurd z w'
 | e::es,f::fs,i,n,n',h,k,n1,w,n1',w'=>by
  obtain⟨e1,e2⟩:=RE h.2.1 k.2.1;have k2:=k.2.2;rw[<- e1,<- e2]at k2;obtain⟨q1,q2⟩:=R4 h.2.2 k2 n1 w n1' w';refine⟨?_,q2⟩;rw[q1]
  congr 1
  exact VH (h.1.trans k.1.symm) (VH e1 e2)
theorem ztY{a:Rat}{es':List (Nat × Nat × Nat)}{n':Nat}{w w':String}(P:fT a b xs es n w)(S:fT a b xs es' n' w'):es=es'/\n=n'/\w=w':=by
 have hw:=P.word;have hw':=S.word;obtain⟨e1,e2⟩:=R4 P.walk S.walk P.n1 (by rw[hw];simp) S.n1 (by rw[hw'];simp);subst e2;rw[hw]at hw';exact⟨e1,rfl,wM hw'⟩
theorem OY{a:Rat}{w:String}(P:fT a b xs es n w)(F:iA a b xs):False:=by
 obtain⟨es',i,h,i1,hw,all⟩:=F;exact Of P.walk h P.n1 (by rw[P.word];simp) i1 hw all
def ox(w:String)(n:Nat):wC:=.tuple [.str (wW w),.int (n:Int)]
def BF(K:wb)(a:Ad):Sp:=λvs H Q E=>∃x0,vs=[x0] /\ ∃(ra rb:Rat)(xs:List Rat),Is K H x0 (aZ ra rb xs)/\c_ ra rb xs /\
 (iA ra rb xs->∀H',ah H H'->E (.ref a.fC) none H') /\ ∀es n w v H',fT ra rb xs es n w->ah H H'->Is K H' v (ox w (aj (ai ra rb xs n)).length)->Q v H'
theorem zAb(h:Is K H v (aZ ra rb xs))(ok:c_ ra rb xs)(qe:iA ra rb xs->∀H',ah H H'->E (.ref a.fC) none H')(q:∀es n w v H',fT ra rb xs es n w->ah H H'->Is K H' v (ox w (aj (ai ra rb xs n)).length)->Q v H'):BF K a [v] H Q E:=⟨_,rfl,ra,rb,xs,h,ok,qe,q⟩
theorem fT.cm{a:Rat}{w:String}(P:fT a b xs es n w)(ok:c_ a b xs):Cm 3500 (aE a b xs n::ai a b xs n):=by
 have hnf:=ok.nf n;have s1:=P.sp.1;have s2:=P.sp.2;exact ok.cm (by lia) (by lia)
theorem Zn(T:Txt K mg a):aG P w K mg base (eW P w) 14 a.Ki a.JJ zh (BF K a):=by
 refine T.sA.F.oV Tw ?_ ?_;wtm_at "b1"
 refine⟨_,(ar (az 1 Tw.nd (dH dh (mE (Ob T) hr T.oI zq (ae (pv 0) af)) (gr gH ay) (λ_ _=>rfl)))
     (av (aB (br (ae (ao (pv 1)) (ae (bE (show aJ _ (.builtin "len") (dj K)from d6) rfl T.h0r dU (ae (au (Fj T) hr T.sk (ae (br (ae (ao (pv 0)) (ae (ao (pv 1)) af))) af)) af)) af)))))),?_⟩
 wtm_at "cl";rw[show start NV [x0]=[some x0,none]from rfl];obtain⟨ra,rb,xs,hw,ok,qe,q⟩:=h;have h6:=ok.h6;o_head LQ hw ok qe (λl H1 es n wd P hl S1 i1=>?_);have c:=P.cm ok;have bx:∀i,ag 4000 ((ai ra rb xs n).getD i 0):=λi=>((kF c λy hy=>wy _ hy).get i).mono (by decide)
 have hw1:=hw.by S1;o_head lE i1 (λv2 i2=>?_);have i2:Is K H1 v2 (.tuple [N (aE ra rb xs n),TN (ai ra rb xs n),.str (wW wd)]):=i2;o_head aA (j:=2) i2 rfl (λv3 i3=>?_);rw[eZ.mp i3];o_head aA (j:=0) hw1 rfl (λv4 i4=>?_);o_head aA (j:=1) i2 rfl (λv5 i5=>?_);o_head cB (ds:=[R ra rb,TN (ai ra rb xs n)]) (by simp) (.cons i4 (.cons i5 .nil)) (λv6 H6 S6 i6=>?_);o_head Ex (show Is K H6 v6 (aZ ra rb (ai ra rb xs n))from i6) (by rw[aY];lia) bx (λlf H7 us7 n7 S7 e7 t7=>?_);have hul:=t7.length;rw[wm]at hul;o_head jf (.of e7) ?_;rw[hul];o_head cB (ds:=[.str (wW wd),.int ((aj (ai ra rb xs n)).length:Int)]) (by simp) (.cons (eZ.mpr rfl) (.cons (bW.mpr rfl) .nil)) (λv8 H8 S8 i8=>?_);exact q es n wd v8 H8 P (S1.trans (S6.trans (S7.trans S8))) i8
def Nt(K:wb):Sp:=λvs H Q _=>∃x0 x1,vs=[x0,x1] /\ ∃(a:we)(ns:List Int)(k:Int),x0=.ref a/\x1=.int k/\iV K H a (ns.map V.int)/\ns.length<=63/\0<=k/\k<=1000 /\ ∀c:Int,Q (.int c) H
theorem zr8{a:we}{k:Int}(h:iV K H a (ns.map V.int))(hl:ns.length<=63)(h0:0<=k)(h1:k<=1000)(q:∀c:Int,Q (.int c) H):Nt K [.ref a,.int k] H Q E:=⟨_,_,rfl,a,ns,k,rfl,rfl,h,hl,h0,h1,q⟩
theorem zs0(T:Txt K mg a):aG P w K mg base aS 1 a.Js a.Ic yF (Nt K):=by
 refine T.IK.F.ok zsJ ?_ ?_;wtm_at "b2"
 refine⟨_,(ar (bQ (bZ mW (pv 1) (bE (show aJ _ (.builtin "len") (dj K)from d6) rfl T.h0r dU (ae (pv 0) af)) (bC _)) (av (aB (bE lO rfl T.h0s mC (ae (dH dh (pv 0) (pv 1) (λ_ _=>rfl)) af)))) bR)
     (ar (bQ (bZ (show aN _ (wT .Eq) (cO K)from dG hu) (bE (show aJ _ (.builtin "len") (dj K)from d6) rfl T.h0r dU (ae (pv 0) af)) ay (bC _)) (av (aB (aC cF (aC cV ay (pv 1)) ay))) bR)
     (av (aB (aC cF (aC gW (bE lO rfl T.h0s mC (ae (dH dh (pv 0) (aC gW (pv 1) (bE (show aJ _ (.builtin "len") (dj K)from d6) rfl T.h0r dU (ae (pv 0) af))) (λ_ _=>rfl)) af)) (RL (v:=100000000000000000) ⟨by decide,by decide,by decide⟩ (by decide +kernel))) (aC cV ay (pv 1))))))),?_⟩
 wtm_at "cl";rw[show start Dx [x0,x1]=[some x0,some x1]from rfl];obtain⟨a',ns,k,rfl,rfl,hs,hl,h0,h1,q⟩:=h;o_head jf hs.sq ?_;k_few
 . refine My hs h0 (by assumption) (λz=>?_)
   k_few;exact q _
 . refine jf hs.sq ?_
   k_few
   . exact q _
   . refine jf hs.sq ?_
     o_head My hs (QI _ (by lia)) (Qe _ (by lia)) (λz=>?_);k_few;exact q _
def cJ(H:Hp)(p:we)(k:Int):Prop:=∃(a:Int)(b:Bool)(n:Int),H p=some (.lst [.int a,.bl b,.int n])/\0<=n/\n<=k
theorem cJ.same{H':Hp}{k:Int}(s:ah H H')(h:cJ H p k):cJ H' p k:=by
 obtain⟨x,y,n,e,h1,h2⟩:=h;exact⟨x,y,n,s _ _ e,h1,h2⟩
theorem cJ.le{j k:Int}(h:cJ H p j)(e:j<=k):cJ H p k:=by
 obtain⟨x,y,n,z,h1,h2⟩:=h;exact⟨x,y,n,z,h1,Int.le_trans h2 e⟩
theorem cJ.ne{q:we}{k:Int}(e:H q=none)(h:cJ H p k):q≠p:=by
 obtain⟨x,y,n,z,_⟩:=h;exact(jP z e).symm
def Mm(K:wb):Sp:=λvs H Q _=>∃x0 x1,vs=[x0,x1] /\ ∃(a:we)(ns:List Int)(k:Int),x0=.ref a/\x1=.int k/\iV K H a (ns.map V.int)/\ns.length<=63/\0<=k/\k<=1000 /\
 ∀p H',H p=none->ah H H'->cJ H' p 0->Q (.ref p) H'
theorem DD{a:we}{k:Int}(h:iV K H a (ns.map V.int))(hl:ns.length<=63)(h0:0<=k)(h1:k<=1000)
  (q:∀p H',H p=none->ah H H'->cJ H' p 0->Q (.ref p) H'):Mm K [.ref a,.int k] H Q E:=⟨_,_,rfl,a,ns,k,rfl,rfl,h,hl,h0,h1,q⟩
local macro_rules | `(tactic| wtm_at "pen")=>`(tactic| first
 | assumption
 | (apply cJ.same;(focus assumption);wtm_at "pen"))
local macro_rules | `(tactic| wtm_at "ne")=>`(tactic| ((with_reducible apply cJ.ne); (focus assumption); wtm_at "pen"))
local macro_rules | `(tactic| wtm_at "penle")=>`(tactic| exact cJ.le (by wtm_at "pen") (by lia))
theorem DO(T:Txt K mg a):aG P w K mg base aS 2 a.J0 a.ID z_ (Mm K):=by
 refine T.sf.F.ok Lp ?_ ?_;wtm_at "b2"
 refine⟨_,(ar (az 2 Lp.nd (au (zs0 T) hr T.IK (ae (pv 0) (ae (pv 1) af))))
     (av (aB (fb (ae (pv 2) (ae (e_ C1 (pv 2) (RL (v:=1000000000000000000) ⟨by decide,by decide,by decide⟩ (by decide +kernel)) (bC _)) (ae ay af))))))),?_⟩
 wtm_at "cl";rw[show start Ox [x0,x1]=[some x0,some x1,none]from rfl];obtain⟨a',ns,k,rfl,rfl,hs,hl,h0,h1,q⟩:=h;o_head zr8 hs hl h0 h1 (λc=>?_);k_few;exact fB (by show 3<=1000;decide) λp H' hp s e=>q p H' hp s ⟨_,_,0,e,by decide,by decide⟩
def Nn(K:wb):Sp:=λvs H Q _=>∃x0 x1,vs=[x0,x1] /\ ∃(p:we)(k m:Int),x0=.ref p/\x1=.int m/\cJ H p k/\k<=1000000/\0<m/\Bd 8999 m /\
 ∀(r:Int)(H':Hp),0<=r->r<m->Exc p H H'->bG H H'->cJ H' p (k+1)->Q (.int r) H'
theorem zrN{k m:Int}(h:cJ H p k)(hk:k<=1000000)(hm:0<m)(hb:Bd 8999 m)
  (q:∀(r:Int)(H':Hp),0<=r->r<m->Exc p H H'->bG H H'->cJ H' p (k+1)->Q (.int r) H'):Nn K [.ref p,.int m] H Q E:=⟨_,_,rfl,p,k,m,rfl,rfl,h,hk,hm,hb,q⟩
local macro_rules | `(tactic| wtm_at "gs")=>`(tactic| ((with_reducible apply zrN); (focus wtm_at "pen"); (focus lia); (focus lia); (focus wtm_at "bd128"); intro _ _ _ _ _ _ _))
theorem fJ(T:Txt K mg a):aG P w K mg base aS 1 a.JG a.Ig yg (Nn K):=by
 refine T.ff.F.ok zS ?_ ?_;wtm_at "b2"
 refine⟨_,(ar (nH (aC cF (ao (pv 0)) ay) (p9 (pv 0) ay pb))
     (ar (bQ (cz (ao (pv 0))) (ar (az 2 zS.nd (aC gW (ao (pv 0)) (pv 1)))
     (ar (nH (aC fu (ao (pv 0)) (pv 1)) (p9 (pv 0) ay pb))
     (av (aB (pv 2))))) bR)
     (ar (az 3 zS.nd (aC gW (aC cV (aC cF (aC gW (ao (pv 0)) ay) ay) (aC cF ay (aC cV (ao (pv 0)) (ao (pv 0))))) ay))
     (ar (az 3 zS.nd (aC gW (aC cV (pv 3) (aC cF (pv 3) (aC cV ay (ao (pv 0))))) ay))
     (av (aB (aC gW (aC fu (aC gW (aC cV (pv 3) (aC cF (aC fu (pv 3) ay) ay)) ay) ay) (pv 1)))))))),?_⟩
 wtm_at "cl";rw[show start ML [x0,x1]=[some x0,some x1,none,none]from rfl];obtain⟨p,k,m,rfl,rfl,⟨x,y,n,hp,hn0,hn1⟩,hk,hm,hbm,q⟩:=h;k_few
 all_goals
   exact q _ _ (QI _ (by lia)) (Qe _ hm) (by wtm_at "exc") (Exc.keep (p:=p) (by wtm_at "exc") hp) ⟨_,_,_,by assumption,by lia,by lia⟩
def Cc(K:wb):Sp:=λvs H Q _=>∃x0 x1,vs=[x0,x1] /\ ∃(t b:Int),x0=.int t/\x1=.int b/\0<b/\Bd 8999 b /\ ∀v H',ah H H'->Is K H' v (N (wB t b))->Q v H'
theorem oD{b:Int}(hb:0<b)(hB:Bd 8999 b)(q:∀v H',ah H H'->Is K H' v (N (wB t b))->Q v H'):Cc K [.int t,.int b] H Q E:=⟨_,_,rfl,t,b,rfl,rfl,hb,hB,q⟩
theorem zxq{b:Int}(hb:0<b)(h1 : -100000000000000000000000000000000000000<=t)(h2:t<=100000000000000000000000000000000000000)(h3 : -100000000000000000000000000000000000000<=b)(h4:b<=100000000000000000000000000000000000000)
  (q:∀v H' (x:Rat),ah H H'->Is K H' v (N x)->x=wB t b->ag 128 x->Q v H'):Cc K [.int t,.int b] H Q E :=
 oD hb ((Bd.kC h3 h4).mono (by decide)) λv H' s h=>q v H' _ s h rfl (ag.divInt (show b≠0 by lia) (Bd.kC h1 h2) (Bd.kC h3 h4))
local macro_rules | `(tactic| wtm_at "gs")=>`(tactic| ((with_reducible apply zxq); (focus lia); (focus lia); (focus lia); (focus lia); (focus lia); intro _ _ _ _ _ _ _))
theorem gR(T:Txt K mg a):aG P w K mg base aS 1 a.JS a.Iv s_ (Cc K):=by
 refine T.gj.F.ok An ?_ ?_;wtm_at "b2"
 refine⟨_,(ar (az 2 An.nd (bE lO rfl T.h0s mC (ae (pv 0) af)))
     (ar (az 3 An.nd (pv 1))
     (ar (nE vP (bZ oy (pv 3) ay (bC _)) (av (zCQ (i:=2) (j:=3) rfl An.nd rfl rfl (by decide) rfl rfl (ae (pv 3) (ae (aC gW (pv 2) (pv 3)) af)) rfl)))
     (av (aB (br (ae (aC fu (pv 0) (pv 2)) (ae (aC fu (pv 1) (pv 2)) af)))))))),?_⟩
 wtm_at "cl";rw[show start Rx [x0,x1]=[some x0,some x1,none,none]from rfl];obtain⟨t,b,rfl,rfl,hp,hB,q⟩:=h;have hb:b≠0:=by lia
 o_head RW (λσ H'=>∃(x y:Int),σ = [some (.int t),some (.int b),some (.int x),some (.int y)]/\0<=x/\0<=y/\vE x y=vE t b/\H'=H) (λσ=>(Mo σ 3).toNat) ⟨_,_,rfl,by split<;>lia,by lia,tm t b,rfl⟩ ?_;rintro σ H' ⟨x,y,rfl,hx,hy,hg,rfl⟩
 have hgb:Bd 8999 ((vE t b:Nat):Int):=hB.le (by
   have:vE t b ∣ b.natAbs:=Int.gcd_dvd_natAbs_right t b;have:=Ug (by lia) this
   simpa using this)
 k_few
 . refine Me ?_
   k_few;have h1:=QI x (show y≠0 by lia);have h2:=Qe x (show 0<y by lia);refine⟨?_,_,_,rfl,hy,h1,?_,rfl⟩
   . show(x % y).toNat<y.toNat
     lia
   . rw[<- hg];exact MI (by lia) hx
 . rename_i h0
   have e0:y=0:=by lia
   subst e0
   have e:x=((vE t b:Nat):Int):=by
     rw[<- hg,XS];lia
   have e1:x=dv t b:=by unfold dv;rw[if_neg (by lia),<- e]
   rw[e1];have hd:oq t (dv t b):=⟨La hb,by unfold dv;rw[if_neg (by lia)];exact hgb⟩;refine pS hd ?_;k_few;exact eY (TJ hb) (Zk hb) q
def Eu(K:wb):Sp:=λvs H Q _=>∃x0 x1,vs=[x0,x1] /\ ∃(x:Rat)(t u:Int)(n:Nat),Is K H x0 (N x)/\Is K H x1 (.tuple [.int t,.int u])/\0<u/\ag n x/\n<=4400/\Bd 4400 t/\Bd 4400 u /\ ∀v H',ah H H'->Is K H' v (N (x+wB t u))->Q v H'
theorem zsY{u:Int}{w:V}(h1:Is K H v (N x))(h2:Is K H w (.tuple [.int t,.int u]))(hu:0<u)(b1:ag 4400 x)(b2:Bd 4400 t)(b3:Bd 4400 u)(q:∀v H',ah H H'->Is K H' v (N (x+wB t u))->Q v H'):Eu K [v,w] H Q E:=⟨_,_,rfl,x,t,u,4400,h1,h2,hu,b1,wo _,b2,b3,q⟩
theorem zuf{w:V}(h1:Is K H v (N x))(h2:Is K H w (N y))(b1:ag 4400 x)(b2:ag 4400 y)(q:∀v H',ah H H'->Is K H' v (N (x+y))->Q v H'):Eu K [v,w] H Q E :=
 zsY h1 h2 (den_pos y) b1 b2.t b2.b (λv H' s i=>q v H' s (by rw[Vy]at i;exact i))
local macro_rules | `(tactic| wtm_at "gs")=>`(tactic| ((with_reducible apply zuf); (focus wtm_at "is"); (focus wtm_at "is"); (focus wtm_at "bdr"); (focus wtm_at "bdr"); intro _ _ _ _))
theorem zAI{u:Int}(h:Is K H v (.tuple [.int t,.int u]))(q:Q (.int t) H):dw K v (.int 0) H Q:=aA (j:=0) h rfl (λx i=>by rw[bW.mp i];exact q)
theorem OR{u:Int}(h:Is K H v (.tuple [.int t,.int u]))(q:Q (.int u) H):dw K v (.int 1) H Q:=aA (j:=1) h rfl (λx i=>by rw[bW.mp i];exact q)
theorem zxQ(x:Rat){u:Int}(hu:0<u):wB (x.num*u+t*(x.den:Int)) ((x.den:Int)*u)=x+wB t u:=by
 have hp:=vQ (den_pos x) hu;refine fY (by lia) ?_;have k1:=j8 x;have k2:=cY t (show u≠0 by lia);have e1:((x.num*u+t*(x.den:Int):Int):Rat)=(x.num:Rat)*(u:Rat)+(t:Rat)*((x.den:Int):Rat):=by push_cast;rfl
 have e2:(((x.den:Int)*u:Int):Rat)=((x.den:Int):Rat)*(u:Rat):=by push_cast;rfl
 rw[e1,e2,<- k1,<- k2]
 grind
theorem pR(T:Txt K mg a):aG P w K mg base aS 2 a.JI a.Im yl (Eu K):=by
 refine T.mM.F.ok zuq ?_ ?_;wtm_at "b2";refine⟨_,(av (aB (au (gR T) hr T.gj (ae (aC cF (aC cV (ao (pv 0)) (ao (pv 1))) (aC cV (ao (pv 1)) (ao (pv 0)))) (ae (aC cV (ao (pv 0)) (ao (pv 1))) af))))),?_⟩;wtm_at "cl";rw[show start B9 [x0,x1]=[some x0,some x1]from rfl];obtain⟨x,t,u,n,hx,hy,hu,bx,hn,bt,bu,q⟩:=h;obtain⟨bx1,bx2⟩:=bx.mono hn;have hp:=vQ (den_pos x) hu;o_head OR hy ?_;o_head zAI hy ?_;o_head OR hy ?_;o_head oD hp ((bx2.mul bu).mono (by decide)) (λv H' s hv=>?_);rw[zxQ x hu]at hv;exact q v H' s hv
theorem sH{w z n d:Int}(hw:1<=w)(hw8:w<=8)(hz:w<z)(hz4:z<=4*w)(hn:0<=n)(hd:1<=d)(hnd:n<=d)(hd12:d<=12):aR (wB z w) (wB n d):=by
 obtain⟨a1,a2,a3⟩:=Tf (x:=wB z w) rfl hw hw8 (by lia) hz4;obtain⟨b1,b2,b3⟩:=C7 (y:=wB n d) rfl hd hd12 hn hnd
 have h1:(1:Rat)<wB z w:=by
  have:=cY z (show w≠0 by lia);refine Rat.not_le.mp λk=>?_
  have h2:=QK k (vT (lY (show 0<w by lia)));rw[this,QW]at h2;have:=Vt.mp h2;lia
 exact⟨a1,a2,a3,b1,b2,b3,by grind⟩
theorem SR{n d:Int}(hn:0<=n)(hd:1<=d)(hnd:n<=d)(hd12:d<=12):aR 1 (wB n d):=by
 obtain⟨b1,b2,b3⟩:=C7 (y:=wB n d) rfl hd hd12 hn hnd;exact⟨by decide,by decide,by decide,b1,b2,b3,by grind⟩
theorem zJ{w n d:Int}(hw:2<=w)(hw8:w<=8)(ht:1<=t)(htw:t<w)(hn:0<=n)(hd:1<=d)(hnd:n<=d)(hd12:d<=12)(h:(w-t)*d<=n*w):aR (wB t w) (wB n d):=by
 obtain⟨a1,a2,a3⟩:=Tf (x:=wB t w) rfl (by lia) hw8 ht (by lia);obtain⟨b1,b2,b3⟩:=C7 (y:=wB n d) rfl hd hd12 hn hnd;refine⟨a1,a2,a3,b1,b2,b3,?_⟩;have e1:=cY t (show w≠0 by lia);have e2:=cY n (show d≠0 by lia);have pw:(0:Rat)<(w:Rat):=lY (show 0<w by lia);have pd:(0:Rat)<(d:Rat):=lY (show 0<d by lia);refine Vu.mp λk=>?_
 have k1:=Rat.mul_lt_mul_of_pos_right k (VZ pw pd)
 have e3:(wB t w+wB n d)*((w:Rat)*(d:Rat))=(t:Rat)*(d:Rat)+(n:Rat)*(w:Rat):=by
  rw[<- e1,<- e2];grind
 rw[e3,QW]at k1
 have k2:((t*d+n*w:Int):Rat)<((w*d:Int):Rat):=by
  rw[qP,vS,vS,vS];exact k1
 have k3:=xO.mp k2;rw[Int.sub_mul]at h;lia
theorem N5{w d:Int}(hw:2<=w)(ht:1<=t)(htw:t<w)(hd:1<=d):1<=0-((t-w)*d).fdiv w/\0-((t-w)*d).fdiv w<=d/\(w-t)*d<=(0-((t-w)*d).fdiv w)*w:=by
 rw[VI _ (by lia)];have e:(t-w)*d = -((w-t)*d):=by rw[<- Int.neg_mul];congr 1;lia
 have p:1<=(w-t)*d:=by
  have:=Int.mul_le_mul (show(1:Int)<=w-t by lia) hd (by lia) (by lia);lia
 have hle:(w-t)*d<=w*d:=WJ (by lia) (by lia);rw[e];generalize (w-t)*d=m at *;have h1:=uZ (-m) (show w≠0 by lia);have h2:=Int.lt_ediv_add_one_mul_self (-m) (show 0<w by lia);generalize -m / w=q at *;have e2:(0-q)*w = -(q*w):=by rw[Int.sub_mul,Int.zero_mul];lia
 have e3:(q+1)*w=q*w+w:=by rw[Int.add_mul,xM]
 rw[e3]at h2;refine⟨?_,?_,by rw[e2];lia⟩
 ·refine Int.not_lt.mp λk=>?_
  have:0<=q*w:=Ub (by lia) (by lia);lia
 ·refine Int.not_lt.mp λk=>?_
  have:(q+1)*w<=(-d)*w:=WJ (by lia) (by lia);rw[e3,Int.neg_mul,Int.mul_comm d w]at this;lia
def OT(K:wb):Sp:=λvs H Q _=>∃x0,vs=[x0] /\ ∃(p:we)(k:Int),x0=.ref p/\cJ H p k/\k<=1000 /\ ∀v H' (a b:Rat),Exc p H H'->bG H H'->cJ H' p (k+8)->Is K H' v (R a b)->aR a b->Q v H'
theorem zkG{k:Int}(h:cJ H p k)(hk:k<=1000)(q:∀v H' (a b:Rat),Exc p H H'->bG H H'->cJ H' p (k+8)->Is K H' v (R a b)->aR a b->Q v H'):OT K [.ref p] H Q E:=⟨_,rfl,p,k,rfl,h,hk,q⟩
theorem zj2(T:Txt K mg a):aG P w K mg base aS 2 a.GX a.Gx yR (OT K):=by
 refine T.GP.F.ok jY ?_ ?_;wtm_at "b1"
 refine⟨_,(ar (az 1 jY.nd (au (fJ T) hr T.ff (ae (pv 0) (ae ay af))))
     (ar (az 2 jY.nd (aC cF ay (au (fJ T) hr T.ff (ae (pv 0) (ae ay af)))))
     (ar (az 3 jY.nd (aC cF ay (au (fJ T) hr T.ff (ae (pv 0) (ae ay af)))))
     (ar (az 4 jY.nd (au (fJ T) hr T.ff (ae (pv 0) (ae (aC cF (pv 3) ay) af))))
     (ar (bQ (bZ (show aN _ (wT .Eq) (cO K)from dG hu) (au (fJ T) hr T.ff (ae (pv 0) (ae ay af))) ay (bC _)) (av (az 4 jY.nd (bE (show aJ _ (.builtin "min") Ej from Zp rfl) rfl T.h0u zDM (ae (pv 4) (ae ay af))))) bR)
     (ar (bQ (bZ mW (pv 1) ay (bC _)) (av (aB (br (ae (au (gR T) hr T.gj (ae (aC cF (aC cF (pv 2) ay) (aC cV (pv 1) (au (fJ T) hr T.ff (ae (pv 0) (ae (aC cV ay (pv 2)) af))))) (ae (pv 2) af))) (ae (au (gR T) hr T.gj (ae (pv 4) (ae (pv 3) af))) af))))) bR)
     (ar (bQ (bZ (show aN _ (wT .Eq) (cO K)from dG hu) (pv 1) ay (bC _)) (av (aB (br (ae (br (ae ay (ae ay af))) (ae (au (gR T) hr T.gj (ae (pv 4) (ae (pv 3) af))) af))))) bR)
     (ar (az 2 jY.nd (aC cF ay (aC gW (pv 2) ay)))
     (ar (az 5 jY.nd (aC cF ay (au (fJ T) hr T.ff (ae (pv 0) (ae (aC jD (pv 2) ay) af)))))
     (ar (bQ (bZ (show aN _ (wT .Eq) (cO K)from dG hu) (pv 1) ay (bC _)) (av (aB (br (ae (au (gR T) hr T.gj (ae (pv 5) (ae (pv 2) af))) (ae (au (gR T) hr T.gj (ae (aC jD (pv 2) (pv 5)) (ae (pv 2) af))) af))))) bR)
     (ar (az 6 jY.nd (aC jD ay (aC fu (aC cV (aC jD (pv 5) (pv 2)) (pv 3)) (pv 2))))
     (av (aB (br (ae (au (gR T) hr T.gj (ae (pv 5) (ae (pv 2) af))) (ae (au (gR T) hr T.gj (ae (aC cF (pv 6) (au (fJ T) hr T.ff (ae (pv 0) (ae (aC cF (aC jD (pv 3) (pv 6)) ay) af)))) (ae (pv 3) af))) af)))))))))))))))),?_⟩
 wtm_at "cl";rw[show start Th [x0]=[some x0,none,none,none,none,none,none]from rfl];obtain⟨p,k,rfl,hp,hk,q⟩:=h;wtm_at "ga"
 . rename_i way H1 w0 w1 E1 K1 P1 bt H2 b0 b1 E2 K2 P2 dr H3 d0 d1 E3 K3 P3 mo H4 m0 m1 E4 K4 P4 tw H5 t0 t1 E5 K5 P5 z mn mn0 mn1 mn2 hw rr H6 r0 r1 E6 K6 P6
   have hw2:way=0\/way=1:=by lia
   rcases hw2 with rfl | rfl
   . wtm_at "ga"
     rename_i v7 H7 x7 S7 i7 e7 b7 v8 H8 x8 S8 i8 e8 b8 v9 H9 S9 i9;exact q _ _ x7 x8 (by wtm_at "exc") (by wtm_at "keep") (by wtm_at "penle") i9 (by rw[e7,e8];exact sH (by lia) (by lia) (by lia) (by lia) (by lia) (by lia) (by lia) (by lia))
   . wtm_at "ga"
     rename_i v7 H7 x7 S7 i7 e7 b7 v8 H8 x8 S8 i8 e8 b8 v9 H9 S9 i9;exact q _ _ x7 x8 (by wtm_at "exc") (by wtm_at "keep") (by wtm_at "penle") i9 (by rw[e7,e8];exact sH (by lia) (by lia) (by lia) (by lia) (by lia) (by lia) (by lia) (by lia))
 . rename_i way H1 w0 w1 E1 K1 P1 bt H2 b0 b1 E2 K2 P2 dr H3 d0 d1 E3 K3 P3 mo H4 m0 m1 E4 K4 P4 tw H5 t0 t1 E5 K5 P5 z mn mn0 mn1 mn2 hw hw2 v7 H7 S7 i7 v8 H8 x8 S8 i8 e8 b8 v9 H9 S9 i9
   exact q _ _ 1 x8 (by wtm_at "exc") (by wtm_at "keep") (by wtm_at "penle") i9 (by rw[e8];exact SR (by lia) (by lia) (by lia) (by lia))
 . rename_i way H1 w0 w1 E1 K1 P1 bt H2 b0 b1 E2 K2 P2 dr H3 d0 d1 E3 K3 P3 mo H4 m0 m1 E4 K4 P4 tw H5 t0 t1 E5 K5 P5 z mn mn0 mn1 mn2 hw hw2 rr H6 r0 r1 E6 K6 P6 hw3 v7 H7 x7 S7 i7 e7 b7 v8 H8 x8 S8 i8 e8 b8 v9 H9 S9 i9
   exact q _ _ x7 x8 (by wtm_at "exc") (by wtm_at "keep") (by wtm_at "penle") i9 (by rw[e7,e8];exact zJ (by lia) (by lia) (by lia) (by lia) (by lia) (by lia) (by lia) (by lia) (Int.le_refl _))
 . rename_i way H1 w0 w1 E1 K1 P1 bt H2 b0 b1 E2 K2 P2 dr H3 d0 d1 E3 K3 P3 mo H4 m0 m1 E4 K4 P4 tw H5 t0 t1 E5 K5 P5 z mn mn0 mn1 mn2 hw hw2 rr H6 r0 r1 E6 K6 P6 hw3
   have nd:=N5 (t:=1+rr) (w:=2+(1+bt) % 7) (d:=1+dr) (by lia) (by lia) (by lia) (by lia);refine pS ⟨by lia,(Bd.kC (by lia) (by lia)).mono (by decide)⟩ ?_;generalize ((1+rr-(2+(1+bt) % 7))*(1+dr)).fdiv (2+(1+bt) % 7)=fd at nd ⊢;obtain⟨n1,n2,n3⟩:=nd;wtm_at "ga";rename_i v7 H7 x7 S7 i7 e7 b7 s8 H8 s0 s1 E8 K8 P8 v9 H9 x9 S9 i9 e9 b9 v10 H10 S10 i10
   exact q _ _ x7 x9 (by wtm_at "exc") (by wtm_at "keep") (by wtm_at "penle") i10 (by
     rw[e7,e9];refine zJ (by lia) (by lia) (by lia) (by lia) (by lia) (by lia) (by lia) (by lia) ?_;have:(0-fd)*(2+(1+bt) % 7)<=(0-fd+s8)*(2+(1+bt) % 7):=WJ (by lia) (by lia);lia)
 . rename_i way H1 w0 w1 E1 K1 P1 bt H2 b0 b1 E2 K2 P2 dr H3 d0 d1 E3 K3 P3 mo H4 m0 m1 E4 K4 P4 tw H5 t0 t1 E5 K5 P5 z hw rr H6 r0 r1 E6 K6 P6
   have hw2:way=0\/way=1:=by lia
   rcases hw2 with rfl | rfl
   . wtm_at "ga"
     rename_i v7 H7 x7 S7 i7 e7 b7 v8 H8 x8 S8 i8 e8 b8 v9 H9 S9 i9;exact q _ _ x7 x8 (by wtm_at "exc") (by wtm_at "keep") (by wtm_at "penle") i9 (by rw[e7,e8];exact sH (by lia) (by lia) (by lia) (by lia) (by lia) (by lia) (by lia) (by lia))
   . wtm_at "ga"
     rename_i v7 H7 x7 S7 i7 e7 b7 v8 H8 x8 S8 i8 e8 b8 v9 H9 S9 i9;exact q _ _ x7 x8 (by wtm_at "exc") (by wtm_at "keep") (by wtm_at "penle") i9 (by rw[e7,e8];exact sH (by lia) (by lia) (by lia) (by lia) (by lia) (by lia) (by lia) (by lia))
 . rename_i way H1 w0 w1 E1 K1 P1 bt H2 b0 b1 E2 K2 P2 dr H3 d0 d1 E3 K3 P3 mo H4 m0 m1 E4 K4 P4 tw H5 t0 t1 E5 K5 P5 z hw hw2 v7 H7 S7 i7 v8 H8 x8 S8 i8 e8 b8 v9 H9 S9 i9
   exact q _ _ 1 x8 (by wtm_at "exc") (by wtm_at "keep") (by wtm_at "penle") i9 (by rw[e8];exact SR (by lia) (by lia) (by lia) (by lia))
 . rename_i way H1 w0 w1 E1 K1 P1 bt H2 b0 b1 E2 K2 P2 dr H3 d0 d1 E3 K3 P3 mo H4 m0 m1 E4 K4 P4 tw H5 t0 t1 E5 K5 P5 z hw hw2 rr H6 r0 r1 E6 K6 P6 hw3 v7 H7 x7 S7 i7 e7 b7 v8 H8 x8 S8 i8 e8 b8 v9 H9 S9 i9
   exact q _ _ x7 x8 (by wtm_at "exc") (by wtm_at "keep") (by wtm_at "penle") i9 (by rw[e7,e8];exact zJ (by lia) (by lia) (by lia) (by lia) (by lia) (by lia) (by lia) (by lia) (Int.le_refl _))
 . rename_i way H1 w0 w1 E1 K1 P1 bt H2 b0 b1 E2 K2 P2 dr H3 d0 d1 E3 K3 P3 mo H4 m0 m1 E4 K4 P4 tw H5 t0 t1 E5 K5 P5 z hw hw2 rr H6 r0 r1 E6 K6 P6 hw3
   have nd:=N5 (t:=1+rr) (w:=2+(1+bt) % 7) (d:=1+dr) (by lia) (by lia) (by lia) (by lia);refine pS ⟨by lia,(Bd.kC (by lia) (by lia)).mono (by decide)⟩ ?_;generalize ((1+rr-(2+(1+bt) % 7))*(1+dr)).fdiv (2+(1+bt) % 7)=fd at nd ⊢;obtain⟨n1,n2,n3⟩:=nd;wtm_at "ga";rename_i v7 H7 x7 S7 i7 e7 b7 s8 H8 s0 s1 E8 K8 P8 v9 H9 x9 S9 i9 e9 b9 v10 H10 S10 i10
   exact q _ _ x7 x9 (by wtm_at "exc") (by wtm_at "keep") (by wtm_at "penle") i10 (by
     rw[e7,e9];refine zJ (by lia) (by lia) (by lia) (by lia) (by lia) (by lia) (by lia) (by lia) ?_;have:(0-fd)*(2+(1+bt) % 7)<=(0-fd+s8)*(2+(1+bt) % 7):=WJ (by lia) (by lia);lia)
def Rw(K:wb):Sp:=λvs H Q _=>∃x0 x1,vs=[x0,x1] /\ ∃(p:we)(k m:Int),x0=.ref p/\x1=.int m/\cJ H p k/\k<=1000/\1<=m/\m<=8 /\ ∀(l:we)(H':Hp)(us:List V)(xs:List Rat),H l=none->Exc p H H'->bG H H'->cJ H' p (k+11)->H' l=some (.lst us)->ak K H' us (xs.map N)->1<=xs.length->(xs.length:Int)<=m->(∀x∈xs,fc x)->Q (.ref l) H'
theorem ziL{k m:Int}(h:cJ H p k)(hk:k<=1000)(h1:1<=m)(h8:m<=8)(q:∀(l:we)(H':Hp)(us:List V)(xs:List Rat),H l=none->Exc p H H'->bG H H'->cJ H' p (k+11)->H' l=some (.lst us)->ak K H' us (xs.map N)->1<=xs.length->(xs.length:Int)<=m->(∀x∈xs,fc x)->Q (.ref l) H'):Rw K [.ref p,.int m] H Q E:=⟨_,_,rfl,p,k,m,rfl,rfl,h,hk,h1,h8,q⟩
theorem ziM(T:Txt K mg a):aG P w K mg base aS 2 a.GA a.Gv tN (Rw K):=by
 refine T.Gw.F.ok oS ?_ ?_;wtm_at "b2"
 refine⟨_,(ar (az 2 oS.nd (aC cF ay (au (fJ T) hr T.ff (ae (pv 0) (ae (pv 1) af)))))
     (ar (az 3 oS.nd (aC cF ay (au (fJ T) hr T.ff (ae (pv 0) (ae ay af)))))
     (ar (az 4 oS.nd (dH dh (fb (ae (pv 3) (ae (aC cF ay (aC fu (pv 3) ay)) af))) (au (fJ T) hr T.ff (ae (pv 0) (ae ay af))) (λ_ _=>rfl)))
     (ar (az 5 oS.nd (aC fu (pv 3) (pv 4)))
     (av (aB (d7 rfl (cR.by (N':=["_law_k","_law_bottom","_law_apart","_law_pen_here","_law_few"]) (src:=[none,some 3,some 5,some 0,some 4]) rfl (by kernel_rfl)) (jR rfl T.h0j (ae (pv 2) af)) (λ_ _ _ _ _=>(bP (i:=0) (of_decide_eq_true (by kernel_rfl)) rfl (Or.inl rfl))) (λ_ _ _ _ _=>dM) (λ_ _ _ _ _=>(au (gR (K:=K) (mg:=mg) (a:=a) T) hr T.gj (ae (aC cV (au (fJ (K:=K) (mg:=mg) (a:=a) T) hr T.ff (ae (pv 3) (ae (pv 4) af))) (pv 2)) (ae (pv 1) af))))))))))),?_⟩
 wtm_at "cl";rw[show start Nm [x0,x1]=[some x0,some x1,none,none,none,none]from rfl];obtain⟨p,k,m,rfl,rfl,hp,hk,h1,h8,q⟩:=h;wtm_at "ga";rename_i ra Ha ra0 ra1 Ea Ka Pa rb Hb rb0 rb1 Eb Kb Pb lc Hc nc Sc ec rd Hd rd0 rd1 Ed Kd Pd z hz;have E1:Exc p H Hd:=Ea.trans (Eb.trans (Sc.exc.trans Ed));have K1:bG H Hd:=Ka.trans (Kb.trans (Sc.keep.trans Kd));clear Ea Ka Pa Eb Kb Pb Sc ec nc Ed Kd hp;generalize hB:2+rb=B at *;have B2:2<=B/\B<=60:=by lia
 have hz1:1<=z/\z<=B:=by
   rcases hz with rfl | rfl
   . lia
   . rw[VI _ (by decide)];lia
 refine pS ⟨by lia,(Bd.kC (by lia) (by lia)).mono (by decide)⟩ ?_
 have ha:1<=B.fdiv z/\B.fdiv z*z<=B/\B.fdiv z<=B:=by
   rw[VI _ (by lia)];refine⟨?_,uZ _ (by lia),ur _ (by lia)⟩;exact(Int.le_ediv_iff_mul_le (by lia)).mpr (by lia)
 generalize B.fdiv z=a at *;obtain⟨a1,a2,a3⟩:=ha;k_few;obtain⟨n,hn⟩:∃n:Nat,1+ra=(n:Int):=⟨(1+ra).toNat,by lia⟩;rw[hn];refine Tu (n:=(n:Int)) (by lia) (by lia) (λD i ys σ' H'=>(∃o,σ'=[o,some (.int B),some (.int a),some (.ref p),some (.int z)])/\Hd D=none/\D≠p/\Exc p Hd H'/\bG Hd H'/\cJ H' p (k+1+1+1+(i:Int)) /\ ∃(us:List V)(xs:List Rat),H' D=some (.lst us)/\xs.length=i/\ak K H' us (xs.map N) /\ ∀x∈xs,fc x) ?_ ?_ ?_
 . intro D H' n s e
   exact⟨⟨_,rfl⟩,n,cJ.ne n Pd,s.exc,s.keep,(Pd.same s).le (by lia),[],[],e,rfl,.nil,by simp⟩
 . rintro D i ys σ' H' hi ⟨⟨o,rfl⟩,hn',hne,hE,hK,hP,us,xs,hD,hl,ht,hm⟩
   k_few;rename_i r H6 r0 r1 E6 K6 P6;have t0:0<=r*a:=Ub r0 (by lia)
   have t1:r*a<B:=by
     have h1:(r+1)*a<=z*a:=WJ (by lia) (by lia);rw[Int.add_mul,xM]at h1;have h2:z*a=a*z:=Int.mul_comm _ _;lia
   generalize r*a=t at *;k_few;rename_i v7 H7 x7 S7 i7 e7 b7;have hul:=ht.length;simp only[wm]at hul;have hD7:=S7 _ _ (E6.at hne hD);have px:fc x7:=by rw[e7];exact Sj (by lia) (by lia) (by lia)
   refine lJ hD7 (by lia) (λH8 E8 e8=>?_);have K8:bG H7 H8:=E8.keep hD7;refine⟨⟨_,rfl⟩,hn',hne,λb o hb h=>E8 b o (jP h hn') (S7 b o ((hE.trans E6) b o hb h)),(hK.trans K6).trans (S7.keep.trans K8),?_,us++[v7],xs++[x7],e8,by simp[hl],?_,?_⟩
   . obtain⟨x,y,z,e,h1,h2⟩:=P6
     exact⟨x,y,z,E8 p _ (WE hne) (S7 _ _ e),h1,by lia⟩
   . rw[vA]
     exact(ak.keep (K6.trans (S7.keep.trans K8)) _ _ (gq _) ht).append (.cons (i7.gg K8) .nil)
   . intro y hy
     rcases vX.mp hy with h | h
     . exact hm y h
     . rw[w6.mp h];exact px
 . rintro D ys σ' H' ⟨_,hn',hne,hE,hK,hP,us,xs,hD,hl,ht,hm⟩
   rw[wP]at hl hP;k_few
   have hfr:H D=none:=by
     cases e:H D with
     | none=>rfl
     | some o=>rw[E1 D o hne e]at hn';cases hn'
   exact q D H' us xs hfr (E1.trans hE) (K1.trans hK) (hP.le (by lia)) hD ht (by lia) (by lia) hm
def Yn(K:wb):Sp:=λvs H Q _=>∃x0,vs=[x0] /\ ∃(ra rb:Rat)(xs:List Rat),Is K H x0 (aZ ra rb xs)/\c_ ra rb xs/\(iA ra rb xs->∀H',ah H H'->Q .a_ H') /\ ∀l H' es n w,fT ra rb xs es n w->H l=none->ah H H'->Is K H' (.ref l) (.list (cf ra rb xs es n w))->Q (.ref l) H'
theorem zqt(h:Is K H v (aZ ra rb xs))(ok:c_ ra rb xs)(qe:iA ra rb xs->∀H',ah H H'->Q .a_ H')(q:∀l H' es n w,fT ra rb xs es n w->H l=none->ah H H'->Is K H' (.ref l) (.list (cf ra rb xs es n w))->Q (.ref l) H'):Yn K [v] H Q E:=⟨_,rfl,ra,rb,xs,h,ok,qe,q⟩
theorem zqo(T:Txt K mg a):aG P w K mg base aS 14 a.IX a.Ht sS (Yn K):=by
 refine T.Ia.F.ok Aw ?_ ?_;wtm_at "b1"
 refine⟨_,(ar (az 1 Aw.nd fG)
     (ar (UE (tb:=λW=>jS (yq (Cr K a) W (yU (rM 0) y_)) (iB 1)) (th:=jS (tC .a_) (iB 1)) rfl rfl rfl T.A2 (λW pn E' hx=>by exact(av (az 1 Aw.nd (Nc (Ob T) (hr.mono (by decide)) rfl T.oI.g T.oI.F.kp T.oI.b hx (ae (pv 0) af))))) (λpn ex oe=>by exact(av (az 1 Aw.nd fG))))
     (av (aB (pv 1))))),?_⟩
 wtm_at "cl";rw[show start Sl [x0]=[some x0,none]from rfl];obtain⟨ra,rb,xs,hw,ok,qe,q⟩:=h;o_head SD (λσ' C o H'=>σ'=[some x0,some .a_]/\C=.ref a.fC/\iA ra rb xs/\ah H H') ?_ ?_
 . k_few
   refine LQ hw ok (λF H' S=>⟨rfl,rfl,F,S⟩) (λl H' es n w P hl S i=>?_);k_few;exact q l H' es n w P hl S i
 . rintro σ' C o H' ⟨rfl,rfl,F,S⟩
   refine⟨T.Gy,?_⟩;k_few;exact qe F H' S
def DN(K:wb):Sp:=λvs H Q _=>∃x0,vs=[x0] /\ ∃(ra rb:Rat)(xs:List Rat),Is K H x0 (aZ ra rb xs)/\c_ ra rb xs/\(iA ra rb xs->∀H',ah H H'->Q .a_ H') /\ ∀es n w v H',fT ra rb xs es n w->ah H H'->Is K H' v (ox w (aj (ai ra rb xs n)).length)->Q v H'
theorem zlv(h:Is K H v (aZ ra rb xs))(ok:c_ ra rb xs)(qe:iA ra rb xs->∀H',ah H H'->Q .a_ H')(q:∀es n w v H',fT ra rb xs es n w->ah H H'->Is K H' v (ox w (aj (ai ra rb xs n)).length)->Q v H'):DN K [v] H Q E:=⟨_,rfl,ra,rb,xs,h,ok,qe,q⟩
theorem Lb(h:Is K H v (aZ ra rb xs))(ok:c_ ra rb xs)(q:∀v H',ah H H'->(v=.a_/\iA ra rb xs \/ ∃es n w,fT ra rb xs es n w/\Is K H' v (ox w (aj (ai ra rb xs n)).length))->Q v H'):DN K [v] H Q E:=zlv h ok (λF H' S=>q _ _ S (.inl ⟨rfl,F⟩)) (λes n w v H' P S i=>q _ _ S (.inr ⟨es,n,w,P,i⟩))
theorem R6(T:Txt K mg a):aG P w K mg base aS 15 a.G8 a.GO tF (DN K):=by
 refine T.AM.F.ok sQ ?_ ?_;wtm_at "b1"
 refine⟨_,(ar (az 1 sQ.nd fG)
     (ar (UE (tb:=λW=>jS (yq (BF K a) W (yU (rM 0) y_)) (iB 1)) (th:=jS (tC .a_) (iB 1)) rfl rfl rfl T.A2 (λW pn E' hx=>by exact(av (az 1 sQ.nd (Nc (Zn T) (hr.mono (by decide)) rfl T.sA.g T.sA.F.kp T.sA.b hx (ae (pv 0) af))))) (λpn ex oe=>by exact(av (az 1 sQ.nd fG))))
     (av (aB (pv 1))))),?_⟩
 wtm_at "cl";rw[show start NP [x0]=[some x0,none]from rfl];obtain⟨ra,rb,xs,hw,ok,qe,q⟩:=h;o_head SD (λσ' C o H'=>σ'=[some x0,some .a_]/\C=.ref a.fC/\iA ra rb xs/\ah H H') ?_ ?_
 . k_few
   refine zAb hw ok (λF H' S=>⟨rfl,rfl,F,S⟩) (λes n w v H' P S i=>?_);k_few;exact q es n w v H' P S i
 . rintro σ' C o H' ⟨rfl,rfl,F,S⟩
   refine⟨T.Gy,?_⟩;k_few;exact qe F H' S
theorem Tx(w:PySem.Str):wY (.str w) (.str w)=true:=by rw[wY];simp
theorem BK(n:Int):wY (.int n) (.int n)=true:=by rw[wY];simp
theorem nV(n:Int):Sh 1 (.int n):=⟨by simp[vU],by simp[Vg]⟩
theorem zzI(a b:Rat)(xs:List Rat)(es:List (Nat × Nat × Nat))(n:Nat)(w:String):Sh 5 (.list (cf a b xs es n w)):=zCK λd hd=>by
 rcases vX.mp hd with z | z
 ·obtain⟨e,_,rfl⟩:=wU.mp z
  refine nZ (n:=3) λd hd=>?_
  simp only[wF,WA,or_false]at hd;rcases hd with rfl | rfl | rfl | rfl
  ·exact(sY _).mono (by decide)
  ·exact(NB _).mono (by decide)
  ·exact(nV _).mono (by decide)
  ·exact(nV _).mono (by decide)
 ·rw[w6.mp z]
  refine nZ (n:=3) λd hd=>?_
  simp only[wF,WA,or_false]at hd;rcases hd with rfl | rfl | rfl
  ·exact(sY _).mono (by decide)
  ·exact(NB _).mono (by decide)
  ·exact(Am (rJ _)).mono (by decide)
theorem zyV(a b:Rat)(xs:List Rat)(es:List (Nat × Nat × Nat))(n:Nat)(w:String):wY (.list (cf a b xs es n w)) (.list (cf a b xs es n w))=true:=zDv λd hd=>by
 rcases vX.mp hd with z | z
 ·obtain⟨e,_,rfl⟩:=wU.mp z
  refine Dc λd hd=>?_
  simp only[wF,WA,or_false]at hd;rcases hd with rfl | rfl | rfl | rfl
  ·exact MF _
  ·exact UK _
  ·exact BK _
  ·exact BK _
 ·rw[w6.mp z]
  refine Dc λd hd=>?_
  simp only[wF,WA,or_false]at hd;rcases hd with rfl | rfl | rfl
  ·exact MF _
  ·exact UK _
  ·exact Tx _
def Md(K:wb):Sp:=λvs H Q _=>∃x0 x1 x2,vs=[x0,x1,x2] /\ ∃(a b:Rat)(xs:List Rat)(es:List (Nat × Nat × Nat))(n:Nat)(w:String),x2=.bl true/\Is K H x0 (aZ a b xs)/\Is K H x1 (.list (cf a b xs es n w))/\aR a b/\1<=xs.length/\xs.length<=8/\cu xs/\LW a b xs 0 es n/\es.length<=100/\0∈ai a b xs n/\cT a b (ai a b xs n)=some w/\(∀i k,i+k<=n->Cm 3500 (aE a b (ai a b xs i) k::ai a b (ai a b xs i) k)) /\ ∀H',ah H H'->Q (.bl true) H'
theorem NM{a:Rat}{w:String}(h:Is K H v (aZ a b xs))(hp:Is K H u (.list (cf a b xs es n w)))(ok:aR a b)(h1:1<=xs.length)(h8:xs.length<=8)(ph:cu xs)(lw:LW a b xs 0 es n)(bK:es.length<=100)(h0:0∈ai a b xs n)(hw:cT a b (ai a b xs n)=some w)(c:∀i k,i+k<=n->Cm 3500 (aE a b (ai a b xs i) k::ai a b (ai a b xs i) k))(q:∀H',ah H H'->Q (.bl true) H'):Md K [v,u,.bl true] H Q E:=⟨_,_,_,rfl,a,b,xs,es,n,w,rfl,h,hp,ok,h1,h8,ph,lw,bK,h0,hw,c,q⟩
theorem Kq(T:Txt K mg a):aG P w K mg base aS 13 a.Jm a.HS sU (Md K):=by
 refine T.AW.F.ok FC ?_ ?_;wtm_at "b3"
 refine⟨_,(ar (az 3 FC.nd (dY (show aJ _ (.type "list") (kz K)from pk) rfl T.h0m kH (ae (pv 1) af)))
     (ar (az 4 FC.nd (au (ztZ T) hr T.Jc (ae (pv 0) (ae (pv 1) af))))
     (av (aB (eO (bE (show aJ _ (.builtin "isinstance") (eJ K)from jw) rfl T.h0c iM (ae (pv 4) (ae (ik (v:=.ty "bool") rfl T.h0l O3 rfl) af))) (eO (e_ (show aN _ (wT .Eq) (cO K)from dG hu) (pv 4) (pv 2) (bC _)) (gE (e_ (show aN _ (wT .Eq) (cO K)from dG hu) (pv 1) (pv 3) (bC _))))))))),?_⟩
 wtm_at "cl";rw[show start MU [x0,x1,x2]=[some x0,some x1,some x2,none,none]from rfl];obtain⟨ra,rb,xs,es,n,wd,rfl,hw,hp,ok,y1,y8,ph,lw,bK,h0,hwd,c,q⟩:=h
 have hwi:iK wd:=by
   rcases MW (a:=ra) (b:=rb) (xs:=ai ra rb xs n)with e | ⟨w',e,i⟩
   . rw[hwd]at e;cases e
   . rw[hwd]at e;cases e;exact i
 o_head Sz hp (λl H1 us n1 S1 e1 t1=>?_);have i1:Is K H1 (.ref l) (.list (cf ra rb xs es n wd)):=cC.mpr ⟨l,us,rfl,.of e1,t1⟩;o_head ztT (hw.by S1) (hp.by S1) ok y1 y8 rfl ph lw bK h0 hwi c (λH2 S2=>?_);rw[hwd,decide_eq_true rfl,decide_eq_true rfl,Xq];o_head zCW ?_;rw[show(true == true)=true from rfl];o_head zBr (hp.by (S1.trans S2)) (i1.by S2) (zzI ..) (by decide) (zyV ..) ?_;exact q _ (S1.trans S2)
def OU(K:wb):Sp:=λvs H Q _=>∃x0 x1,vs=[x0,x1] /\ ∃(x y:Rat)(m n:Nat),Is K H x0 (N x)/\Is K H x1 (N y)/\ag m x/\ag n y/\m+n<=8999 /\ ∀v H',ah H H'->Is K H' v (N (x-y))->Q v H'
theorem Ma{w:V}(h1:Is K H v (N x))(h2:Is K H w (N y))(b1:ag m x)(b2:ag n y)(hmn:m+n<=8999)(q:∀v H',ah H H'->Is K H' v (N (x-y))->Q v H'):OU K [v,w] H Q E:=⟨_,_,rfl,x,y,m,n,h1,h2,b1,b2,hmn,q⟩
theorem RT(T:Txt K mg a):aG P w K mg base aS 2 a.Jp a.Ib tH (OU K):=by
 refine T.AX.F.ok zrG ?_ ?_;wtm_at "b2";refine⟨_,(av (aB (au (gR T) hr T.gj (ae (aC jD (aC cV (ao (pv 0)) (ao (pv 1))) (aC cV (ao (pv 1)) (ao (pv 0)))) (ae (aC cV (ao (pv 0)) (ao (pv 1))) af))))),?_⟩;wtm_at "cl";rw[show start CM [x0,x1]=[some x0,some x1]from rfl];obtain⟨x,y,m,n,hx,hy,bx,by',hmn,q⟩:=h;have cx:=bx.mono (show m<=8999 by lia);have cy:=by'.mono (show n<=8999 by lia);o_head oD (TR x y) ((bx.b.mul by'.b).mono hmn) (λv H' s hv=>?_);rw[Rf]at hv;exact q v H' s hv
def YC(K:wb):Sp:=λvs H Q _=>∃x0 x1,vs=[x0,x1] /\ ∃(x y:Rat),Is K H x0 (N x)/\Is K H x1 (N y)/\ag 4000 x/\ag 4000 y /\ ∀v H',ah H H'->Is K H' v (N (x*y))->Q v H'
theorem znr{w:V}(h1:Is K H v (N x))(h2:Is K H w (N y))(b1:ag 4000 x)(b2:ag 4000 y)(q:∀v H',ah H H'->Is K H' v (N (x*y))->Q v H'):YC K [v,w] H Q E:=⟨_,_,rfl,x,y,h1,h2,b1,b2,q⟩
local macro_rules | `(tactic| wtm_at "gs")=>`(tactic| ((with_reducible apply znr); (focus wtm_at "is"); (focus wtm_at "is"); (focus wtm_at "bdr"); (focus wtm_at "bdr"); intro _ _ _ _))
theorem Gj(T:Txt K mg a):aG P w K mg base aS 2 a.Ih a.GV sN (YC K):=by
 refine T.r8.F.ok zmN ?_ ?_;wtm_at "b2";refine⟨_,(av (aB (au (gR T) hr T.gj (ae (aC cV (ao (pv 0)) (ao (pv 1))) (ae (aC cV (ao (pv 0)) (ao (pv 1))) af))))),?_⟩;wtm_at "cl";rw[show start FX [x0,x1]=[some x0,some x1]from rfl];obtain⟨x,y,hx,hy,⟨bx1,bx2⟩,⟨by1,by2⟩,q⟩:=h;o_head oD (TR x y) ((bx2.mul by2).mono (by decide)) (λv H' s hv=>?_);rw[LD]at hv;exact q v H' s hv
def UU(K:wb):Sp:=λvs H Q _=>∃x0 x1,vs=[x0,x1] /\ ∃(x y:Rat)(m n:Nat),Is K H x0 (N x)/\Is K H x1 (N y)/\ag m x/\ag n y/\m+n<=8998/\y≠0 /\ ∀v H',ah H H'->Is K H' v (N (x / y))->Q v H'
theorem zsK{w:V}(h1:Is K H v (N x))(h2:Is K H w (N y))(b1:ag m x)(b2:ag n y)(hmn:m+n<=8998)(hy:y≠0)(q:∀v H',ah H H'->Is K H' v (N (x / y))->Q v H'):UU K [v,w] H Q E:=⟨_,_,rfl,x,y,m,n,h1,h2,b1,b2,hmn,hy,q⟩
theorem zsr{p q:Int}(h:q≠0):wB (0-p) (0-q)=wB p q:=by
 refine fY (by lia) ?_;have k:=cY p h;have e1:((0-p:Int):Rat) = -(p:Rat):=by rw[XU];push_cast;rfl
 have e2:((0-q:Int):Rat) = -(q:Rat):=by rw[XU];push_cast;rfl
 rw[e1,e2,<- k]
 grind
theorem ZS(T:Txt K mg a):aG P w K mg base aS 2 a.Jn a.Ie Aa (UU K):=by
 refine T.IE.F.ok zs3 ?_ ?_;wtm_at "b2"
 refine⟨_,(ar (bQ (bZ mW (ao (pv 1)) ay (bC _)) (av (aB (au (gR T) hr T.gj (ae (aC jD ay (aC cV (ao (pv 0)) (ao (pv 1)))) (ae (aC jD ay (aC cV (ao (pv 0)) (ao (pv 1)))) af))))) bR)
     (av (aB (au (gR T) hr T.gj (ae (aC cV (ao (pv 0)) (ao (pv 1))) (ae (aC cV (ao (pv 0)) (ao (pv 1))) af)))))),?_⟩
 wtm_at "cl";rw[show start DF [x0,x1]=[some x0,some x1]from rfl];obtain⟨x,y,m,n,hx,hy,bx,by',hmn,h0,q⟩:=h;have cx:=bx.mono (show m<=8999 by lia);have cy:=by'.mono (show n<=8999 by lia);have hn:=yf h0;have bb:=bx.b.mul by'.t;have hd:=den_pos x;have bo:Bd 8999 (0-(x.den:Int)*y.num):=by rw[XU];exact bb.neg.mono (by lia)
 k_few
 . rename_i z
   have hp:0<0-(x.den:Int)*y.num:=by
     have:=Int.mul_neg_of_pos_of_neg hd z;lia
   refine oD hp bo (λv H' s hv=>?_);rw[zsr (by lia),Mf]at hv;exact q v H' s hv
 . rename_i z
   refine oD (vQ hd (by lia)) (bb.mono (by lia)) (λv H' s hv=>?_);rw[Mf]at hv;exact q v H' s hv
def PH(K:wb):Sp:=λvs H Q _=>∃x0 x1,vs=[x0,x1] /\ ∃(a b:Rat)(n:Int),x1=.int n/\Is K H x0 (R a b)/\ag 10 a/\ag 10 b/\0<=n/\n<=64 /\ ∀v H',ah H H'->Is K H' v (R (a^n.toNat) (aD a b n.toNat))->Q v H'
theorem zov{a:Rat}{n:Int}(h1:Is K H v (R a b))(b1:ag 10 a)(b2:ag 10 b)(h0:0<=n)(h64:n<=64)(q:∀v H',ah H H'->Is K H' v (R (a^n.toNat) (aD a b n.toNat))->Q v H'):PH K [v,.int n] H Q E:=⟨_,_,rfl,a,b,n,rfl,h1,b1,b2,h0,h64,q⟩
theorem zow(T:Txt K mg a):aG P w K mg base aS 3 a.IH a.G4 Ap (PH K):=by
 refine T.Hs.F.ok yW ?_ ?_;wtm_at "b2"
 refine⟨_,(ar (az 2 yW.nd (br (ae (br (ae ay (ae ay af))) (ae (br (ae ay (ae ay af))) af))))
     (ar (g6 vP rfl (jR rfl T.h0j (ae (pv 1) af)) (bP (i:=3) yW.nd rfl (Or.inl rfl)) (av (az 2 yW.nd (br (ae (au (Gj T) hr T.r8 (ae (ao (pv 0)) (ae (ao (pv 2)) af))) (ae (au (pR T) hr T.mM (ae (au (Gj T) hr T.r8 (ae (ao (pv 0)) (ae (ao (pv 2)) af))) (ae (ao (pv 0)) af))) af))))))
     (av (aB (pv 2))))),?_⟩
 wtm_at "cl";rw[show start US [x0,x1]=[some x0,some x1,none,none]from rfl];obtain⟨r,s',n,rfl,hr',ba,bb,h0,h64,q⟩:=h;o_head eY (r:=1) rfl rfl (λv1 H1 S1 i1=>?_);o_head eY (r:=0) rfl rfl (λv2 H2 S2 i2=>?_);o_head EU (i1.by S2) i2 (λv3 H3 S3 i3=>?_);o_head lD (n:=n) (by lia) (by lia) (λi σ H'=>∃(f:V)(o:Option V),σ = [some x0,some (.int n),some f,o]/\ah H H'/\Is K H' f (R (r^i) (aD r s' i))) ⟨_,_,rfl,S1.trans (S2.trans S3),by rw[V8];exact i3⟩ ?_ ?_
 . rintro i σ H' hi ⟨f,o,rfl,S,hf⟩
   have hr1:=hr'.by S;have bf:ag 650 (r^i):=(ba.pow i).mono (by lia);have bg:ag 1400 (aD r s' i):=(ba.aD bb i).mono (by lia);o_head EU (a:=r*r^i) (b:=r*aD r s' i+s') (by wtm_at "is") (by wtm_at "is") (λv4 H4 S4 i4=>?_);o_head ⟨_,_,rfl,ah.back S4 (by wtm_at "same"),?_⟩;rw[WL,Qf];exact i4
 . rintro σ H' ⟨f,o,rfl,S,hf⟩
   k_few;exact q _ _ S hf
def gY(a b:Rat)(ns:List Int)(xs:List Rat):Nat->Rat
 | 0=>0
 | k+1=>gY a b ns xs k+(1-(aM a b ns (xs++[0]) k).getD k 0)
def jG(a b:Rat)(ns:List Int)(xs:List Rat)(k:Nat):List Rat:=(wt k).map λj=>(aM a b ns (xs++[0]) (j+1)).getD ((j+1) % ns.length) 0
theorem zwh(a b:Rat)(ns:List Int)(xs:List Rat)(k:Nat):jG a b ns xs (k+1)=jG a b ns xs k++[(aM a b ns (xs++[0]) (k+1)).getD ((k+1) % ns.length) 0]:=by
 unfold jG;rw[QF,vA];rfl
theorem Br{us:List V}(h:ak K H us (xs.map N))(k:Is K H u (N x)):ak K H (us++[u]) ((xs++[x]).map N):=by
 rw[vA];exact h.append (.cons k .nil)
theorem zAM{m:Int}(h:aO K H p (ns.map V.int))(h0:0<=m)(h1:m<ns.length)(q:Q (.int (ns.getD m.toNat 0)) H):dw K (.ref p) (.int m) H Q:=by
 obtain⟨n,rfl⟩:∃n:Nat,m=(n:Int):=⟨m.toNat,by lia⟩;refine jb h (kO (j:=n) (v:=.int (ns.getD n 0)) ?_) q;rw[wu,wa,wc (by lia)]
 rfl
def Bz(K:wb):Sp:=λvs H Q _=>∃x0 x1 x2,vs=[x0,x1,x2] /\ ∃(a b:Rat)(ns:List Int)(xs:List Rat)(p1:we),x1=.ref p1/\Is K H x0 (R a b)/\aO K H p1 (ns.map V.int)/\(Is K H x2 (LN xs)\/Is K H x2 (TN xs))/\cW a b ns xs/\(∀k,k<=ns.length->Cm 3500 (aM a b ns (xs++[0]) k))/\(∀k,k<ns.length->ag 4300 (gY a b ns xs k)) /\ ∀t lb vt lh us hs H',ah H H'->H' t=some (.tup [.ref lb,vt,.ref lh])->H' lb=some (.lst us)->ak K H' us ((cQ a b ns xs).map N)->Is K H' vt (N (gY a b ns xs ns.length))->H lh=none->H' lh=some (.lst hs)->ak K H' hs ((jG a b ns xs ns.length).map N)->Q (.ref t) H'
theorem zoE{a:Rat}(h1:Is K H v (R a b))(h2:aO K H p1 (ns.map V.int))(h3:Is K H u (LN xs)\/Is K H u (TN xs))(ok:cW a b ns xs)(hrow:∀k,k<=ns.length->Cm 3500 (aM a b ns (xs++[0]) k))(htm:∀k,k<ns.length->ag 4300 (gY a b ns xs k))(q:∀t lb vt lh us hs H',ah H H'->H' t=some (.tup [.ref lb,vt,.ref lh])->H' lb=some (.lst us)->ak K H' us ((cQ a b ns xs).map N)->Is K H' vt (N (gY a b ns xs ns.length))->H lh=none->H' lh=some (.lst hs)->ak K H' hs ((jG a b ns xs ns.length).map N)->Q (.ref t) H'):Bz K [v,.ref p1,u] H Q E:=⟨_,_,_,rfl,a,b,ns,xs,p1,rfl,h1,h2,h3,ok,hrow,htm,q⟩
theorem zq2{a:Rat}(h1:Is K H v (R a b))(h2:aO K H p1 (ns.map V.int))(h3:Is K H u (LN xs)\/Is K H u (TN xs))(ok:cW a b ns xs)(hrow:∀k,k<=ns.length->Cm 3500 (aM a b ns (xs++[0]) k))(htm:∀k,k<ns.length->ag 4300 (gY a b ns xs k))(q:∀v H',ah H H'->Is K H' v (.tuple [LN (cQ a b ns xs),N (gY a b ns xs ns.length),LN (jG a b ns xs ns.length)])->Q v H'):Bz K [v,.ref p1,u] H Q E :=
 zoE h1 h2 h3 ok hrow htm (λt lb vt lh us hs H' S et eb tb it _ eh th=>q (.ref t) H' S (bX.mpr ⟨t,_,rfl,.of et,.cons (dE eb tb) (.cons it (.cons (dE eh th) .nil))⟩))
theorem zEe{row:List Rat}(c:Cm m row)(hj:j<row.length)(hk:k<row.length):ag (m+2) (row.getD j 0+(1-row.getD k 0)):=by
 have c0:Cm m (0::row):=c.kA λy hy=>by rcases wF.mp hy with rfl | hy;(exact .inr rfl);exact .inl hy
 exact(c0.rise (GM.getD_mem hk)).d4 (wy _ (wU.mpr ⟨_,GM.getD_mem hj,rfl⟩))
theorem zrr(T:Txt K mg a):aG P w K mg base aS 4 a.Jd a.HA zd (Bz K):=by
 refine T.Ii.F.ok jC ?_ ?_;wtm_at "b3"
 refine⟨_,(ar (az 3 jC.nd (aC cF (dY (show aJ _ (.type "list") (kz K)from pk) rfl T.h0m kH (ae (pv 2) af)) (fb (ae (br (ae ay (ae ay af))) af))))
     (ar (az 4 jC.nd (br (ae ay (ae ay af))))
     (ar (az 5 jC.nd (fb af))
     (ar (g6 vP rfl (jR rfl T.h0j (ae (bE (show aJ _ (.builtin "len") (dj K)from d6) rfl T.h0r dU (ae (pv 1) af)) af)) (bP (i:=6) jC.nd rfl (Or.inl rfl)) (ar (az 7 jC.nd (au (RT T) hr T.AX (ae (br (ae ay (ae ay af))) (ae (dH dh (pv 3) (pv 6) (λ_ _=>rfl)) af))))
     (ar (az 4 jC.nd (au (pR T) hr T.mM (ae (pv 4) (ae (pv 7) af))))
     (ar (az 8 jC.nd (au (zow T) hr T.Hs (ae (pv 0) (ae (dH dh (pv 1) (pv 6) (λ_ _=>rfl)) af))))
     (ar (mF (i:=9) jC.nd rfl (Or.inl rfl) rfl (cR.by (N':=["_law_phase","_law_wait"]) (src:=[none,some 7]) rfl (by kernel_rfl)) (gI (pv 3)) (λ_ _ _ _ _=>(bP (i:=0) (of_decide_eq_true (by kernel_rfl)) rfl (Or.inl rfl))) (λ_ _ _ _ _=>dM) (λ_ _ _ _ _=>(au (pR (K:=K) (mg:=mg) (a:=a) T) hr T.mM (ae (pv 0) (ae (pv 1) af)))))
     (ar (mF (i:=3) jC.nd rfl (Or.inl rfl) rfl (cR.by (N':=["_law_phase","_law_often"]) (src:=[none,some 8]) rfl (by kernel_rfl)) (gI (pv 9)) (λ_ _ _ _ _=>(bP (i:=0) (of_decide_eq_true (by kernel_rfl)) rfl (Or.inl rfl))) (λ_ _ _ _ _=>dM) (λ_ _ _ _ _=>(au (pR (K:=K) (mg:=mg) (a:=a) T) hr T.mM (ae (au (Gj (K:=K) (mg:=mg) (a:=a) T) hr T.r8 (ae (mq (K:=K) dh (pv 1)) (ae (pv 0) af))) (ae (mq (K:=K) dh (pv 1)) af)))))
     (ar (nH (br (ae ay (ae ay af))) (p9 (pv 3) (pv 6) pb))
     (av (nA (nX WT WQ WR lH (pv 5) (ae (dH dh (pv 3) (aC gW (aC cF (pv 6) ay) (bE (show aJ _ (.builtin "len") (dj K)from d6) rfl T.h0r dU (ae (pv 1) af))) (λ_ _=>rfl)) af)))))))))))
     (av (aB (br (ae (jZ j4 (pv 3) kj (j6 (gr gH ay))) (ae (pv 4) (ae (pv 5) af)))))))))),?_⟩
 wtm_at "cl";rw[show start UO [x0,x1,x2]=[some x0,some x1,some x2,none,none,none,none,none,none,none]from rfl];obtain⟨ra,rb,ns,xs,p1,rfl,hr',hn',hp',ok,hrow,htm,q⟩:=h;have hlen:=ok.len;have hfew:=ok.bK;o_head ZT hp' (λl1 H1 us hl1 S1 e1 t1=>?_);have hul:=t1.length;rw[wm]at hul;o_head eY (r:=0) rfl rfl (λv2 H2 S2 i2=>?_);o_head fB (by simp) (λl3 H3 hl3 S3 e3=>?_);refine kn (S3 _ _ (S2 _ _ e1)) e3 (Ve (jI (by simp;lia))) (λlp H4 hl4 S4 e4=>?_);o_head eY (r:=0) rfl rfl (λv5 H5 S5 i5=>?_);o_head fB (by simp) (λlh H6 hlh S6 e6=>?_);have T4:ah H H4:=S1.trans (S2.trans (S3.trans S4));have T6:ah H H6:=T4.trans (S5.trans S6);have t6:ak K H6 (us++[v2]) ((xs++[0]).map N):=Br (ak.same (S2.trans (S3.trans (S4.trans (S5.trans S6)))) _ _ t1) (i2.by (S3.trans (S4.trans (S5.trans S6))));have e46:=S6 _ _ (S5 _ _ e4);have hD:=jt (T4.trans S5) hlh;have neph:lp≠lh:=λz=>by subst z;rw[S5 _ _ e4]at hlh;cases hlh
 have i56:=i5.by S6;clear S1 S2 S3 S4 S5 S6 e1 e3 e4 t1 i2 i5 hl1 hl3 hl4 hlh T4;o_head jf (T6.seq hn') ?_;rw[wm];refine lD (n:=(ns.length:Int)) (by lia) (by lia) (λk σ H'=>∃lp vt o6 o7 o8 o9 us hs,σ = [some x0,some (.ref p1),some x2,some (.ref lp),some vt,some (.ref lh),o6,o7,o8,o9]/\ah H H'/\lp≠lh/\H' lp=some (.lst us)/\ak K H' us ((aM ra rb ns (xs++[0]) k).map N)/\Is K H' vt (N (gY ra rb ns xs k))/\H' lh=some (.lst hs)/\ak K H' hs ((jG ra rb ns xs k).map N)) ⟨lp,v5,_,_,_,_,_,[],rfl,T6,neph,e46,t6,i56,e6,.nil⟩ ?_ ?_
 . rintro k σ H7 hk ⟨lp,vt,o6,o7,o8,o9,us,hs,rfl,S7,neph,e7,t7,it7,h7,th7⟩
   have hk':k<ns.length:=by simpa using hk
   have b1:=htm k hk';have hmk:=hrow k (by lia);have hrl:(aM ra rb ns (xs++[0]) k).length=ns.length:=by rw[de,wR];simp;lia
   have e8:aM ra rb ns (xs++[0]) (k+1)=dF ra rb (ns.getD k 0).toNat (aM ra rb ns (xs++[0]) k) k:=rfl;have et:gY ra rb ns xs (k+1)=gY ra rb ns xs k+(1-(aM ra rb ns (xs++[0]) k).getD k 0):=rfl;have eh:=zwh ra rb ns xs k;have bb:∀j,ag 3500 ((aM ra rb ns (xs++[0]) k).getD j 0):=λj=>hmk.get j
   have hnk:=ok.n0 (ns.getD k 0) (by rw[wa,wc hk'];exact vK _);generalize aM ra rb ns (xs++[0]) k=row at *;have bw:ag 3502 (1-row.getD k 0):=(ag.one.sub (bb k)).mono (by decide);have bk:=bb k;o_head eY (r:=1) rfl rfl (λv8 H8 S8 i8=>?_);o_head kW (dE (S8 _ _ e7) (ak.same S8 _ _ t7)) (by lia) (by lia) (λv9 i9=>?_);rw[wP]at i9;have it8:=it7.by S8;o_head Ma i8 i9 ag.one bk (by decide) (λv10 H10 S10 i10=>?_);have it10:=it8.by S10;k_few;rename_i v11 H11 S11 i11;have T11:=S8.trans (S10.trans S11);refine zAM (T11.seq (S7.seq hn')) (by lia) (by lia) ?_;rw[wP];o_head zov ((hr'.by S7).by T11) ok.ba ok.bb hnk.1 hnk.2 (λv12 H12 S12 i12=>?_);have T12:=T11.trans S12;have bf:ag 700 (ra^(ns.getD k 0).toNat):=(ok.ba.pow _).mono (by lia);have bg:ag 1500 (aD ra rb (ns.getD k 0).toNat):=(ok.ba.aD ok.bb _).mono (by lia);have i1012:=i10.by (S11.trans S12);have i1112:=i11.by S12;have e12:=T12 _ _ e7;have t12:ak K H12 us (row.map N):=ak.same T12 _ _ t7;have h12:=T12 _ _ h7;have th12:ak K H12 hs ((jG ra rb ns xs k).map N):=ak.same T12 _ _ th7;have X12:=S7.trans T12;have hul:us.length=row.length:=by rw[t12.length,wm]
   rw[<- et]at i1112;clear S8 S10 S11 S12 T11 T12 i8 i9 i10 i11 e7 t7 h7 th7 it7 it8;o_head ju (.of e12) (o0:=none) (tl:=[some v10]) rfl (λj v H=>Is K H v (N ((row.map λx=>x+(1-row.getD k 0)).getD j 0))) ?_ ?_
   . rintro D j x ys o H1 hx' inv
     obtain⟨hj,ix⟩:=dC t12 hx';have ix1:=ix.by inv.same;have jv:=i1012.by inv.same;have bx:=bb j;k_few;rename_i v4 H4 S4 iv4;exact d5 inv (by lia) fK ⟨_,rfl⟩ S4 (by rw[m8 hj];exact iv4)
   . rintro D ys H13 hn13 S13 e13 hl13 hr13
     have hyl:ys.length=row.length:=by lia
     have t13:ak K H13 ys ((row.map λx=>x+(1-row.getD k 0)).map N):=gc (by rw[wm];exact hyl) hr13;have hn0:H12 D=none:=hn13;o_head ju (.of e13) (o0:=none) (tl:=[some v12]) rfl (λj v H=>Is K H v (N ((row.map λx=>push ra rb (ns.getD k 0).toNat (x+(1-row.getD k 0))).getD j 0))) ?_ ?_
     . rintro D2 j x zs o H1 hx' inv
       obtain⟨hj,ix⟩:=dC t13 hx';rw[wm]at hj;rw[m8 hj]at ix;have ix1:=ix.by inv.same;have jv:=(i12.by S13).by inv.same;have bx:ag 3502 (row.getD j 0+(1-row.getD k 0)):=zEe hmk hj (by lia);k_few;rename_i v4 H4 S4 iv4 v5 iv5 v6 H6 S6 iv6;exact d5 inv (by lia) fK ⟨_,rfl⟩ (S4.trans S6) (by rw[m8 hj,hW];exact iv6)
     . rintro D2 zs H14 hn14 S14 e14 hl14 hr14
       have hzl:zs.length=row.length:=by lia
       have T14:=S13.trans S14;o_head eY (r:=0) rfl rfl (λv15 H15 S15 i15=>?_);o_head As (j:=k) (S15 _ _ e14) (by unfold h_;rw[if_pos (by lia),if_pos (by lia)];simp) (λH16 E16 e16=>?_);have hD2:H12 D2=none:=jt S13 hn14;have ne2:lh≠D2:=λz=>by subst z;rw[h12]at hD2;cases hD2
       have hDH:=jt X12 hD2;have T15:=T14.trans S15;have h16:=E16 lh _ ne2 (T15 _ _ h12);have K16:bG H15 H16:=E16.keep (S15 _ _ e14)
       have t16:ak K H16 (zs.set k v15) ((dF ra rb (ns.getD k 0).toNat row k).map N):=by
         refine gc (by rw[VC,hV];exact hzl) λj v hv=>?_
         rw[VN]at hv
         by_cases hij:k=j
         . subst hij
           rw[if_pos rfl,if_pos (by lia)]at hv;cases hv;rw[gJ _ _ _ _ _ _ (by lia),if_pos rfl];exact i15.gg K16
         . rw[if_neg hij]at hv
           have hj:j<row.length:=by
             rcases wA j zs.length with z | z
             . lia
             . rw[wL z]at hv;cases hv
           have hz:=hr14 j v hv;rw[m8 hj]at hz;rw[gJ _ _ _ _ _ _ hj,if_neg (WE hij)];exact(hz.by S15).gg K16
       rw[<- e8]at t16;have th16:ak K H16 hs ((jG ra rb ns xs k).map N):=ak.keep (T15.keep.trans K16) _ _ (gq _) th12;have i1116:=(i1112.by T15).gg K16;have X16:ah H H16:=(X12.trans T15).grow hDH E16;have hrl2:(aM ra rb ns (xs++[0]) (k+1)).length=ns.length:=by rw[de,wR];simp;lia
       have hhl:hs.length=k:=by
         have:=th16.length;rw[wm]at this;unfold jG at this
         simpa using this
       clear hr14 e14 hn14 S14 S15 T14 T15 S13 e13 t13 hr13 hn13 i12 i1012 i1112 e12 t12 h12 th12 i15;o_head mr (aO.of h16) ?_;o_head jf (X16.seq hn') ?_;rw[wm];have hn0':(0:Int)<(ns.length:Int):=by lia
       k_few;have em:((k:Int)+1) % (ns.length:Int)=(((k+1) % ns.length:Nat):Int):=by push_cast;rfl
       have hmd:(k+1) % ns.length<ns.length:=qm _ (by lia);rw[em];refine kW (dE e16 t16) (by lia) (by lia) (λv17 i17=>?_);rw[wP]at i17;o_head lR h16 (by lia) (λH18 E18 e18=>?_);have K18:=E18.keep h16;o_head ⟨D2,_,_,_,_,_,_,hs++[v17],rfl,X16.grow hD E18,WE ne2,E18 D2 _ (WE ne2) e16,ak.keep K18 _ _ (gq _) t16,i1116.gg K18,e18,?_⟩;rw[eh];exact Br (ak.keep K18 _ _ (gq _) th16) (i17.gg K18)
 . rintro σ H7 ⟨lp,vt,o6,o7,o8,o9,us,hs,rfl,S7,neph,e7,t7,it7,h7,th7⟩
   o_head lQ (dE e7 t7) (λl20 H20 ys20 n20 S20 e20 t20=>?_);rw[DR,<- xc]at t20;o_head ou (by simp) (λt21 H21 n21 S21 e21=>?_);exact q t21 l20 vt lh ys20 hs H21 (S7.trans (S20.trans S21)) e21 (S21 _ _ e20) (ak.same S21 _ _ t20) (it7.by (S20.trans S21)) hD ((S20.trans S21) _ _ h7) (ak.same (S20.trans S21) _ _ th7)
def U1(K:wb):Sp:=λvs H Q _=>∃x0 x1,vs=[x0,x1] /\ ∃(a:Rat)(n:Int)(k:Nat),x1=.int n/\Is K H x0 (N a)/\ag k a/\k<=4000/\0<=n/\n<=100/\k*n.toNat<=4000 /\ ∀v H',ah H H'->Is K H' v (N (a^n.toNat))->Q v H'
theorem zrj{a:Rat}{n:Int}(h:Is K H v (N a))(b:ag k a)(hk:k<=4000)(n0:0<=n)(n1:n<=100)(hkn:k*n.toNat<=4000)(q:∀v H',ah H H'->Is K H' v (N (a^n.toNat))->Q v H'):U1 K [v,.int n] H Q E:=⟨_,_,rfl,a,n,k,rfl,h,b,hk,n0,n1,hkn,q⟩
theorem EW{k:Nat}{x:Int}(h:Bd k x):∀n:Nat,Bd (k*n+1) (x^n)
 | 0=>⟨by simp⟩
 | n+1=>by
  rw[V9];exact((EW h n).mul h).mono (by rw[QX];lia)
theorem zqA(T:Txt K mg a):aG P w K mg base aS 1 a.IZ a.Hn y7 (U1 K):=by
 refine T.HX.F.ok nB ?_ ?_;wtm_at "b2"
 refine⟨_,(ar (az 2 nB.nd ay)
     (ar (az 3 nB.nd ay)
     (ar (g6 vP rfl (jR rfl T.h0j (ae (pv 1) af)) (bP (i:=4) nB.nd rfl (Or.inl rfl)) (ar (az 2 nB.nd (aC cV (pv 2) (ao (pv 0))))
     (av (az 3 nB.nd (aC cV (pv 3) (ao (pv 0)))))))
     (av (aB (br (ae (pv 2) (ae (pv 3) af)))))))),?_⟩
 wtm_at "cl";rw[show start X_ [x0,x1]=[some x0,some x1,none,none,none]from rfl];obtain⟨ra,n,kk,rfl,hx,ba,hk4,n0,n1,hkn,q⟩:=h;have bt:Bd 4000 ra.num:=ba.t.mono hk4;have bd:Bd 4000 (ra.den:Int):=ba.b.mono hk4;o_head lD (n:=n) (by lia) (by lia) (λi σ H'=>∃o,σ = [some x0,some (.int n),some (.int (ra.num^i)),some (.int ((ra.den:Int)^i)),o]/\H'=H) ⟨none,by rw[QJ,QJ],rfl⟩ ?_ ?_
 . rintro i σ H' hi ⟨o,rfl,rfl⟩
   have hki:kk*i<=kk*n.toNat:=qM _ (by lia);have b1:Bd 4001 (ra.num^i):=(EW ba.t i).mono (by lia);have b2:Bd 4001 ((ra.den:Int)^i):=(EW ba.b i).mono (by lia);have e1:ra.num^(i+1)=ra.num^i*ra.num:=V9 ..;have e2:(ra.den:Int)^(i+1)=(ra.den:Int)^i*(ra.den:Int):=V9 ..;generalize ra.num^i=t at *;generalize (ra.den:Int)^i=u at *;k_few;exact⟨_,by rw[e1,e2],rfl⟩
 . rintro σ H' ⟨o,rfl,rfl⟩
   k_few;exact eY (r:=ra^n.toNat) (Rat.num_pow ..).symm (by rw[Rat.den_pow];push_cast;rfl) q
def Ln(K:wb):Sp:=λvs H Q _=>∃x0 x1,vs=[x0,x1] /\ ∃(a b:Rat)(ns:List Int)(p1:we),x1=.ref p1/\Is K H x0 (R a b)/\aO K H p1 (ns.map V.int)/\aR a b/\du ns/\a≠1 /\ ∀l H' us,H l=none->ah H H'->H' l=some (.lst us)->ak K H' us ((cK a b ns).map N)->Q (.ref l) H'
theorem zqm{a:Rat}(h1:Is K H v (R a b))(h2:aO K H p1 (ns.map V.int))(ok:aR a b)(sz:du ns)(ha:a≠1)(q:∀l H' us,H l=none->ah H H'->H' l=some (.lst us)->ak K H' us ((cK a b ns).map N)->Q (.ref l) H'):Ln K [v,.ref p1] H Q E:=⟨_,_,rfl,a,b,ns,p1,rfl,h1,h2,ok,sz,ha,q⟩
theorem zy4{a:Rat}(h:aR a b)(k:du ns)(hl:ns.length=xs.length+1)(c:Cm m xs)(hm:m<=3290):cW a b ns xs/\(∀j,j<=ns.length->Cm 3500 (aM a b ns (xs++[0]) j)) /\ ∀j,j<ns.length->ag 4300 (gY a b ns xs j):=by
 have h8:=k.bK;have hu:=k.upTo
 have ht:∀j,gY a b ns xs j=eS a b ns (xs++[0]) j:=λj=>by
  induction j with
  | zero=>rfl
  | succ j ih=>rw[gY,eS,ih]
 have hc:∀j,j<=ns.length->Cm 3500 (eS a b ns (xs++[0]) j::aM a b ns (xs++[0]) j):=λj hj=>by
  have h1:=Ct (ns:=ns) hj (wo _);exact(c.snoc.Bb h.ba h.bb (ns:=ns) j hj).mono (by lia)
 refine⟨⟨h.ba,h.bb,λn hn=>by have:=k.each n hn;lia,hl,by lia,⟨m,c,by lia⟩⟩,λj hj=>kF (hc j hj) λy hy=>wy _ hy,λj hj=>?_⟩;rw[ht];exact((hc j (by lia)).d4 (wz ..)).mono (by decide)
theorem OE{l:we}{k:Int}(e:H l=some (.lst [v]))(h0:0<=k)(h1:k<=1000)(q:∀p H',H p=none->ah H H'->H' p=some (.lst (vc k.toNat v))->Q (.ref p) H'):rq (.ref l) (.int k) H Q :=
 zC5 e (by lia) h1 (by rw[vV];lia) (λp H' n s e'=>q p H' n s (by rw[e',List.flatten_replicate_singleton]))
theorem Z8(h:Is K H v (N 0))(n:Nat):ak K H (vc n v) ((cP n).map N):=by
 unfold cP;rw[XV];exact ak.Kg h n
theorem zqS(T:Txt K mg a):aG P w K mg base aS 5 a.Ji a.Hx yh (Ln K):=by
 refine T.HR.F.ok Bh ?_ ?_;wtm_at "b2"
 refine⟨_,(ar (az 2 Bh.nd (au (zqA T) hr T.HX (ae (ao (pv 0)) (ae (bE (show aJ _ (.builtin "sum") (DS K)from ztL rfl) rfl T.h0w Og (ae (pv 1) af)) af))))
     (ar (az 3 Bh.nd (ao (au (zrr T) hr T.Ii (ae (pv 0) (ae (pv 1) (ae (aC (show aN _ (WC .Mult) rq from OW) (fb (ae (br (ae ay (ae ay af))) af)) (aC jD (bE (show aJ _ (.builtin "len") (dj K)from d6) rfl T.h0r dU (ae (pv 1) af)) ay)) af))))))
     (av (aB (d7 rfl (cR.by (N':=["_law_shift","_law_factor"]) (src:=[none,some 2]) rfl (by kernel_rfl)) (gI (pv 3)) (λ_ _ _ _ _=>(bP (i:=0) (of_decide_eq_true (by kernel_rfl)) rfl (Or.inl rfl))) (λ_ _ _ _ _=>dM) (λ_ _ _ _ _=>by exact(au (ZS (K:=K) (mg:=mg) (a:=a) T) hr T.IE (ae (pv 0) (ae (au (RT (K:=K) (mg:=mg) (a:=a) T) hr T.AX (ae (show PE _ _ (rA K _)from br (ae ay (ae ay af))) (ae (pv 1) af))) af))))))))),?_⟩
 wtm_at "cl";rw[show start TY [x0,x1]=[some x0,some x1,none,none]from rfl];obtain⟨ra,rb,ns,p1,rfl,hr',hn',ok,sz,ha,q⟩:=h;have h8:=sz.bK;have h1:=sz.some;have hp:=sz.pos;have hF:ra^ns.sum.toNat≠1:=λe=>ha ((rk ok (by lia)).mp e)
 have bF:ag 49 (ra^ns.sum.toNat):=(jk ok _).mono (by lia);have hne:1-ra^ns.sum.toNat≠0:=λe=>hF (by grind)
 have rc:=zy4 ok sz (xs:=cP (ns.length-1)) (by rw[zL];lia) (pU _) (by decide);k_few;rename_i va ia;refine zAy hn' ?_;o_head zrj ia (RB ok) (by decide) (by lia) (by lia) (by lia) (λv1 H1 S1 i1=>?_);o_head eY (r:=0) rfl rfl (λv2 H2 S2 i2=>?_);o_head fB (by simp) (λl3 H3 n3 S3 e3=>?_);o_head jf ((S1.trans (S2.trans S3)).seq hn') ?_;rw[wm];o_head OE e3 (by lia) (by lia) (λl4 H4 n4 S4 e4=>?_);have T4:=S1.trans (S2.trans (S3.trans S4));have hk:((ns.length:Int)-1).toNat=ns.length-1:=by lia
 rw[hk]at e4;have i4:Is K H4 (.ref l4) (LN (cP (ns.length-1))):=dE e4 (Z8 (i2.by (S3.trans S4)) _);o_head zq2 (hr'.by T4) (T4.seq hn') (.inl i4) rc.1 rc.2.1 rc.2.2 (λv5 H5 S5 i5=>?_);o_head aA (j:=0) i5 rfl (λv6 i6=>?_);have T5:=T4.trans S5;have i15:=i1.by (S2.trans (S3.trans (S4.trans S5)));obtain⟨l6,us,rfl,hs6,t6⟩:=cC.mp i6;have hul:=t6.length;rw[wm]at hul;have hsl:(df ra rb ns).length=ns.length-1:=m4 h1;have hul:us.length=ns.length-1:=by rw[hul];exact hsl
 have hstl:(cK ra rb ns).length=ns.length-1:=p8 h1;o_head ju hs6 (o0:=none) (tl:=[some v1]) rfl (λj y H'=>Is K H' y (N ((cK ra rb ns).getD j 0))) ?_ ?_
 . intro D j x ys o H7 hx inv
   obtain⟨hj,ix⟩:=dC (xs:=df ra rb ns) t6 hx;have S7:=inv.same;have ix7:=ix.by S7;o_head eY (r:=1) rfl rfl (λv8 H8 S8 i8=>?_);o_head Ma i8 (i15.by (S7.trans S8)) ag.one bF (by decide) (λv9 H9 S9 i9=>?_);o_head zsK (ix7.by (S8.trans S9)) i9 (tJ ok sz j) (ag.one.sub bF) (by decide) hne (λv10 H10 S10 i10=>?_);have e:(cK ra rb ns).getD j 0=(df ra rb ns).getD j 0 / (1-ra^ns.sum.toNat):=Oo (by lia);rw[<- e]at i10;exact d5 inv (by lia) fK ⟨_,rfl⟩ (S8.trans (S9.trans S10)) i10
 . intro D ys H7 hn S7 hD hl hr
   exact q D H7 ys (jt T5 hn) (T5.trans S7) hD (gc (by rw[hl,hul,hstl]) hr)
def SU(K:wb):Sp:=λvs H Q _=>∃x0 x1 x2,vs=[x0,x1,x2] /\ ∃(p:we)(k m:Int)(ra rb:Rat),x0=.ref p/\x2=.int m/\Is K H x1 (R ra rb)/\aR ra rb/\cJ H p k/\k<=900/\3<=m/\m<=8 /\ ∀(l:we)(H':Hp)(us:List V)(xs:List Rat),H l=none->Exc p H H'->bG H H'->cJ H' p (k+13)->H' l=some (.lst us)->ak K H' us (xs.map N)->1<=xs.length->(xs.length:Int)<=m->(∀x∈xs,fc x)->Q (.ref l) H'
theorem zqK{k m:Int}(ir:Is K H v (R ra rb))(ok:aR ra rb)(h:cJ H p k)(hk:k<=900)(h1:3<=m)(h8:m<=8)(q:∀(l:we)(H':Hp)(us:List V)(xs:List Rat),H l=none->Exc p H H'->bG H H'->cJ H' p (k+13)->H' l=some (.lst us)->ak K H' us (xs.map N)->1<=xs.length->(xs.length:Int)<=m->(∀x∈xs,fc x)->Q (.ref l) H'):SU K [.ref p,v,.int m] H Q E:=⟨_,_,_,rfl,p,k,m,ra,rb,rfl,rfl,ir,ok,h,hk,h1,h8,q⟩
theorem zAA(h1:1<=n)(h3:n<=3):du (vc n (1:Int)):=by
 have:n=1\/n=2\/n=3:=by lia
 rcases this with rfl | rfl | rfl
 ·exact⟨by decide,by decide,by decide,by decide⟩
 ·exact⟨by decide,by decide,by decide,by decide⟩
 ·exact⟨by decide,by decide,by decide,by decide⟩
theorem zzx(h0:¬ x.num<0)(h1:¬ (x.den:Int)<=x.num)(h2:¬ (60:Int)<(x.den:Int)):fc x:=by
 have:=Sj (r:=x.num) (u:=(x.den:Int)) (by lia) (by lia) (by lia);rw[Vy]at this;exact this
theorem zq9(T:Txt K mg a):aG P w K mg base aS 6 a.IY a.HE tR (SU K):=by
 refine T.HZ.F.ok zev ?_ ?_;wtm_at "b3"
 refine⟨_,(ar (az 3 zev.nd (au (ziM T) hr T.Gw (ae (pv 0) (ae (pv 2) af))))
     (ar (bQ (PW.pt (fN (bZ oy (au (fJ T) hr T.ff (ae (pv 0) (ae ay af))) ay (bC _)) (iD (bZ (show aN _ (wT .Eq) (cO K)from dG hu) (ao (pv 1)) (br (ae ay (ae ay af))) (bC _))))) (av (aB (pv 3))) bR)
     (ar (az 4 zev.nd (aC cF (au (zqS T) hr T.HR (ae (pv 1) (ae (aC (show aN _ (WC .Mult) rq from OW) (fb (ae ay af)) (aC cF ay (au (fJ T) hr T.ff (ae (pv 0) (ae ay af))))) af))) (fb (ae (br (ae ay (ae ay af))) af))))
     (ar (g6 vP rfl (gI (pv 4)) (bP (i:=5) zev.nd rfl (Or.inl rfl)) (av (bQ (PW.pt (fN (bZ mW (ao (pv 5)) ay (bC _)) (fN (bZ C1 (ao (pv 5)) (ao (pv 5)) (bC _)) (iD (bZ oy (ao (pv 5)) ay (bC _)))))) (av (aB (pv 3))) bR)))
     (av (aB (pv 4))))))),?_⟩
 wtm_at "cl";rw[show start Ri [x0,x1,x2]=[some x0,some x1,some x2,none,none,none]from rfl];obtain⟨p,k,m,ra,rb,rfl,rfl,ir,ok,hp,hk,h3,h8,q⟩:=h;o_head ziL hp (by lia) (by lia) (by lia) (λl1 H1 us1 xs1 n1 E1 K1 P1 e1 t1 a1 b1 ph1=>?_);have ne1:l1≠p:=cJ.ne n1 hp;k_few
 . rename_i d H2 d0 d1 E2 K2 P2 z
   exact q l1 H2 us1 xs1 n1 (E1.trans E2) (K1.trans K2) (P2.le (by lia)) (E2.at ne1 e1) (ak.keep K2 _ _ (gq _) t1) a1 b1 ph1
 . rename_i d H2 d0 d1 E2 K2 P2 z va ia
   have e2:=E2.at ne1 e1;have t2:ak K H2 us1 (xs1.map N):=ak.keep K2 _ _ (gq _) t1;have ir2:=(ir.oQ K1).oQ K2;have EA:=E1.trans E2;have KA:=K1.trans K2;clear E1 K1 P1 e1 t1 E2 K2 ir;refine eY (r:=1) rfl rfl (λv3 H3 S3 i3=>?_);refine Na (ia.by S3) i3 ⟨_,rfl,?_⟩
   by_cases za:ra=1
   . rw[decide_eq_true za,if_pos rfl]
     k_few;exact q l1 H3 us1 xs1 n1 (EA.trans S3.exc) (KA.trans S3.keep) ((P2.same S3).le (by lia)) (S3 _ _ e2) (ak.same S3 _ _ t2) a1 b1 ph1
   . rw[decide_eq_false za,if_neg (by decide)]
     o_head fB (by simp) (λl4 H4 n4 S4 e4=>?_);have P4:=(P2.same S3).same S4;k_few;rename_i r H5 r0 r1 E5 K5 P5;have ne4:l4≠p:=cJ.ne n4 (P2.same S3);refine OE (E5.at ne4 e4) (by lia) (by lia) (λl6 H6 n6 S6 e6=>?_);obtain⟨n,hn⟩:∃n:Nat,2+r=(n:Int):=⟨(2+r).toNat,by lia⟩;rw[hn,wP]at e6;have e6:H6 l6=some (.lst ((vc n (1:Int)).map V.int)):=by rw[XV];exact e6
     have S34:=S3.trans S4;have KB:=KA.trans (S34.keep.trans (K5.trans S6.keep));have EB:=EA.trans (S34.exc.trans (E5.trans S6.exc));have P6:=P5.same S6;have eB:H6 l1=some (.lst us1):=S6 _ _ (E5.at ne1 (S34 _ _ e2));have tB:ak K H6 us1 (xs1.map N):=ak.keep (S34.keep.trans (K5.trans S6.keep)) _ _ (gq _) t2;have irB:=ir2.oQ (S34.keep.trans (K5.trans S6.keep));clear S3 S4 S34 E5 K5 S6 e2 t2 ir2 EA KA P2 P4 P5 e4 i3 ia n4 ne4 n6;o_head zqm irB (.of e6) ok (zAA (by lia) (by lia)) za (λl7 H7 us7 n7 S7 e7 t7=>?_);have hsl:(cK ra rb (vc n (1:Int))).length=n-1:=by rw[p8 (by rw[Wx];lia),Wx]
     have hul:=t7.length;rw[wm,hsl]at hul;generalize cK ra rb (vc n (1:Int))=ys at *;o_head eY (r:=0) rfl rfl (λv8 H8 S8 i8=>?_);o_head fB (by simp) (λl9 H9 n9 S9 e9=>?_);refine kn (S9 _ _ (S8 _ _ e7)) e9 (Ve (jI (by simp;lia))) (λl10 H10 n10 S10 e10=>?_);have S710:=S8.trans (S9.trans S10);have t10:ak K H10 (us7++[v8]) ((ys++[0]).map N):=Br (ak.same S710 _ _ t7) (i8.by (S9.trans S10));have SC:=S7.trans S710;have hn10:H6 l10=none:=jt (S7.trans (S8.trans S9)) n10
     have hnl:H l10=none:=by
       have ne:l10≠p:=cJ.ne hn10 P6;cases e:H l10 with
       | none=>rfl
       | some o=>rw[EB l10 o ne e]at hn10;cases hn10
     clear S7 S8 S9 S10 S710 t7 i8 n7 n9 n10 e7 e9;o_head Fn (.of e10) (λi σ H'=>∃o,σ = [some (.ref p),some x1,some (.int m),some (.ref l1),some (.ref l10),o]/\H'=H10 /\ ∀j,j<i->fc ((ys++[0]).getD j 0)) ⟨_,rfl,rfl,λj hj=>by lia⟩ (λi σ H' _ h=>by obtain⟨_,_,rfl,_⟩:=h;exact .of e10) ?_ ?_
     . rintro i x σ H' hx ⟨o,rfl,rfl,hj⟩
       obtain⟨hi,ix⟩:=dC t10 hx;k_few
       . exact q l1 H' us1 xs1 n1 (EB.trans SC.exc) (KB.trans SC.keep) ((P6.same SC).le (by lia)) (SC _ _ eB) (ak.same SC _ _ tB) a1 b1 ph1
       . exact q l1 H' us1 xs1 n1 (EB.trans SC.exc) (KB.trans SC.keep) ((P6.same SC).le (by lia)) (SC _ _ eB) (ak.same SC _ _ tB) a1 b1 ph1
       . exact q l1 H' us1 xs1 n1 (EB.trans SC.exc) (KB.trans SC.keep) ((P6.same SC).le (by lia)) (SC _ _ eB) (ak.same SC _ _ tB) a1 b1 ph1
       . rename_i z1 z2 z3
         refine⟨_,rfl,rfl,λj hj'=>?_⟩;rcases wA j i with y | y
         . exact hj j y
         . have:j=i:=by lia
           subst this;exact zzx z1 z2 z3
     . rintro σ H' ⟨o,rfl,rfl,hj⟩
       k_few;have hyl:(ys++[0]).length=n:=by simp[hsl];lia
       refine q l10 H' _ (ys++[0]) hnl (EB.trans SC.exc) (KB.trans SC.keep) ((P6.same SC).le (by lia)) e10 t10 (by lia) (by lia) (λy hy=>?_);obtain⟨j,hj',e⟩:=wX hy;have:=hj j (by simp;lia);rw[wa,wc hj']at this;rw[<- e];exact this
theorem fE.lw{a b:Rat}{xs:List Rat}(hk:c_ a b xs):∀{es:List (Nat × Nat × Nat)}{i n:Nat},fE a b xs i es n->LW a b xs i es n
 | [],_,_,h=>h
 | e::es,i,n,h=>by
  refine⟨h.1,?_,fE.lw hk h.2.2⟩;rcases h.2.1 with⟨e0,er,eg⟩ | ⟨i1,_,R⟩
  ·rw[er,eg]
   exact⟨by lia,by lia,λz=>by lia⟩
  ·have:=R.gN
   have:=(hk.nf i).2;exact⟨R.jH,by lia,λ_=>⟨hk.hp.zero hk.ok.a0 hk.ok.b0 hk.h1 i1,R.free⟩⟩
theorem OP{a:Rat}(h:m<=n):bY a b xs m<=bY a b xs n:=by
 obtain⟨k,rfl⟩:=Nat.exists_eq_add_of_le h;rw[lU];lia
theorem zz0(a b:Rat)(xs:List Rat)(es:List (Nat × Nat × Nat))(n:Nat)(w:String)(j:Nat):di ((cf a b xs es n w).getD j .none)=true:=by
 have all:∀d∈cf a b xs es n w,di d=true:=λd hd=>by
  rcases vX.mp hd with z | z
  ·obtain⟨e,_,rfl⟩:=wU.mp z
   exact p0 _ _ _ _
  ·rw[w6.mp z]
   exact U3 _ _ _ _ _
 rw[wa];cases e:(cf a b xs es n w)[j]? with
 | none=>rfl
 | some d=>exact all d (Qz e)
theorem Fx(a b:Rat)(xs:List Rat)(es:List (Nat × Nat × Nat))(n:Nat)(w:String):(cf a b xs es n w).length=es.length+1:=by simp[cf]
theorem OZ{a:Rat}(ok:aR a b)(hp:cu xs)(h0:0∈xs)(f:dQ a b (aW xs) (bA xs)=true):ai a b xs (aj xs).length=xs ↔ cQ a b (aW xs) (bA xs)=bA xs:=by
 obtain⟨hz,hn,hs,L⟩:=nQ (a:=a) (b:=b) hp h0;have L1:=(oX ok L hn f).1;rw[hs]at L1;have v1:=tY L1.pl L1.mQ.pw L1.some
 constructor
 ·intro e
  rw[e,<- hz]at v1;exact(Xm v1 (by rw[lP hn])).symm
 ·intro e
  have a1:=B5 L1 (aY a b xs _);have a2:=B5 L (n:=xs.length) rfl;rw[e]at a1;rw[<- a1,a2]
theorem Yz{a:Rat}(ok:aR a b)(hp:cu xs)(h0:0∈xs)(f:dQ a b (aW xs) (bA xs)=true)(r:cQ a b (aW xs) (bA xs)=bA xs) :
  (∀k,ai a b xs (k+(aj xs).length)=ai a b xs k) /\ ∀k,(cE a b (ai a b xs k)).length=1:=by
 obtain⟨hz,hn,hs,L⟩:=nQ (a:=a) (b:=b) hp h0;have hb:=(OZ ok hp h0 f).mpr r;have W:=(oX ok L hn f).2.1;rw[hs]at W
 have per:∀k,ai a b xs (k+(aj xs).length)=ai a b xs k:=λk=>by
  rw[QC,<- cw,hb]
 refine⟨per,λk=>?_⟩
 have hv:1<=(aj xs).length:=by
  have:=congrArg xK hz;rw[wR]at this;simp at this;lia
 induction k using uS with
 | ind k ih =>
  rcases wA k (aj xs).length with z | z
  ·rw[W k z];rfl
  ·have:=ih (k-(aj xs).length) (by lia)
   rw[<- per,XO z]at this;exact this
theorem CS{a:Rat}{w:String}(h:cT a b xs=some w):(w="one"/\(aj xs).length=1)\/((aj xs).length≠1/\dQ a b (aW xs) (bA xs)=true/\((w="rests"/\cQ a b (aW xs) (bA xs)=bA xs)\/(w="drawn"/\cQ a b (aW xs) (bA xs)≠bA xs/\a<1/\jX a b (aW xs)=true))):=by
 unfold cT at h
 split at h
 ·rename_i z
  exact .inl ⟨(wM h).symm,z⟩
 ·rename_i z
  split at h
  ·rename_i y
   refine .inr ⟨z,y,?_⟩
   split at h
   ·rename_i u
    exact .inl ⟨(wM h).symm,u⟩
   ·rename_i u
    split at h
    ·rename_i t
     exact .inr ⟨(wM h).symm,u,t⟩
    ·cases h
  ·cases h
theorem zwn{a:Rat}(a0:0<a)(b0:0<=b)(h1:1<=xs.length)(hp:cu xs)(w:(cE a b xs).length=1):(aj (dA a b xs)).length=(aj xs).length:=by
 obtain⟨v,J⟩:=ze a0 b0 h1 hp.nn hp.lt;have e:=congrArg xK J.new;rw[ib,wR,vR,ib,vV]at e;have v1:=J.v1;have vm:=J.vm;have:¬ 1<v:=λz=>by have:=J.more.mpr z;lia
 lia
theorem Ga{a b:Rat}(a0:0<a)(b0:0<=b){xs:List Rat}(h1:1<=xs.length)(hp:cu xs)(wv:∀k,(cE a b (ai a b xs k)).length=1):∀k,(aj (ai a b xs k)).length=(aj xs).length
 | 0=>rfl
 | k+1=>(zwn a0 b0 (by rw[aY];exact h1) (hp.at a0 b0 k) (wv k)).trans (Ga a0 b0 h1 hp wv k)
theorem zui{a:Rat}(ok:aR a b)(h1:1<=xs.length)(h8:xs.length<=8)(hp:cu xs)(h0:0∈xs)(f:dQ a b (aW xs) (bA xs)=true)(ha:a<1)(d:jX a b (aW xs)=true):(∀k,cg a b (aW xs) (bA xs) k=true) /\ ∀k,(cE a b (ai a b xs k)).length=1:=by
 obtain⟨hz,hn,hs,L⟩:=nQ (a:=a) (b:=b) hp h0;have sz:=Cp h1 h8
 have fr:∀k,cg a b (aW xs) (bA xs) k=true:=λk=>by
  induction k with
  | zero=>unfold cg;rw[kK];exact f
  | succ k ih =>
   unfold cg at *;rw[<- p_];exact zwJ ok sz (by rw[dk];exact hn) ha d ih
 refine⟨fr,λk=>?_⟩;have hv:0<(aW xs).length:=by lia
 have:=zwg ok L hn (kZ xs) (k:=k / (aW xs).length) (t:=k % (aW xs).length) (λj _=>fr j) (qm _ hv);rw[V5,Nat.div_add_mod]at this;rw[this];rfl
theorem Z_{a:Rat}(a0:0<a)(hl:xs.length=ys.length)(h:cj a b ns 1 xs=cj a b ns 1 ys):xs=ys:=by
 refine km hl λi hi=>?_
 have e:=congrArg (λl=>l.getD i 0) h;simp only[jh hi,jh (show i<ys.length by lia),oo]at e;have e:a^ns.sum.toNat*xs.getD i 0+(df a b ns).getD i 0=a^ns.sum.toNat*ys.getD i 0+(df a b ns).getD i 0:=e;have hF:=mh a0 ns.sum.toNat;generalize a^ns.sum.toNat=F at *;have k2:F*(xs.getD i 0-ys.getD i 0)=0:=by grind
 rcases xC.mp k2 with k | k
 ·rw[k]at hF;exact absurd hF (by decide)
 ·grind
theorem TF{a b:Rat}(a0:0<a){ns:List Int}{xs:List Rat} : ∀k,cj a b ns (k+1) xs=cj a b ns k xs->cj a b ns 1 xs=xs
 | 0,h=>by rw[kK]at h;exact h
 | k+1,h=>TF a0 k (Z_ (b:=b) a0 (ns:=ns) (by rw[dk,dk]) (by rw[p_,p_];exact h))
theorem Mh{a:Rat}(ok:aR a b)(h1:1<=xs.length)(h8:xs.length<=8)(hp:cu xs)(h0:0∈xs){s s':String}(w:cT a b xs=some s)(w':cT a b (ai a b xs k)=some s'):s=s'/\(aj (ai a b xs k)).length=(aj xs).length:=by
 have a0:=ok.a0;have b0:=ok.b0;have hpk:=hp.at a0 b0 k;have vk:=nh (xs:=ai a b xs k) (by rw[aY];exact h1);rcases CS w with⟨rfl,v1⟩ | ⟨v1,f,C⟩
 ·have:=rT a0 b0 h1 hp k
  have e:(aj (ai a b xs k)).length=1:=by lia
  unfold cT at w';rw[if_pos e]at w';exact⟨wM w',by lia⟩
 ·obtain⟨hz,hn,hs,L⟩:=nQ (a:=a) (b:=b) hp h0
  rcases C with⟨rfl,r⟩ | ⟨rfl,r,ha,d⟩
  ·obtain⟨per,wv⟩:=Yz ok hp h0 f r
   have ev:=Ga a0 b0 h1 hp wv k
   have h0k:0∈ai a b xs k:=by
    rw[<- per k];exact hp.zero a0 b0 h1 (by lia)
   rcases CS w' with⟨_,z⟩ | ⟨_,fk,⟨rfl,_⟩ | ⟨_,z,_⟩⟩
   ·lia
   ·exact⟨rfl,ev⟩
   ·exact absurd ((OZ ok hpk h0k fk).mp (by rw[cw,ev,per])) z
  ·obtain⟨fr,wv⟩:=zui ok h1 h8 hp h0 f ha d
   have ev:=Ga a0 b0 h1 hp wv k;rcases CS w' with⟨_,z⟩ | ⟨_,fk,⟨_,z⟩ | ⟨rfl,_⟩⟩
   ·lia
   ·have h0k:0∈ai a b xs k:=by
     rcases XT k with e | e
     ·rw[e];exact h0
     ·exact hp.zero a0 b0 h1 e
    obtain⟨per,_⟩:=Yz ok hpk h0k fk z;have hv:=nh h1;obtain⟨L1,_⟩:=me ok L hn (kZ xs) k (λj _=>fr j);obtain⟨L2,_⟩:=me ok L hn (kZ xs) (k+1) (λj _=>fr j);have u1:=tY L1.pl L1.mQ.pw L1.some;have u2:=tY L2.pl L2.mQ.pw L2.some;rw[hs]at u1 u2;obtain⟨j,hj⟩:∃j,k*(aj xs).length=k+j:=⟨k*(aj xs).length-k,by have:=qM k hv;lia⟩
    have e:ai a b xs ((k+1)*(aj xs).length)=ai a b xs (k*(aj xs).length):=by
     have:=per j;rw[ev,cw,cw]at this;rw[qB,hj,WS];exact this
    rw[e,u1]at u2;have e2:=Xm u2 (by rw[dk,dk]);have e3:=TF a0 k e2.symm;rw[o_ hn (kZ xs)]at e3;exact absurd e3 r
   ·exact⟨rfl,ev⟩
theorem zyn{a:Rat}(ok:aR a b)(h1:1<=xs.length)(h8:xs.length<=8)(hp:cu xs){s s':String}(m1:1<=m)(n1:1<=n)(w:cT a b (ai a b xs m)=some s)(w':cT a b (ai a b xs n)=some s'):s=s'/\(aj (ai a b xs m)).length=(aj (ai a b xs n)).length:=by
 have a0:=ok.a0;have b0:=ok.b0;rcases Nat.le_total m n with z | z
 ·have:=Mh ok (xs:=ai a b xs m) (by rw[aY];exact h1) (by rw[aY];exact h8) (hp.at a0 b0 m) (hp.zero a0 b0 h1 m1) w (k:=n-m) (s':=s') (by rw[cw,qN z];exact w')
  rw[cw,qN z]at this;exact⟨this.1,this.2.symm⟩
 ·have:=Mh ok (xs:=ai a b xs n) (by rw[aY];exact h1) (by rw[aY];exact h8) (hp.at a0 b0 n) (hp.zero a0 b0 h1 n1) w' (k:=m-n) (s':=s) (by rw[cw,qN z];exact w)
  rw[cw,qN z]at this;exact⟨this.1.symm,this.2⟩
theorem mT{α : Type}[DecidableEq α]:∀{l m:List α},l.Nodup->(∀x∈l,x∈m)->l.length<=m.length
 | [],_,_,_=>Wm _
 | x::l,m,nd,h=>by
  have⟨h1,h2⟩:=WW.mp nd;have hx:=h x (wz ..);have:=mT (m:=m.erase x) h2 λy hy=>(Xk (λe=>h1 (by rw[<- e];exact hy))).mpr (h y (wy _ hy))
  rw[xq hx]at this;have:=qt hx;rw[vo];lia
theorem Tc(nd:ys.Nodup)(h:∀y,y∈ys ↔ y∈xs):ys.length=(aj xs).length :=
 uL (mT nd λx hx=>oY ((h x).mp hx)) (mT (B_ xs) λx hx=>(h x).mpr (kh hx))
theorem zyP{a:Rat}(ok:aR a b)(c:kc b.den m xs)(h1:1<=xs.length)(hp:cu xs)(k:Nat):kc b.den (m+3*bY a b xs k+1) (ai a b xs k):=by
 obtain⟨B,hB,hd,bB,hx⟩:=c;have hov:=(Bf ok hB hd h1 (λx hx'=>let ⟨t,e,_⟩:=hx x hx';⟨t,e⟩) k).1;have hBk:=vQ hB (m5 a (bY a b xs k));have bb:=Oa ok bB (bY a b xs k);have hpk:=hp.at ok.a0 ok.b0 k;exact⟨_,hBk,qj hd (Vi ..),bb.mono (by lia),λx hx'=>EF (l:=0) hBk bb (hov x hx') (hpk.nn x hx') (vT (hpk.lt x hx'))⟩
def hZ(m:Nat)(e:Nat × Nat × Nat):Nat × Nat × Nat:=(m+e.1,e.2)
theorem LW.shift{a b:Rat}{xs:List Rat}(m:Nat):∀{es:List (Nat × Nat × Nat)}{i n:Nat},LW a b (ai a b xs m) i es n->LW a b xs (m+i) (es.map (hZ m)) (m+n)
 | [],i,n,h=>by
  have e:i=n:=h;rw[e];rfl
 | e::es,i,n,h=>by
  obtain⟨h1,h2,h3⟩:=h;have ih:=LW.shift m h3;rw[cw]at h2;refine⟨by show m+e.1=m+i;rw[h1],h2,?_⟩;have e2:cq a b xs (m+i) e.2.1 e.2.2=m+cq a b (ai a b xs m) i e.2.1 e.2.2:=by unfold cq;rw[cw];lia
  show LW a b xs (cq a b xs (m+i) e.2.1 e.2.2) _ _
  rw[e2];exact ih
theorem LW.ones{a b:Rat}{xs:List Rat} : ∀(m i:Nat){es:List (Nat × Nat × Nat)}{n:Nat},LW a b xs (i+m) es n->LW a b xs i ((wt m).map (λk=>(i+k,0,1))++es) n
 | 0,i,es,n,h=>h
 | m+1,i,es,n,h=>by
  rw[List.range_succ_eq_map,vd,WM,xn];refine⟨rfl,⟨Wm _,show 1<=40 by decide,λz=>absurd (show 1<=0 from z) (by decide)⟩,?_⟩;have e2:cq a b xs i 0 1=i+1:=by unfold cq;lia
  show LW a b xs (cq a b xs i 0 1) _ n
  rw[e2]
  have ef:((λk=>(i+k,0,1)) ∘ Nat.succ:Nat->Nat × Nat × Nat)=λk=>(i+1+k,0,1):=by
   funext k
   show(i+(k+1),0,1)=(i+1+k,0,1)
   rw[WS,QC 1]
  rw[ef];exact LW.ones m (i+1) (by rw[WS,QC 1];exact h)
theorem zrw(a b:Rat)(xs:List Rat)(m:Nat)(es:List (Nat × Nat × Nat))(n:Nat)(w:String):cf a b xs (es.map (hZ m)) (m+n) w=es.map (λe=>fo (aE a b (ai a b xs m) e.1+aE a b xs m) (ai a b (ai a b xs m) e.1) e.2.1 e.2.2)++[.tuple [N (aE a b (ai a b xs m) n+aE a b xs m),TN (ai a b (ai a b xs m) n),.str (wW w)]]:=by
 unfold cf om;rw[WM,cw,Rat.add_comm,jU]
 congr 1
 refine qg λe _=>?_
 show fo (aE a b xs (m+e.1)) (ai a b xs (m+e.1)) e.2.1 e.2.2=_
 rw[cw,Rat.add_comm,jU]
theorem zxo{a:Rat}{w:String}(lw:LW a b (ai a b xs m) 0 es n)(hj:j<es.length+1):∃i ds,i<=n/\1<=ds.length/\ds.length<=3/\(cf a b (ai a b xs m) es n w)[j]? = some (.tuple (N (aE a b (ai a b xs m) i)::ds))/\(cf a b xs (es.map (hZ m)) (m+n) w)[j]? = some (.tuple (N (aE a b (ai a b xs m) i+aE a b xs m)::ds)):=by
 rw[zrw];rcases wA j es.length with z | z
 ·obtain⟨e1,_,e3,le⟩:=lw.at j z
  refine⟨es[j].1,[TN _,.int _,.int _],by unfold cq at e3;lia,by simp,by simp,by rw[Rg z];rfl,?_⟩;rw[vI (by simpa using z),wu,wc z];rfl
 ·have:j=es.length:=by lia
  subst this;refine⟨n,[TN (ai a b (ai a b xs m) n),.str (wW w)],wo _,by simp,by simp,?_,?_⟩
  ·unfold cf
   rw[vi (by simp)];simp
   rfl
  ·rw[vi (by simp)]
   simp
def Ai(K:wb):Sp:=λvs H Q _=>∃x0,vs=[x0] /\ ∃(a:we)(ns:List Int),x0=.ref a/\iV K H a (ns.map V.int)/\ns.length<=63 /\ ∀H',Q (.bl true) H'
theorem zC4(T:Txt K mg a):aG P w K mg base aS 16 a.law a.J5 zc (Ai K):=by
 refine T.Y9.F.ok iC ?_ ?_;wtm_at "b1"
 refine⟨_,(ar (az 1 iC.nd (au (zj2 T) hr T.GP (ae (au (DO T) hr T.sf (ae (pv 0) (ae ay af))) af)))
     (ar (az 2 iC.nd (au (ztj T) hr T.IQ (ae (pv 1) (ae (au (zq9 T) hr T.HZ (ae (au (DO T) hr T.sf (ae (pv 0) (ae ay af))) (ae (pv 1) (ae ay af)))) af))))
     (ar (az 3 iC.nd (au (DO T) hr T.sf (ae (pv 0) (ae ay af))))
     (ar (az 4 iC.nd (au (fJ T) hr T.ff (ae (pv 3) (ae (dH dh (fb (ae ay (ae ay af))) (au (fJ T) hr T.ff (ae (pv 3) (ae ay af))) (λ_ _=>rfl)) af))))
     (ar (nH (au (L5 T) hr T.A5 (ae (pv 2) (ae (pv 4) af))) (my (n:=2) rfl (gx (bP (i:=5) iC.nd rfl (Or.inr rfl)) (gx (bP (i:=6) iC.nd rfl (Or.inl rfl)) lI))))
     (ar (az 7 iC.nd (au (R6 T) hr T.AM (ae (pv 2) af)))
     (ar (az 8 iC.nd (au (R6 T) hr T.AM (ae (pv 6) af)))
     (ar (bQ (PW.pt (yY (bZ RV (pv 7) fG (bC _)) (yY (bZ RV (pv 8) fG (bC _)) (ES (bZ (show aN _ (wT .NotEq) (f_ K)from jO hu) (pv 7) (pv 8) (bC _)))))) (av (aB eI)) bR)
     (ar (az 9 iC.nd (au (zqo T) hr T.Ia (ae (pv 6) af)))
     (ar (bQ (bZ tE (pv 9) fG (bC _)) (av (aB (e_ tE (pv 8) fG (bC _)))) bR)
     (ar (mF (i:=10) iC.nd rfl (Or.inl rfl) rfl (cR.by (N':=["_law_row","_law_hour"]) (src:=[none,some 5]) rfl (by kernel_rfl)) (gI (pv 9)) (λ_ _ _ _ _=>(bP (i:=0) (of_decide_eq_true (by kernel_rfl)) rfl (Or.inl rfl))) (λ_ _ _ _ _=>dM) (λ_ _ _ _ _=>by exact(aC (show aN _ (WC .Add) (pf K)from F6) (show PE _ _ (rA K _)from br (ae (au (pR (K:=K) (mg:=mg) (a:=a) T) hr T.mM (ae (mq (K:=K) dh (pv 0)) (ae (pv 1) af))) af)) (jZ (show kf _ (oU K)from j4) (pv 0) (j6 ay) kj))))
     (ar (bQ (cU (cz (au (Kq T) hr T.AW (ae (pv 2) (ae (aC cF (fb (ae (br (by exact(@ae _ _ _ _ _ (br (ae ay (ae ay af))) (@ae _ _ _ _ _ (ao (pv 2)) (@ae _ _ _ _ _ ay (@ae _ _ _ _ _ (pv 4) af fO) lG) eX) Om))) af)) (pv 10)) (ae eI af)))))) (av (aB eI)) bR)
     (ar (az 11 iC.nd (aC cF (fb (ae (br (by exact(@ae _ _ _ _ _ (br (ae ay (ae ay af))) (@ae _ _ _ _ _ (ao (pv 2)) (@ae _ _ _ _ _ ay (@ae _ _ _ _ _ ay af lG) lG) eX) Om))) af)) (d7 rfl (cR.by (N':=["_law_row"]) (src:=[none]) rfl (by kernel_rfl)) (gI (au (O5 T) hr T.A0 (ae (pv 2) (ae (pv 4) af)))) (λ_ _ _ _ _=>(bP (i:=0) (of_decide_eq_true (by kernel_rfl)) rfl (Or.inl rfl))) (λ_ _ _ _ _=>dM) (λ_ _ _ _ _=>by exact(show PE _ _ (rA K _)from br (by exact(@ae _ _ _ _ _ (mq (K:=K) dh (pv 0)) (@ae _ _ _ _ _ (mq (K:=K) dh (pv 0)) (@ae _ _ _ _ _ ay (@ae _ _ _ _ _ ay af lG) lG) eX) eX)))))))
     (ar (bQ (cU (cz (au (Kq T) hr T.AW (ae (pv 2) (ae (aC cF (jZ j4 (pv 11) kj (j6 (pv 4))) (pv 10)) (ae eI af)))))) (av (aB eI)) bR)
     (av (aB (Sf j5 j5 (ao (pv 8)) (bE (show aJ _ (.builtin "len") (Dl w)from RG) rfl T.h0r dU (ae (dY (show aJ _ (.type "set") (yI K w)from UH hu rfl) rfl T.h0p Nb (ae (ao (pv 6)) af)) af)) (bE (show aJ _ (.builtin "len") (Dl w)from RG) rfl T.h0r dU (ae (dY (show aJ _ (.type "set") (yI K w)from UH hu rfl) rfl T.h0p Nb (ae (ao (pv 2)) af)) af))))))))))))))))))),?_⟩
 wtm_at "cl";rw[show start Tq [x0]=[some x0,none,none,none,none,none,none,none,none,none,none,none]from rfl];obtain⟨a',ns0,rfl,hs,hl,q⟩:=h;o_head DD hs hl (by decide) (by decide) (λp1 H1 hp1 S1 P1=>?_);o_head zkG P1 (by decide) (λv2 H2 ra rb E2 K2 P2 i2 ok=>?_);have KA:bG H H2:=S1.keep.trans K2;o_head DD (KA.B8 hs) hl (by decide) (by decide) (λp3 H3 hp3 S3 P3=>?_);o_head zqK (i2.by S3) ok P3 (by decide) (by decide) (by decide) (λl4 H4 us4 xs n4 E4 K4 P4 e4 t4 a4 b4 ph4=>?_);have KB:bG H H4:=KA.trans (S3.keep.trans K4);have i4:=i2.oQ (S3.keep.trans K4);have iS:=dE e4 t4;obtain⟨bg,cD⟩:=c_.of ok a4 (by lia) ph4;clear i2 S1 S3 P1 P2 P3 P4 E2 K2 E4 K4 e4 t4 n4 hp1 hp3 KA;o_head zsn i4 ok (.inl iS) a4 (by lia) ph4 (λvw H5 S5 iw=>?_);have KC:=KB.trans S5.keep;o_head DD (KC.B8 hs) hl (by decide) (by decide) (λp6 H6 hp6 S6 P6=>?_);wtm_at "ga";rename_i lc Hc nc Sc ec rd Hd d0 d1 Ed Kd Pd z hz rm He r0 r1 Ee Ke Pe;have r40:rm<=40:=by lia
 obtain⟨m,rfl⟩:∃m:Nat,rm=(m:Int):=⟨rm.toNat,by lia⟩;have m40:m<=40:=by lia
 have iw1:Is K He vw (aZ ra rb xs):=(iw.by S6).jm (Sc.keep.trans (Kd.trans Ke)) (LO _ _ _);clear iw i4 iS S5 S6 KB KC hp6 P6 Pd Pe Ed Ee Kd Ke Sc ec nc hs hz r0 r1 d0 d1;have h1:=bg.h1;have gl:∀k,bY ra rb xs k<=k*xs.length:=pC ok.a0 ok.b0 h1 bg.hp
 have gm:bY ra rb xs m<=160:=by
   have:=gl m;have:m*xs.length<=40*4:=V2 m40 (by lia);lia
 have cA:∀{i k:Nat},bY ra rb xs (i+k)<=1100->k<=2048->Cm 3500 (aE ra rb (ai ra rb xs i) k::ai ra rb (ai ra rb xs i) k):=λ{i k} hg hk=>(Sk ok cD h1 bg.hp (i:=i) (k:=k) (l:=11) (by rw[show(2:Nat)^11=2048 by decide];exact hk)).mono (by lia)
 have bL:c_ ra rb (ai ra rb xs m):=⟨ok,by rw[aY];exact h1,by rw[aY];lia,bg.hp.at ok.a0 ok.b0 m,_,zyP ok cD h1 bg.hp m,by rw[aY];lia⟩;have cH:∀i,i<=m->Cm 3700 (aE ra rb xs i::ai ra rb xs i):=λi hi=>(cA (i:=0) (k:=i) (by have:=OP (a:=ra) (b:=rb) (xs:=xs) hi;rw[QG];lia) (by lia)).mono (by decide)
 refine Dy iw1 ok.ba ok.bb h1 (by lia) (by lia) (by lia) (by rw[wP];exact cH) (λv7 H7 S7 i7=>?_);rw[wP]at i7;refine zyY i7 rfl (λys t=>?_);obtain⟨vh,r1,rfl,ih,t⟩:=eD.mp t;obtain⟨vl,r2,rfl,il,t⟩:=eD.mp t;rw[gU.mp t];have iw7:=iw1.by S7;clear iw1 i7 S7 t;o_head Lb iw7 bg (λv8 H8 S8 C8=>?_);o_head Lb (il.by S8) bL (λv9 H9 S9 C9=>?_);wtm_at "gt";wtm_at "tl";wtm_at "sq"
 have main:tl_ {nx:=λ_ H'=>Q V.a_ H',rt:=Q} [some (V.ref a'),some v2,some vw,some (V.ref p6),some (V.int (m:Int)),some vh,some vl,some v8,some v9,none,none,none] H9:=by
   have il9:=il.by (S8.trans S9);have iw9:=iw7.by (S8.trans S9);have ih9:=ih.by (S8.trans S9);clear C8 S8 S9 iw7 il ih;wtm_at "tl";o_head zqt il9 bL (λF H10 S10=>?_) (λl H10 es n wd P nl S10 i10=>?_)
   . rcases C9 with⟨rfl,_⟩ | ⟨es,n,w,P,_⟩
     . k_few
       exact q _
     . exact absurd F (OY P)
   . rcases C9 with⟨_,F⟩ | ⟨es',n',w',P',i9⟩
     . exact absurd F (OY P)
     obtain⟨rfl,rfl,rfl⟩:=ztY P P';have iw10:=iw9.by S10;have ih10:=ih9.by S10;have il10:=il9.by S10;have i9:=i9.by S10;clear il9 iw9 ih9 S10;have lwL:=fE.lw bL P.walk;have sp:=P.sp;have hnf:=bL.nf n;unfold kx at sp;rw[aY]at sp
     have cN:∀i k,i+k<=m+n->Cm 3500 (aE ra rb (ai ra rb xs i) k::ai ra rb (ai ra rb xs i) k):=λi k hik=>cA (by
       have:=OP (a:=ra) (b:=rb) (xs:=xs) hik;rw[lU ra rb xs m n]at this;lia) (by lia)
     have c0:∀i,i<=n->ag 3500 (aE ra rb (ai ra rb xs m) i):=λi hi=>(cN m i (by lia)).d4 (wz ..)
     have bM:ag 3700 (aE ra rb xs m):=(cH m (wo m)).d4 (wz ..);have h0N:0∈ai ra rb xs (m+n):=bg.hp.zero ok.a0 ok.b0 h1 (by have:=P.n1;lia);have hwN:cT ra rb (ai ra rb xs (m+n))=some wd:=by rw[<- cw];exact P.word
     have bK:=P.bK;obtain⟨l',us,el,hs10,t10⟩:=cC.mp i10;cases el;have hul:=t10.length;rw[Fx]at hul;k_few
     . rename_i z;cases z
     . refine ju hs10 (o0:=none) (tl:=[some vh]) rfl (λj y H'=>Is K H' y ((cf ra rb xs (es.map (hZ m)) (m+n) wd).getD j .none)) ?_ ?_
       . intro D j x ys o H11 hx inv
         obtain⟨hj,ix⟩:=jF t10 hx;rw[Fx]at hj;obtain⟨i,ds,hi,d1,d3,e1,e2⟩:=zxo (w:=wd) lwL hj;rw[wa,e1]at ix;have S11:=inv.same;have ix11:Is K H11 x (.tuple (N (aE ra rb (ai ra rb xs m) i)::ds)):=ix.by S11;have ih11:=ih10.by S11;have bi:=c0 i hi;o_head aA (j:=0) ix11 rfl (λv12 i12=>?_);k_few;rename_i v13 H13 S13 i13;refine cB (ds:=[N (aE ra rb (ai ra rb xs m) i+aE ra rb xs m)]) (by simp) (.cons i13 .nil) (λv14 H14 S14 i14=>?_);o_head P_ (ix11.by (S13.trans S14)) (by simp[HT.aX]) (λv15 H15 S15 i15=>?_);rw[Cn]at i15;refine CL (i14.by S15) i15 (by simp;lia) (λv16 H16 S16 i16=>?_);refine d5 inv (by lia) (λ_ _ _ _ k h=>h.jm k (zz0 ..)) ⟨_,rfl⟩ (S13.trans (S14.trans (S15.trans S16))) ?_;rw[wa,e2];exact i16
       . intro D ys H11 n11 S11 e11 l11 r11
         have t11:ak K H11 ys (cf ra rb xs (es.map (hZ m)) (m+n) wd):=DL (by rw[l11,Fx,wm];exact hul) r11;have iw11:=iw10.by S11;have il11:=il10.by S11;have i911:=i9.by S11;clear iw10 il10 i9 ih10 i10 t10 hs10 S11 r11;have lwN:LW ra rb xs m (es.map (hZ m)) (m+n):=lwL.shift m;o_head cB (ds:=[.int 0,.int 1]) (by simp) (.cons (bW.mpr rfl) (.cons (bW.mpr rfl) .nil)) (λv12 H12 S12 i12=>?_);o_head aA (j:=1) (iw11.by S12) rfl (λv13 i13=>?_);o_head cB (ds:=[N 0,TN xs,.int 0,.int (m:Int)]) (by simp) (.cons i12 (.cons i13 (.cons (bW.mpr rfl) (.cons (bW.mpr rfl) .nil)))) (λv14 H14 S14 i14=>?_);o_head fB (by simp) (λl15 H15 n15 S15 e15=>?_);have S115:=S12.trans (S14.trans S15);o_head kn e15 (S115 _ _ e11) (by rw[Vw,l11];simp;lia) (λl16 H16 n16 S16 e16=>?_);have T16:=S115.trans S16;have i16:Is K H16 (.ref l16) (.list (cf ra rb xs ((0,0,m)::es.map (hZ m)) (m+n) wd)):=cC.mpr ⟨l16,_,rfl,.of e16,.cons (i14.by (S15.trans S16)) (ak.same T16 _ _ t11)⟩;o_head NM (iw11.by T16) i16 ok h1 (by lia) bg.hp ⟨rfl,⟨Wm _,m40,λz=>absurd (show 1<=0 from z) (by decide)⟩,?_⟩ (by rw[vo,wm];lia) h0N hwN cN (λH17 S17=>?_)
         . have e2:cq ra rb xs 0 0 m=m:=by unfold cq;lia
           show LW ra rb xs (cq ra rb xs 0 0 m) _ _
           rw[e2];exact lwN
         have T17:=T16.trans S17;have iw17:=iw11.by T17;have il17:=il11.by T17;have i917:=i911.by T17;have e17:=T17 _ _ e11;have t17:ak K H17 ys (cf ra rb xs (es.map (hZ m)) (m+n) wd):=ak.same T17 _ _ t11;clear iw11 il11 i911 e11 t11 i12 i13 i14 i16 S12 S14 S15 S16 S17 S115 T16 T17 e15 e16;o_head cB (ds:=[.int 0,.int 1]) (by simp) (.cons (bW.mpr rfl) (.cons (bW.mpr rfl) .nil)) (λv18 H18 S18 i18=>?_);o_head aA (j:=1) (iw17.by S18) rfl (λv19 i19=>?_);o_head cB (ds:=[N 0,TN xs,.int 0,.int 1]) (by simp) (.cons i18 (.cons i19 (.cons (bW.mpr rfl) (.cons (bW.mpr rfl) .nil)))) (λv20 H20 S20 i20=>?_);o_head fB (by simp) (λl21 H21 n21 S21 e21=>?_);have T21:=S18.trans (S20.trans S21);have i2021:=i20.by S21;clear i18 i19 i20 S18 S20 S21;o_head N4 (iw17.by T21) ok.ba ok.bb h1 (by lia) (by lia) (by lia) (by rw[wP];exact cH) (λlr H22 n22 S22 i22=>?_);rw[wP]at i22;obtain⟨lr',us22,el,hs22,t22⟩:=cC.mp i22;cases el;have hul22:=t22.length;rw[Fo]at hul22;o_head ju hs22 (o0:=none) (tl:=[]) rfl (λj y H'=>Is K H' y (fo (aE ra rb xs (j+1)) (ai ra rb xs (j+1)) 0 1)) ?_ ?_
         . intro D' j x ys' o H23 hx inv
           obtain⟨hj,ix⟩:=jF t22 hx;rw[Fo]at hj;rw[wa,zwi hj]at ix;have ix23:Is K H23 x (yB ra rb xs j):=ix.by inv.same;o_head aA (j:=0) ix23 rfl (λv24 i24=>?_);o_head aA (j:=2) ix23 rfl (λv25 i25=>?_);o_head cB (ds:=[N (aE ra rb xs (j+1)),TN (ai ra rb xs (j+1)),.int 0,.int 1]) (by simp) (.cons i24 (.cons i25 (.cons (bW.mpr rfl) (.cons (bW.mpr rfl) .nil)))) (λv26 H26 S26 i26=>?_);exact d5 inv (by lia) (λ_ _ _ _ k h=>h.jm k (p0 ..)) ⟨_,rfl⟩ S26 i26
         . intro D' ys' H23 n23 S23 e23 l23 r23
           have T23:=S22.trans S23;o_head kn (T23 _ _ e21) e23 (by rw[Vw,l23];simp;lia) (λl24 H24 n24 S24 e24=>?_)
           have t24:ak K H24 ([v20]++ys') ((wt (m+1)).map λk=>fo (aE ra rb xs k) (ai ra rb xs k) 0 1):=by
             refine DL (by simp;lia) λi x hx=>?_
             rw[wa];cases i with
             | zero =>
               have hx:v20=x:=by simpa using hx
               rw[<- hx,wu,vM (by lia)];exact i2021.by (T23.trans S24)
             | succ i =>
               have hx:ys'[i]? = some x:=by simpa using hx
               have:=(Wt.mp hx).1;rw[wu,vM (by lia)];exact(r23 i x hx).by S24
           have i24:Is K H24 (.ref l24) (.list ((wt (m+1)).map λk=>fo (aE ra rb xs k) (ai ra rb xs k) 0 1)):=cC.mpr ⟨l24,_,rfl,.of e24,t24⟩;have T24:=T21.trans (T23.trans S24);have iw24:=iw17.by T24;have il24:=il17.by T24;have i924:=i917.by T24;have e1724:=T24 _ _ e17;have t1724:ak K H24 ys (cf ra rb xs (es.map (hZ m)) (m+n) wd):=ak.same T24 _ _ t17;clear iw17 il17 i917 e17 t17 t22 hs22 i22 r23 e23 e24 t24 T24 T23 T21 S22 S23 S24 e21 i2021;o_head lQ i24 (λl25 H25 us25 n25 S25 e25 t25=>?_);rw[zCp]at t25;o_head kn e25 (S25 _ _ e1724) (by rw[Vw,l11,t25.length];simp;lia) (λl26 H26 n26 S26 e26=>?_);have T26:=S25.trans S26
           have i26:Is K H26 (.ref l26) (.list (cf ra rb xs ((wt m).map (λk=>(0+k,0,1))++es.map (hZ m)) (m+n) wd)):=by
             refine cC.mpr ⟨l26,_,rfl,.of e26,?_⟩
             have e:cf ra rb xs ((wt m).map (λk=>(0+k,0,1))++es.map (hZ m)) (m+n) wd=((wt (m+1)).map λk=>fo (aE ra rb xs k) (ai ra rb xs k) 0 1).take m++cf ra rb xs (es.map (hZ m)) (m+n) wd:=by
               unfold cf;rw[vA,Vh,<- Xp,List.take_range,xE (by lia),WM]
               congr 1
               refine qg λk _=>?_
               show fo (aE ra rb xs (0+k)) (ai ra rb xs (0+k)) 0 1=_
               rw[QG]
             rw[e];exact(ak.same S26 _ _ t25).append (ak.same T26 _ _ t1724)
           o_head NM (iw24.by T26) i26 ok h1 (by lia) bg.hp (LW.ones m 0 (by rw[QG];exact lwN)) (by rw[wR,wm,wm,vx];lia) h0N hwN cN (λH27 S27=>?_);have T27:=T26.trans S27;have hpm:=bg.hp.at ok.a0 ok.b0 m;have v1:=rT ok.a0 ok.b0 (xs:=ai ra rb xs m) (by rw[aY];exact h1) hpm n;have v2:=rT ok.a0 ok.b0 h1 bg.hp m;o_head aA (j:=1) (show Is K H27 v9 (ox wd (aj (ai ra rb (ai ra rb xs m) n)).length)from i924.by T27) rfl (λv28 i28=>?_);rw[bW.mp i28];o_head aA (j:=1) (il24.by T27) rfl (λv29 i29=>?_);o_head UI i29 (by rw[aY];lia) (λls H30 ws zs n30 S30 e30 t30 nd mem=>?_);have hyl:=Tc nd mem;have hwl:=t30.length;rw[wm]at hwl;o_head ⟨ls,ws,rfl,e30,?_⟩;rw[show ws.length=(aj (ai ra rb xs m)).length by lia];k_few
           . refine aA (j:=1) (iw24.by (T27.trans S30)) rfl (λv31 i31=>?_)
             o_head UI i31 (by lia) (λls2 H32 ws2 zs2 n32 S32 e32 t32 nd2 mj=>?_);have hyl2:=Tc nd2 mj;have hwl2:=t32.length;rw[wm]at hwl2;o_head ⟨ls2,ws2,rfl,e32,?_⟩;rw[show ws2.length=(aj xs).length by lia];k_few;rw[decide_eq_true (by lia)];exact q _
           . rename_i z
             exact absurd (by lia) z
 wtm_at "gt"
 . rcases C8 with⟨z,_⟩ | ⟨es,n,w,P,i8⟩
   . contradiction
   rcases C9 with⟨z,_⟩ | ⟨es',n',w',P',i9⟩
   . contradiction
   obtain⟨e1,e2⟩:=zyn ok h1 (by lia) bg.hp P.n1 (show 1<=m+n' by have:=P'.n1;lia) P.word (by rw[<- cw];exact P'.word);rw[cw,<- e1,<- e2]at i9;refine zAi (n:=4) (i8.by S9) i9 ?_ (by decide) ?_ ?_
   . exact nZ (mj ((Am (rJ _)).mono (by decide)) ((nV _).mono (by decide)))
   . exact Dc (mj (Tx _) (BK _))
   wtm_at "gt";exact main
 . exact main
 . exact main
end
variable{us:List wg}
theorem RD(h:us.length=1):∃a,us=[a]:=by
 cases us with
 | nil=>cases h
 | cons a t=>exact⟨a,by rw[Ql.mp (xt h)]⟩
theorem Nh(h:us.length=2):∃a0 a1,us=[a0,a1]:=by
 cases us with
 | nil=>cases h
 | cons a0 t =>
  obtain⟨a1,e⟩:=RD (xt h);exact⟨a0,a1,by rw[e]⟩
theorem Tt(h:us.length=3):∃a0 a1 a2,us=[a0,a1,a2]:=by
 cases us with
 | nil=>cases h
 | cons a0 t =>
  obtain⟨a1,a2,e⟩:=Nh (xt h);exact⟨a0,a1,a2,by rw[e]⟩
theorem zEE(h:us.length=4):∃a0 a1 a2 a3,us=[a0,a1,a2,a3]:=by
 cases us with
 | nil=>cases h
 | cons a0 t =>
  obtain⟨a1,a2,a3,e⟩:=Tt (xt h);exact⟨a0,a1,a2,a3,by rw[e]⟩
inductive aP(K:wb)(n:Str)(st:w9)(f:we):Prop
 | mk {od an:Option we} {sl:Array (Option wg)} {oc kV dc pm cd ct:wg} (a:vj K wS n=some (some (.ref f))) (l:K.lookup f=some ⟨oc,od,.func (V3 n n (m_ st) (lu st) (aH st) .none kV dc pm an cd ct),sl⟩) (c:QM K cd n=true) (k:Qh K (.ref f)=true):aP K n st f
theorem aP.dn{K:wb}{h:wG}{mg:Str->Option wg}{n:Str}{st:w9}{f:we}{ps:List Str}(A:aP K n st f)(X:K.In h)(GN:h.Ns wS mg)
  (b:∀(kV doc pm:wg)(an:Option we)(cdv ct:wg)(us:List wg),us.length=ps.length->bindArgs (V3 n n (m_ st) (lu st) (aH st) .none kV doc pm an cdv ct) ⟨us,[]⟩=pure (ps.zip us):=by wtm_at "bd"):∃fd,Dn K mg n st ps f fd:=by
 obtain⟨a,l,c,k⟩:=A;have F:=OI (st:=st) l c k;exact⟨_,F,Wj X GN a,F.binds b⟩
set_option hygiene false in
local macro_rules | `(tactic| wtm_at "bd")=>`(tactic| (intro _ _ _ _ _ _ us hl; first | (obtain ⟨_,rfl⟩:=RD hl; rfl) | (obtain ⟨_,_,rfl⟩:=Nh hl; rfl) | (obtain ⟨_,_,_,rfl⟩:=Tt hl; rfl) | (obtain ⟨_,_,_,_,rfl⟩:=zEE hl; rfl)))
set_option maxHeartbeats 8000000 in
theorem all_mk{l:xA}{w:wJ}{K:wb}{h:wG}{mg:Str->Option wg}{fa:we}(X:K.In h)(G:h.Ns wS mg)(hfa:mg "law"=some (.ref fa))
  {f0 f1 f2 f3 f4 f5 f6 f7 f8 f9 f10 f11 f12 f13 f14 f15 f16 f17 f18 f19 f20 f21 f22 f23 f24 f25 f26 f27 f28 f29 f30 f31 f32 f33 f34 f35 f36 f37 f38 f39 f40 f41 f42 f43 f44 f45 f46 f47 f48 f49 f50 f51 f52 f53 f54 f55 f56 f57 f58 f59 f60 f61 f62 f63 f64 f65 f66 f67 f68 f69 f70 f71 f72 f73 f74 f75 f76:we}
  {e0:we}
  {e1:we}
  {g0:we} {gn0:Nat} {gd0:Option we} {gs0:Array (Option wg)} {tk0_0 tk0_1:Tok}
  {g1:we} {gn1:Nat} {gd1:Option we} {gs1:Array (Option wg)} {tk1_0 tk1_1:Tok}
  {g2:we} {gn2:Nat} {gd2:Option we} {gs2:Array (Option wg)} {tk2_0 tk2_1:Tok}
  {tk3:Tok}
  {tk4:Tok}
  {tk5:Tok}
  {tk6:Tok}
  {tk7:Tok}
  {tk8:Tok}
  {g9:we} {gn9:Nat} {gd9:Option we} {gs9:Array (Option wg)} {tk9_0 tk9_1 tk9_2:Tok}
  (a0:aP K "is_whole" Ei f0)
  (a1:aP K "is_whole_from" Fy f1)
  (a2:aP K "greatest_divisor" EM f2)
  (a3:aP K "is_number" Gf f3)
  (a4:aP K "plus" BL f4)
  (a5:aP K "minus" C2 f5)
  (a6:aP K "times" BR f6)
  (a7:aP K "over" FJ f7)
  (a8:aP K "less" Bm f8)
  (a9:aP K "is_factor" DE f9)
  (a10:aP K "is_shift" Fp f10)
  (a11:aP K "make_rule" F7 f11)
  (a12:aP K "is_rule" CF f12)
  (a13:aP K "bend" Cv f13)
  (a14:aP K "pushes" Ds f14)
  (a15:aP K "pushed_by" BA f15)
  (a16:aP K "is_phase" CD f16)
  (a17:aP K "are_phases" CI f17)
  (a18:aP K "swarm_of" El f18)
  (a19:aP K "greatest" Gq f19)
  (a20:aP K "worms_at" Fs f20)
  (a21:aP K "flocks" Fb f21)
  (a22:aP K "at_the_end" DB f22)
  (a23:aP K "glow" Cy f23)
  (a24:aP K "history" Ge f24)
  (a25:aP K "behind" EZ f25)
  (a26:aP K "is_laid" DM f26)
  (a27:aP K "laid" Ff f27)
  (a28:aP K "phases_behind" Fm f28)
  (a29:aP K "stands" Es f29)
  (a30:aP K "round_behind" Bs f30)
  (a31:aP K "round_time" B1 f31)
  (a32:aP K "tops" Ft f32)
  (a33:aP K "is_free" DA f33)
  (a34:aP K "round_map" Fd f34)
  (a35:aP K "still" EG f35)
  (a36:aP K "weighed" Gm f36)
  (a37:aP K "led_on" DW f37)
  (a38:aP K "rounds_behind" Dp f38)
  (a39:aP K "sums_of_places" CW f39)
  (a40:aP K "rounds_time" Dw f40)
  (a41:aP K "draws_freely" BQ f41)
  (a42:aP K "stays_free" FU f42)
  (a43:aP K "free_rounds" Cb f43)
  (a44:aP K "has_stand" EV f44)
  (a45:aP K "is_row" CQ f45)
  (a46:aP K "is_last_row" BX f46)
  (a47:aP K "is_paper" Ep f47)
  (a48:aP K "go_free" Df f48)
  (a49:aP K "behind_rounds" BY f49)
  (a50:aP K "behind_row" CJ f50)
  (a51:aP K "leads_on" Gb f51)
  (a52:aP K "word_of" Dj f52)
  (a53:aP K "lets_by" Bp f53)
  (a54:aP K "glows_to_join" CV f54)
  (a55:aP K "next_row" Cf f55)
  (a56:aP K "paper_of" FE f56)
  (a57:aP K "fate" Bj f57)
  (a58:aP K "_law_cell" BN f58)
  (a59:aP K "_law_pen" FI f59)
  (a60:aP K "_law_draw" C_ f60)
  (a61:aP K "_law_low" Bk f61)
  (a62:aP K "_law_sum" BW f62)
  (a63:aP K "_law_drawn_rule" Cs f63)
  (a64:aP K "_law_drawn_phases" FA f64)
  (a65:aP K "_law_paper" DV f65)
  (a66:aP K "_law_fate_told" BV f66)
  (a67:aP K "_law_says" C5 f67)
  (a68:aP K "_law_rest" Gg f68)
  (a69:aP K "_law_product" Fg f69)
  (a70:aP K "_law_part" CO f70)
  (a71:aP K "_law_pushes" Fh f71)
  (a72:aP K "_law_round" FT f72)
  (a73:aP K "_law_power" Du f73)
  (a74:aP K "_law_rests" E_ f74)
  (a75:aP K "_law_start" DH f75)
  (a76:aP K "law" Ay f76)
  (h0g:vj K wS "NoStand"=some (some (.ref e0)))
  (h0h:vj K wS "TooLong"=some (some (.ref e1)))
  (h0s:vj K wS "abs"=some none)
  (h0t:vj K wS "all"=some none)
  (h0x:vj K wS "any"=some none)
  (h0l:vj K wS "bool"=some none)
  (h0n:vj K wS "dict"=some none)
  (h0f:vj K wS "enumerate"=some none)
  (h0q:vj K wS "int"=some none)
  (h0c:vj K wS "isinstance"=some none)
  (h0r:vj K wS "len"=some none)
  (h0m:vj K wS "list"=some none)
  (h0u:vj K wS "min"=some none)
  (h0j:vj K wS "range"=some none)
  (h0p:vj K wS "set"=some none)
  (h0o:vj K wS "str"=some none)
  (h0w:vj K wS "sum"=some none)
  (h0i:vj K wS "tuple"=some none)
  (h0v:vj K wS "zip"=some none)
  (h0e:qk K e0 rV "ValueError.__new__"=true)
  (h0b:qF K (.ref e0) (.ref e1)=some false)
  (h0d:qk K e1 rV "ValueError.__new__"=true)
  (h0a:qF K (.ref e1) (.ref e1)=some true)
  (q0:vj K wS "NOUGHT"=some (some (.ref g0)))
  (r0:K.lookup g0=some ⟨.type "tuple",gd0,.seq #[.int 0 tk0_0,.int 1 tk0_1] gn0,gs0⟩)
  (q1:vj K wS "ONE"=some (some (.ref g1)))
  (r1:K.lookup g1=some ⟨.type "tuple",gd1,.seq #[.int 1 tk1_0,.int 1 tk1_1] gn1,gs1⟩)
  (q2:vj K wS "GREATEST_FACTOR"=some (some (.ref g2)))
  (r2:K.lookup g2=some ⟨.type "tuple",gd2,.seq #[.int 4 tk2_0,.int 1 tk2_1] gn2,gs2⟩)
  (q3:vj K wS "FACTOR_BOTTOM"=some (some (.int 8 tk3)))
  (q4:vj K wS "SHIFT_BOTTOM"=some (some (.int 12 tk4)))
  (q5:vj K wS "MOST_WORMS"=some (some (.int 8 tk5)))
  (q6:vj K wS "PHASE_BOTTOM"=some (some (.int 60 tk6)))
  (q7:vj K wS "MOST_FREE"=some (some (.int 30 tk7)))
  (q8:vj K wS "MOST_GLOWS"=some (some (.int 40 tk8)))
  (q9:vj K wS "WORDS"=some (some (.ref g9)))
  (r9:K.lookup g9=some ⟨.type "tuple",gd9,.seq #[.str "one" tk9_0,.str "rests" tk9_1,.str "drawn" tk9_2] gn9,gs9⟩)
  : ∃fd:wE,(∀(s:wl)(v:wg),BindsTo s fd ⟨[v],[]⟩ [("_law_script",v)]) /\ ∀base:wG,K.In base->base.Ns wS mg->aG l.prog w K mg base aS 16 fa fd ["_law_script"] (Ai K):=by
 obtain⟨aL,lL,cL,kL⟩:=a76;cases hfa.symm.trans (Wj X G aL);have FL:=OI (st:=Ay) lL cL kL;have D76:Dn K mg _ _ zc _ _:=⟨FL,Wj X G aL,FL.binds (by wtm_at "bd")⟩;have⟨_,D0⟩:=a0.dn (ps:=y9) X G;have⟨_,D1⟩:=a1.dn (ps:=zy) X G;have⟨_,D2⟩:=a2.dn (ps:=zU) X G;have⟨_,D3⟩:=a3.dn (ps:=yK) X G;have⟨_,D4⟩:=a4.dn (ps:=Au) X G;have⟨_,D5⟩:=a5.dn (ps:=yx) X G;have⟨_,D6⟩:=a6.dn (ps:=yN) X G;have⟨_,D7⟩:=a7.dn (ps:=sV) X G;have⟨_,D8⟩:=a8.dn (ps:=zV) X G;have⟨_,D9⟩:=a9.dn (ps:=zA) X G;have⟨_,D10⟩:=a10.dn (ps:=yG) X G;have⟨_,D11⟩:=a11.dn (ps:=yO) X G;have⟨_,D12⟩:=a12.dn (ps:=yw) X G;have⟨_,D13⟩:=a13.dn (ps:=sZ) X G;have⟨_,D14⟩:=a14.dn (ps:=w_) X G;have⟨_,D15⟩:=a15.dn (ps:=zR) X G;have⟨_,D16⟩:=a16.dn (ps:=zD) X G;have⟨_,D17⟩:=a17.dn (ps:=yL) X G;have⟨_,D18⟩:=a18.dn (ps:=AD) X G;have⟨_,D19⟩:=a19.dn (ps:=zY) X G;have⟨_,D20⟩:=a20.dn (ps:=sM) X G;have⟨_,D21⟩:=a21.dn (ps:=zF) X G;have⟨_,D22⟩:=a22.dn (ps:=yy) X G;have⟨_,D23⟩:=a23.dn (ps:=tf) X G;have⟨_,D24⟩:=a24.dn (ps:=sT) X G;have⟨_,D25⟩:=a25.dn (ps:=yp) X G;have⟨_,D26⟩:=a26.dn (ps:=zP) X G;have⟨_,D27⟩:=a27.dn (ps:=zN) X G;have⟨_,D28⟩:=a28.dn (ps:=Ak) X G;have⟨_,D29⟩:=a29.dn (ps:=tD) X G;have⟨_,D30⟩:=a30.dn (ps:=Ao) X G;have⟨_,D31⟩:=a31.dn (ps:=yJ) X G;have⟨_,D32⟩:=a32.dn (ps:=yb) X G;have⟨_,D33⟩:=a33.dn (ps:=sP) X G;have⟨_,D34⟩:=a34.dn (ps:=yZ) X G;have⟨_,D35⟩:=a35.dn (ps:=yX) X G;have⟨_,D36⟩:=a36.dn (ps:=tK) X G;have⟨_,D37⟩:=a37.dn (ps:=z7) X G;have⟨_,D38⟩:=a38.dn (ps:=Ac) X G
 have⟨_,D39⟩:=a39.dn (ps:=Ar) X G;have⟨_,D40⟩:=a40.dn (ps:=tW) X G;have⟨_,D41⟩:=a41.dn (ps:=AG) X G;have⟨_,D42⟩:=a42.dn (ps:=zj) X G;have⟨_,D43⟩:=a43.dn (ps:=AB) X G;have⟨_,D44⟩:=a44.dn (ps:=yn) X G;have⟨_,D45⟩:=a45.dn (ps:=zM) X G;have⟨_,D46⟩:=a46.dn (ps:=sJ) X G;have⟨_,D47⟩:=a47.dn (ps:=sW) X G;have⟨_,D48⟩:=a48.dn (ps:=tI) X G;have⟨_,D49⟩:=a49.dn (ps:=zf) X G;have⟨_,D50⟩:=a50.dn (ps:=ye) X G;have⟨_,D51⟩:=a51.dn (ps:=zZ) X G;have⟨_,D52⟩:=a52.dn (ps:=yV) X G;have⟨_,D53⟩:=a53.dn (ps:=v_) X G;have⟨_,D54⟩:=a54.dn (ps:=zg) X G;have⟨_,D55⟩:=a55.dn (ps:=yo) X G;have⟨_,D56⟩:=a56.dn (ps:=AE) X G;have⟨_,D57⟩:=a57.dn (ps:=zh) X G;have⟨_,D58⟩:=a58.dn (ps:=yF) X G;have⟨_,D59⟩:=a59.dn (ps:=z_) X G;have⟨_,D60⟩:=a60.dn (ps:=yg) X G;have⟨_,D61⟩:=a61.dn (ps:=s_) X G;have⟨_,D62⟩:=a62.dn (ps:=yl) X G;have⟨_,D63⟩:=a63.dn (ps:=yR) X G;have⟨_,D64⟩:=a64.dn (ps:=tN) X G;have⟨_,D65⟩:=a65.dn (ps:=sS) X G;have⟨_,D66⟩:=a66.dn (ps:=tF) X G;have⟨_,D67⟩:=a67.dn (ps:=sU) X G;have⟨_,D68⟩:=a68.dn (ps:=tH) X G;have⟨_,D69⟩:=a69.dn (ps:=sN) X G;have⟨_,D70⟩:=a70.dn (ps:=Aa) X G;have⟨_,D71⟩:=a71.dn (ps:=Ap) X G;have⟨_,D72⟩:=a72.dn (ps:=zd) X G;have⟨_,D73⟩:=a73.dn (ps:=y7) X G;have⟨_,D74⟩:=a74.dn (ps:=yh) X G;have⟨_,D75⟩:=a75.dn (ps:=tR) X G
 have T:Txt K mg ⟨f0,_,f1,_,f2,_,f3,_,f4,_,f5,_,f6,_,f7,_,f8,_,f9,_,f10,_,f11,_,f12,_,f13,_,f14,_,f15,_,f16,_,f17,_,f18,_,f19,_,f20,_,f21,_,f22,_,f23,_,f24,_,f25,_,f26,_,f27,_,f28,_,f29,_,f30,_,f31,_,f32,_,f33,_,f34,_,f35,_,f36,_,f37,_,f38,_,f39,_,f40,_,f41,_,f42,_,f43,_,f44,_,f45,_,f46,_,f47,_,f48,_,f49,_,f50,_,f51,_,f52,_,f53,_,f54,_,f55,_,f56,_,f57,_,f58,_,f59,_,f60,_,f61,_,f62,_,f63,_,f64,_,f65,_,f66,_,f67,_,f68,_,f69,_,f70,_,f71,_,f72,_,f73,_,f74,_,f75,_,_,_,e0,e1,g0,g1,g2,g9⟩:=⟨D0,
  D1,
  D2,
  D3,
  D4,
  D5,
  D6,
  D7,
  D8,
  D9,
  D10,
  D11,
  D12,
  D13,
  D14,
  D15,
  D16,
  D17,
  D18,
  D19,
  D20,
  D21,
  D22,
  D23,
  D24,
  D25,
  D26,
  D27,
  D28,
  D29,
  D30,
  D31,
  D32,
  D33,
  D34,
  D35,
  D36,
  D37,
  D38,
  D39,
  D40,
  D41,
  D42,
  D43,
  D44,
  D45,
  D46,
  D47,
  D48,
  D49,
  D50,
  D51,
  D52,
  D53,
  D54,
  D55,
  D56,
  D57,
  D58,
  D59,
  D60,
  D61,
  D62,
  D63,
  D64,
  D65,
  D66,
  D67,
  D68,
  D69,
  D70,
  D71,
  D72,
  D73,
  D74,
  D75,
  D76,
  vy X G h0s,
  vy X G h0t,
  vy X G h0x,
  vy X G h0l,
  vy X G h0n,
  vy X G h0f,
  vy X G h0q,
  vy X G h0c,
  vy X G h0r,
  vy X G h0m,
  vy X G h0u,
  vy X G h0j,
  vy X G h0p,
  vy X G h0o,
  vy X G h0w,
  vy X G h0i,
  vy X G h0v,
  Wj X G h0g,
  Wj X G h0h,
  h0e,
  h0b,
  h0d,
  h0a,
  Wj X G q0,
  λH=>.inr ⟨_,_,_,r0,rfl,rfl,by simp;decide,(.cons ⟨_,rfl⟩ (.cons ⟨_,rfl⟩ .nil))⟩,
  Wj X G q1,
  λH=>.inr ⟨_,_,_,r1,rfl,rfl,by simp;decide,(.cons ⟨_,rfl⟩ (.cons ⟨_,rfl⟩ .nil))⟩,
  Wj X G q2,
  λH=>.inr ⟨_,_,_,r2,rfl,rfl,by simp;decide,(.cons ⟨_,rfl⟩ (.cons ⟨_,rfl⟩ .nil))⟩,
  ⟨_,Wj X G q3⟩,
  ⟨_,Wj X G q4⟩,
  ⟨_,Wj X G q5⟩,
  ⟨_,Wj X G q6⟩,
  ⟨_,Wj X G q7⟩,
  ⟨_,Wj X G q8⟩,
  Wj X G q9,
  λH=>.inr ⟨_,_,_,r9,rfl,rfl,by simp;decide,(.cons ⟨_,rfl⟩ (.cons ⟨_,rfl⟩ (.cons ⟨_,rfl⟩ .nil)))⟩⟩
 exact⟨_,λs v=>.of_eq rfl,λbase _ _=>zC4 T⟩
theorem walk{l:xA}{q:wI}{loose:List Str}{XP:(Str->Option wg)->wG->Prop}{YP:wJ->wG->Prop}{d:DefRec}{K:Params->wb}(hn:l.most=some 63)(hdf:d.params.defaults=[])
  (hY:∀(w:wJ)(h:wG),YP w h->(K w.params).In h)
  (F:∀(w:wJ)(mg:Str->Option wg)(fa:we)(h:wG),(K w.params).In h->h.Ns wS mg->mg d.name=some (.ref fa) ->
   ∃fd:wE,(∀(s:wl)(u:wg),BindsTo s fd ⟨[u],[]⟩ [("_law_script",u)]) /\ ∀base:wG,(K w.params).In base->base.Ns wS mg->aG l.prog w (K w.params) mg base aS 16 fa fd ["_law_script"] (Ai (K w.params))) :
  Ue q loose XP YP l.row.toRowW d [] (λf vs=>uH f vs) :=
 L2.YZ (n:=63) (k:=16) (x:="_law_script") (CX:=λ_=>aS) (sp:=λw=>Ai (K w.params)) hn (by decide) hdf ⟨rfl,by decide,by decide,rfl⟩ hY F (λ_ H a ns hl hO hS=>⟨.ref a,rfl,a,ns,rfl,zCq hO hS,hl,λ_=>rfl⟩) λ_ _ _ _ _ z=>z
end G
local macro_rules | `(tactic| wtm_at "fk")=>`(tactic| (refine' G.aP.mk ?a ?l ?c ?k; (case a=>k_is); (case l=>k_is); (case c=>k_is); (case k=>k_is)))
open PySem PySem.W PyProof.Rows
set_option maxRecDepth 100000 in
set_option maxHeartbeats 0 in
theorem PySem.Challenge.cw_glowflock_k37_whole_told_on_the_way_holds : PySem.Challenge.rw_glowflock_k37_whole_told_on_the_way.Holds := by
 w_on; refine GH.head ?_
 k_fill
 refine G.walk (l:=PySem.Challenge.rw_glowflock_k37_whole_told_on_the_way) rfl rfl (fun w h Y=>PySem.W.kIn_of Y) ?F
 case F =>
   intro w mg fa h KX GG hmg;refine' G.all_mk KX GG hmg ?a0 ?a1 ?a2 ?a3 ?a4 ?a5 ?a6 ?a7 ?a8 ?a9 ?a10 ?a11 ?a12 ?a13 ?a14 ?a15 ?a16 ?a17 ?a18 ?a19 ?a20 ?a21 ?a22 ?a23 ?a24 ?a25 ?a26 ?a27 ?a28 ?a29 ?a30 ?a31 ?a32 ?a33 ?a34 ?a35 ?a36 ?a37 ?a38 ?a39 ?a40 ?a41 ?a42 ?a43 ?a44 ?a45 ?a46 ?a47 ?a48 ?a49 ?a50 ?a51 ?a52 ?a53 ?a54 ?a55 ?a56 ?a57 ?a58 ?a59 ?a60 ?a61 ?a62 ?a63 ?a64 ?a65 ?a66 ?a67 ?a68 ?a69 ?a70 ?a71 ?a72 ?a73 ?a74 ?a75 ?a76 ?h0g ?h0h ?h0s ?h0t ?h0x ?h0l ?h0n ?h0f ?h0q ?h0c ?h0r ?h0m ?h0u ?h0j ?h0p ?h0o ?h0w ?h0i ?h0v ?h0e ?h0b ?h0d ?h0a ?q0 ?r0 ?q1 ?r1 ?q2 ?r2 ?q3 ?q4 ?q5 ?q6 ?q7 ?q8 ?q9 ?r9
   (case a0=>wtm_at "fk")
   (case a1=>wtm_at "fk")
   (case a2=>wtm_at "fk")
   (case a3=>wtm_at "fk")
   (case a4=>wtm_at "fk")
   (case a5=>wtm_at "fk")
   (case a6=>wtm_at "fk")
   (case a7=>wtm_at "fk")
   (case a8=>wtm_at "fk")
   (case a9=>wtm_at "fk")
   (case a10=>wtm_at "fk")
   (case a11=>wtm_at "fk")
   (case a12=>wtm_at "fk")
   (case a13=>wtm_at "fk")
   (case a14=>wtm_at "fk")
   (case a15=>wtm_at "fk")
   (case a16=>wtm_at "fk")
   (case a17=>wtm_at "fk")
   (case a18=>wtm_at "fk")
   (case a19=>wtm_at "fk")
   (case a20=>wtm_at "fk")
   (case a21=>wtm_at "fk")
   (case a22=>wtm_at "fk")
   (case a23=>wtm_at "fk")
   (case a24=>wtm_at "fk")
   (case a25=>wtm_at "fk")
   (case a26=>wtm_at "fk")
   (case a27=>wtm_at "fk")
   (case a28=>wtm_at "fk")
   (case a29=>wtm_at "fk")
   (case a30=>wtm_at "fk")
   (case a31=>wtm_at "fk")
   (case a32=>wtm_at "fk")
   (case a33=>wtm_at "fk")
   (case a34=>wtm_at "fk")
   (case a35=>wtm_at "fk")
   (case a36=>wtm_at "fk")
   (case a37=>wtm_at "fk")
   (case a38=>wtm_at "fk")
   (case a39=>wtm_at "fk")
   (case a40=>wtm_at "fk")
   (case a41=>wtm_at "fk")
   (case a42=>wtm_at "fk")
   (case a43=>wtm_at "fk")
   (case a44=>wtm_at "fk")
   (case a45=>wtm_at "fk")
   (case a46=>wtm_at "fk")
   (case a47=>wtm_at "fk")
   (case a48=>wtm_at "fk")
   (case a49=>wtm_at "fk")
   (case a50=>wtm_at "fk")
   (case a51=>wtm_at "fk")
   (case a52=>wtm_at "fk")
   (case a53=>wtm_at "fk")
   (case a54=>wtm_at "fk")
   (case a55=>wtm_at "fk")
   (case a56=>wtm_at "fk")
   (case a57=>wtm_at "fk")
   (case a58=>wtm_at "fk")
   (case a59=>wtm_at "fk")
   (case a60=>wtm_at "fk")
   (case a61=>wtm_at "fk")
   (case a62=>wtm_at "fk")
   (case a63=>wtm_at "fk")
   (case a64=>wtm_at "fk")
   (case a65=>wtm_at "fk")
   (case a66=>wtm_at "fk")
   (case a67=>wtm_at "fk")
   (case a68=>wtm_at "fk")
   (case a69=>wtm_at "fk")
   (case a70=>wtm_at "fk")
   (case a71=>wtm_at "fk")
   (case a72=>wtm_at "fk")
   (case a73=>wtm_at "fk")
   (case a74=>wtm_at "fk")
   (case a75=>wtm_at "fk")
   (case a76=>wtm_at "fk")
   (case h0g=>k_is)
   (case h0h=>k_is)
   (case h0s=>k_is)
   (case h0t=>k_is)
   (case h0x=>k_is)
   (case h0l=>k_is)
   (case h0n=>k_is)
   (case h0f=>k_is)
   (case h0q=>k_is)
   (case h0c=>k_is)
   (case h0r=>k_is)
   (case h0m=>k_is)
   (case h0u=>k_is)
   (case h0j=>k_is)
   (case h0p=>k_is)
   (case h0o=>k_is)
   (case h0w=>k_is)
   (case h0i=>k_is)
   (case h0v=>k_is)
   (case h0e=>k_exc)
   (case h0b=>kts_exm)
   (case h0d=>k_exc)
   (case h0a=>kts_exm)
   (case q0=>k_is)
   (case r0=>k_is)
   (case q1=>k_is)
   (case r1=>k_is)
   (case q2=>k_is)
   (case r2=>k_is)
   (case q3=>k_is)
   (case q4=>k_is)
   (case q5=>k_is)
   (case q6=>k_is)
   (case q7=>k_is)
   (case q8=>k_is)
   (case q9=>k_is)
   (case r9=>k_is)
#print axioms PySem.Challenge.cw_glowflock_k37_whole_told_on_the_way_holds
