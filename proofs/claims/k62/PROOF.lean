import PyProof.Rows.All
import KE.KDictOf
import KE.KFromBytes
import KE.KItemsList
import KE.KSortTup
import KE.KTupSum
import KE.RegKIsAll
import KE.RegKTryMore
import Lean
import PySem.Challenge.RW_glowflock_k62_whole_ends_by_bend
set_option compiler.extract_closed false
set_option Elab.async false
set_option linter.all false
set_option maxRecDepth 100000
open Array renaming append_assoc->XX,forIn_toList->VL,getD->Up,getD_eq_getD_getElem?->vF,getElem?_eq_getElem->Wd,getElem?_eq_none->VH,getElem?_eq_some_iff->W8,getElem?_toList->WL,length_toList->wI,replicate->Uq,size_map->UC,toList->UR
open Bool renaming and_eq_true->w9,and_eq_true_iff->Xv,and_false->Q8,and_true->XI,beq_eq_decide_eq->QP,eq_iff_iff->vL,false_and->Vg,false_eq_true->w8,false_ne_true->vI,noConfusion->uZ,not_eq_true->u3,not_eq_true'->Vv,not_false->Q4,not_true->WK,or_true->xO,true_and->qV,true_or->XZ
open Classical renaming byContradiction->qb,not_not->Vw
open False renaming elim->WB
open Int renaming dvd_mul_left->uS,dvd_mul_right->V2,dvd_trans->qS,ediv_eq_of_eq_mul_right->xg,ediv_le_self->uT,ediv_nonneg->Uh,emod_lt_of_pos->Qt,emod_nonneg->QY,fdiv_eq_ediv_of_nonneg->qT,gcd->vy,gcd_comm->X2,gcd_dvd_left->qN,gcd_dvd_right->QD,gcd_pos_of_ne_zero_right->qJ,gcd_zero_right->xm,mul_assoc->qt,mul_ediv_cancel_left->qk,mul_ne_zero->xW,mul_neg->uG,mul_one->Xa,mul_pos->vV,natAbs_ediv_le_natAbs->xD,natAbs_mul->Xl,natCast_ediv->ql,natCast_mul->VQ,neg_dvd->uF,neg_one_mul->Ue,pow_add->uN,pow_ne_zero->qx,pow_pos->uH,pow_succ->QW,pow_zero->uf,sign_eq_neg_one_of_neg->xt,sign_eq_one_of_pos->Xc,toNat->xY,toNat_natCast->wY
open List renaming Nodup->Us,Pairwise->xr,all_cons->XF,all_eq_true->WW,all_map->X8,any_cons->W7,any_eq_true->u7,append_assoc->V1,append_nil->vP,cons_append->QL,dropLast_concat_getLast->Q5,dropLast_eq_take->Xn,drop_eq_getElem_cons->Qe,drop_eq_nil_of_le->Xd,drop_succ_cons->Q1,drop_zero->Xo,eq_nil_of_length_eq_zero->Vy,ext_getElem->WV,filterMap_cons->Qa,filter_append->Vl,filter_congr->vH,filter_cons->WT,filter_eq_nil_iff->Xf,filter_eq_self->XM,filter_filter->VJ,find?_cons->Vr,find?_some->Ut,flatten_cons->um,foldl_append->uj,forIn_cons->Qg,forIn_nil->Q7,getD_eq_getElem?_getD->wa,getElem?_append_left->Wc,getElem?_append_right->vK,getElem?_cons_succ->QC,getElem?_cons_zero->xT,getElem?_drop->xj,getElem?_eq_getElem->wc,getElem?_eq_none->wQ,getElem?_eq_some_iff->WJ,getElem?_map->wx,getElem?_range->Wm,getElem?_replicate->xQ,getElem?_set->V0,getElem?_set_ne->QR,getElem?_set_self->x8,getElem?_take_of_lt->xH,getElem?_toArray->Xr,getElem_drop->ul,getElem_map->Vc,getElem_mem->vY,getElem_of_mem->w6,getElem_take->uk,length->Xb,length_append->wT,length_cons->vx,length_drop->vW,length_dropLast->XE,length_eq_zero_iff->Qz,length_erase_of_mem->xM,length_filter_le->Wk,length_map->wm,length_nil->QV,length_pos_iff->VB,length_pos_of_mem->VG,length_range->ve,length_replicate->Vh,length_set->VP,length_singleton->Wi,length_tail->uU,length_take->Wu,length_zipWith->XN,lookup_cons->qQ,map_append->vQ,map_congr_left->qp,map_cons->wV,map_drop->XG,map_dropLast->uD,map_map->WD,map_nil->Qk,map_take->UI,mem_append->Ws,mem_append_left->Wp,mem_append_right->Wa,mem_cons->wK,mem_cons_of_mem->wA,mem_cons_self->wD,mem_erase_of_ne->XD,mem_filter->vj,mem_filterMap->Qj,mem_iff_getElem->XA,mem_iff_getElem?->QQ,mem_map->wU,mem_of_find?_eq_some->xG,mem_of_getElem?->Xw,mem_or_eq_of_mem_set->xE,mem_range->wF,mem_singleton->vi,nil_append->Qf,nodup_cons->W2,nodup_range->WU,not_mem_nil->Vd,of_mem_zip->QU,pairwise_append->qO,pairwise_cons->Vk,pairwise_iff_getElem->Wq,pairwise_map->V3,pairwise_singleton->xR,range->wq,range_succ->xZ,replicate->Q2,set_cons_succ->ud,set_cons_zero->ue,size_toArray->wS,sum_cons->Vx,tail_cons->Uy,take_add_one->qF,take_append_drop->Xm,take_length->Wv,take_of_length_le->W5,take_sublist->ug,take_subset->uV,take_succ_cons->XR,take_zero->UE,zipIdx_cons->u6,zipIdx_nil->Um
open List.Pairwise renaming drop->U2,imp_of_mem->UV
open List.cons renaming injEq->Ul
open Nat renaming add_assoc->VW,add_le_add_left->qq,add_mul->uJ,add_sub_cancel->Qo,add_zero->X3,div_div_eq_div_mul->Xj,eq_or_lt_of_le->Vm,gcd_dvd_right->ui,le_add_right->WX,le_antisymm->Uj,le_max_left->Uf,le_max_right->uR,le_of_dvd->UJ,le_of_lt->qg,le_of_lt_succ->V5,le_refl->wo,le_trans->Wb,lt_irrefl->VU,lt_of_le_of_lt->WC,lt_of_lt_of_le->wW,lt_or_ge->wB,lt_succ_of_lt->WS,lt_succ_self->Ua,lt_trans->X1,lt_trichotomy->W1,lt_two_pow_self->XT,min_le_right->xI,mod_eq_of_lt->QM,mod_lt->Qw,mod_mul->Xi,mul_add->Xe,mul_assoc->Va,mul_comm->Qr,mul_le_mul->qd,mul_le_mul_left->XS,mul_le_mul_right->Wr,mul_left_comm->uw,mul_mod->uL,mul_succ->Qn,ne_of_gt->vn,ne_of_lt->wL,not_lt_zero->WN,one_mul->uK,pow_add->xb,pow_le_pow_right->Xy,pow_succ->W4,sub_self->Vt,succ_mul->Q0,succ_ne_self->u5,succ_pos->QX,two_pow_pos->Wt,zero_le->Wy,zero_mul->xN
open Nat.succ renaming inj->xP
open Ne renaming symm->WI
open Option renaming bind_some->u4,getD_none->uQ,getD_some->qP,isSome->UL,isSome_iff_exists->Vq,isSome_map->xz,map->U0,map_eq_some_iff->VE,map_some->qw
open Option.some renaming inj->wN,injEq->QE
open Prod renaming ext->VT,fst->uO,snd->uP
open PyProof.Rows renaming callWith_type1->vE,slot_tuple_getitem->qr
open PyProof.Rows.F renaming entry_set_update_loop->Qs,plain_set_update_loop->VM
open PyProof.Rows.IsTup renaming new->QN
open PySem renaming Addr->wg,Around->w5,FuncData->wM,Heap->wJ,IsPair->WM,IsTupleKey->vG,NameKind->Vf,Program->wE,PyData->wG,PylongRoom->uY,SetTable->WH,Shared->wl,Stmt->vo,Value->wf,assignEach->VI,backTo->VN,behindInMarks->VY,binaryOp->Ve,bootBuiltins->vJ,call->Ud,codeAny_builtin->Vu,codeAny_mono->VO,compareOp->vU,isSubtype_stop->qf,letOwnedTupleGo->Qi,mainGlobals->wP,mem_of_lookup->VA,ofAClassStatement->qH,pyNext->Vn,rawInt->V6,sizeLine->wZ,sizeLine_eq->qY,sliceBounds->qZ,starEach->wX,sysModules->Vb,tupleKeyHash->vk,wpAny->wt,wpAny_Call_Name_kw->qB,wpAny_attempt->WP,wpAny_bind->we,wpAny_call_entry->vZ,wpAny_comprehension_free->Qu,wpAny_execs_nil->Qh,wpAny_field->vt,wpAny_forIn_list->qo,wpAny_holding->vD,wpAny_isInstance->WY,wpAny_mono->WF,wpAny_newObj_type->WA,wpAny_passesOwn->VS,wpAny_pure->wp,wpAny_pyIter_list->V7,wpAny_pyIter_tuple->Vo,wpAny_rule->qA,wpAny_seqItems->Wf,wpAny_setField->VD,wpAny_setField_rec->Vp,wpAny_setState_of->V8,wpAny_specialOf->qC,wpAny_standAt->qW,wpAny_truthy_bool->Wo
open PySem.Around renaming frames_deeper->QT,under->US,under_plain->uc,under_plainId->qc
open PySem.Builtin.Dict renaming pairItems->Xk,updateFrom->xU
open PySem.Builtin.Frozenset renaming newClass->UO,updateFrom->Q9
open PySem.Builtin.Int renaming intBits->XO
open PySem.Builtin.Range renaming rangeSize->UW
open PySem.Builtin.Slice renaming sliceAdjust->Qc,sliceApplied->xp,sliceFields->UQ,slicePartIndex->Uw,slicePlaces->V9
open PySem.Builtin.SmallTypes renaming nextOf->vN,ownedTupleHandOut->Qq,ownedTupleIsFree->vM
open PySem.Builtin.Tuple renaming tupleExact->qj,tupleHashOf->We,tupleItemsOf->xq
open PySem.Calls renaming Name_function_global->xo,evalArgs_plain->Xx,spliced_cons->xc,spliced_nil->xy
open PySem.Challenge renaming pw_glowflock_k62_whole_ends_by_bend->VZ,rw_glowflock_k62_whole_ends_by_bend->wu
open PySem.Code renaming isGuard->UT,quiet_builtin->ub
open PySem.EntryCells renaming newEntry->XQ
open PySem.F renaming args_enumerate_next_1->xS,args_tuple_add_2->Ql,args_tuple_iterator_next_1->Q6,args_zip_next_1->V4,attrBase_ValueError->xk,called_set->Ww,entry_enumerate_next->Xh,entry_set_init->u9,entry_tuple_add->Qy,entry_tuple_iterator_next->xl,entry_type_call->uB,entry_zip_next->qm,excBase_ValueError->XB,plainAttrs_list->Wn,plain_set_new->Ur,slot_enumerate_next->qM,slot_list_append->Wg,slot_tuple_add->QJ,slot_tuple_eq->x6,slot_tuple_hash->qG,slot_tuple_iterator_next->VX,slot_zip_getattribute->qE,slot_zip_next->WE,typeCall_set_1->u8,type_list_append->Wh
open PySem.Heap renaming ExtBut->Xg,IsTuple->X9,MadeExcOf->Uz,SameBut->vv,get?_push_ne->xA,get?_push_of_some->wn,get?_push_size->wO,get?_update_other->WG,get?_update_self->Vi,lt_size->wz,size_push->W0,update->qD
open PySem.Heap.IsSliceOf renaming new->U1
open PySem.Heap.SameBut renaming refl->uA,update->Qb
open PySem.IntMulOk renaming of_left->Ub,of_right->uC
open PySem.IsRange renaming new->UY
open PySem.Obj renaming cls_mapFields->uv,data_mapFields->qy,isFreed_of_fields->qK,mapFields->qU,mapSeq->xC,putSet->xF
open PySem.Paired renaming length->xn,snoc->UZ
open PySem.PassesOwn renaming leaving->uE,never->vC
open PySem.PyData renaming canLay0->vA,canLayAll0->vS,depth->WO,depthAll->Wl,eqv->wR,eqvAll->W9,strOk->UU
open PySem.SeqAt renaming canLay_of_shaped->VC,shaped->vR
open PySem.SeqAt.EqAt renaming int_str->XU,str_int->XV
open PySem.SetTable renaming below->WR,fill->UN,grown->Xu,has->ua,insertAt->Wz,laid->UM,layClean->uz,sizeAbove->qz,turns->Xs
open PySem.SetTable.below renaming go->QF
open PySem.SetTable.layClean renaming free->W6
open PySem.SetTable.probe renaming go->xB
open PySem.SetTable.sizeAbove renaming go->Wx
open PySem.Shared renaming TypeIs->UP,heap->uI
open PySem.Str renaming ofString->vT,ofString->wH
open PySem.Value renaming isInt->QG,isStrOf->UF
open PySem.Value.type renaming inj->UD
open PySem.W renaming Frag->wb,InstAt->Xq,Looks->xw,OpenLaw->xV,WalkO->UG,callWith_K->xf,cellsFrom_some->QI,clsIn->XH,codeIn->Q3,codeRec_of->XY,excIn->qu,exmOne->qL,findIn->Xp,findObj->Uk,fnOf->qh,hideAll->Uc,hideAll_get->XJ,keepIn->qI,kia_one->W3,kia_tup->VR,kitAny->UB,kitOne->wC,kitx_bool->ur,kitx_dict->uu,kitx_int->uW,kitx_list->ut,kitx_none->uo,kitx_str->uX,kitx_tuple->X6,looks_findIn->XC,methodObj->xx,mg_none_of->vB,mg_of->vO,mroIn->UK,nsIn->vd,of_hideAll->XW
open PySem.W.Looks renaming ld->U3
open PySem.Walks renaming list->Uo
open Rat renaming add_zero->xK,den_divInt->Ux,den_intCast->Uv,divInt->wy,divInt_nonneg->uh,divInt_ofNat->xJ,div_def->uM,div_mul_cancel->Vj,ext->UA,intCast_add->Qd,intCast_eq_zero_iff->Vz,intCast_le_intCast->WQ,intCast_lt_intCast->VF,intCast_mul->Wj,intCast_pos->Ug,le_antisymm->Ui,le_iff->Xz,le_of_lt->vX,le_of_mul_le_mul_right->xu,le_refl->WZ,le_trans->xL,lt_of_le_of_ne->Qp,lt_of_mul_lt_mul_right->qR,mul_assoc->UH,mul_comm->QZ,mul_eq_zero->xX,mul_lt_mul_of_pos_left->xv,mul_lt_mul_of_pos_right->xi,mul_nonneg->Qx,mul_pos->qX,not_lt->qa,num_divInt_den->xh,num_intCast->Uu,num_nonneg->Qv,one_mul->QK,pow_succ->Vs,pow_zero->Qm
open Sum.inl renaming inj->UX
namespace GH
open PySem PySem.W PyProof.Rows
noncomputable def AA (p:wE) (w:World) (m:Nat) (an:Option wf) (N:Nat) (s0:wl):Option wl :=
 Option.bind (Fast.tw14082659384304107361 Fast.tw14364793385576792824 p w m an N s0 (topStub p)) λs1=>match staticsOk (Fast.tw5923862056798008813 p.main.body) s0.heap s1.heap&&namesBound p s1.heap&&gensDone s1&&laidKept s0.heap s1.heap with | true=>some s1 | false=>none
noncomputable def fW (w:World) (os:OsState):wl:=⟨boot_heap w.params,#[],boot_drawn,boot_toks,os⟩
theorem zvd{p q:wE}{loose:List Str}{Xt:wl->Bool}{A:Type}{Yf:wl->A}{Ya:World->A}{N:Nat}(e:opening p=plainProg p.main.scope.names)(hN:Nat.ble 600 N=true)(f:∀s,fenceModules? p s=some s){m:Nat}{an:Option wf}
  (size:∀w:World,((boot_heap w.params).isNs wP,(boot_heap w.params).objs.size,(boot_heap w.params).nsMap wP "__annotations__")=(true,m,an))
  (h:∀w:World,(λos=>(AA p w m an N (fW w os)).map (λs=>(Fast.tw4187177175401517315 q loose (Fast.tw5923862056798008813 p.main.body) Xt true s,Yf s)))=λ_=>some (openGood q loose,Ya w)):LeftO p q loose Xt Yf Ya N:=λw=>by
 obtain⟨⟨h',gs,d,k,os⟩,e',e2⟩:=VE.mp (boot_open e hN f (w:=w));obtain⟨rfl,rfl,rfl,rfl⟩:h'=boot_heap w.params/\gs = #[]/\d=boot_drawn/\k=boot_toks:=by simpa using e2
 obtain⟨z1,z2,z3⟩:_/\_/\_:=by simpa only[Prod.mk.injEq] using size w
 have r:=congrFun (h w) os;unfold openEnds;rw[e']
 show U0 _ (topFrom treeTable p w N _)=_
 rw[<- r];unfold topFrom AA fW;rw[<- Fast.te14082659384304107361,<- Fast.te14364793385576792824,<- Fast.te5923862056798008813,<- Fast.te4187177175401517315];dsimp only;rw[z1,z2,z3]
 rfl
noncomputable def jL (p:wE) (w:World) (m:Nat) (an:Option wf) (N:Nat) (s0:wl):Option wl:=Fast.tw14082659384304107361 Fast.tw14364793385576792824 p w m an N s0 (topStub p)
noncomputable def yx (p:wE) (w:World) (os:OsState) (s1:wl):Bool:=staticsOk (Fast.tw5923862056798008813 p.main.body) (fW w os).heap s1.heap&&namesBound p s1.heap&&gensDone s1&&laidKept (fW w os).heap s1.heap
theorem Yu{p q:wE}{loose:List Str}{Xt:wl->Bool}{A:Type}{Yf:wl->A}{Ya:World->A}{N:Nat}(e:opening p=plainProg p.main.scope.names)(hN:Nat.ble 600 N=true)(f:∀s,fenceModules? p s=some s){m:Nat}{an:Option wf}
  (size:∀w:World,((boot_heap w.params).isNs wP,(boot_heap w.params).objs.size,(boot_heap w.params).nsMap wP "__annotations__")=(true,m,an)) (hp:drecsOf q=[]) (he:plainsOf q (looseW q loose)=[]) (hd:dclssOf q loose=[])
  (hB0:∀w:World,(λos=>(jL p w m an N (fW w os)).map (λs=>(yx p w os s,(Fast.tw4187177175401517315 q loose (Fast.tw5923862056798008813 p.main.body) Xt true s).2.2.2.1)))=λ_=>some (true,true))
  (hB1:∀w:World,(λos=>(jL p w m an N (fW w os)).map (λs=>((Fast.tw4187177175401517315 q loose (Fast.tw5923862056798008813 p.main.body) Xt true s).1,(Fast.tw4187177175401517315 q loose (Fast.tw5923862056798008813 p.main.body) Xt true s).2.1)))=λ_=>some (expectedOf q,bltViewBooted))
  (hB2:∀w:World,(λos=>(jL p w m an N (fW w os)).map (λs=>(Fast.tw4187177175401517315 q loose (Fast.tw5923862056798008813 p.main.body) Xt true s).2.2.1))=λ_=>some true)
  (hB3:∀w:World,(λos=>(jL p w m an N (fW w os)).map (λs=>(Fast.tw4187177175401517315 q loose (Fast.tw5923862056798008813 p.main.body) Xt true s).2.2.2.2.2.2.2))=λ_=>some (wideGood q,clsGoodW q loose))
  (hC:∀w:World,(λos=>(jL p w m an N (fW w os)).map (λs=>Yf s))=λ_=>some (Ya w)):LeftO p q loose Xt Yf Ya N:=by
 refine zvd e hN f size λw=>?_
 funext os
 have h1:=congrFun (hB0 w) os;obtain⟨s1,e1,e2⟩:=VE.mp h1;have g1:=congrFun (hB1 w) os;have g2:=congrFun (hB2 w) os;have g3:=congrFun (hB3 w) os;have k:=congrFun (hC w) os;rw[e1]at g1 g2 g3 k;have g1:=wN g1;have g2:=wN g2;have g3:=wN g3;have a0:=congrArg uO e2;have b0:=congrArg uP e2;have a1:=congrArg uO g1;have b1:=congrArg uP g1
 have gp:(Fast.tw4187177175401517315 q loose (Fast.tw5923862056798008813 p.main.body) Xt true s1).2.2.2.2.1=pinGoodD (drecsOf q):=by
  rw[<- Fast.te4187177175401517315]
  show pinSeenD q (drecsOf q) s1=_
  rw[hp]
  rfl
 have ge:(Fast.tw4187177175401517315 q loose (Fast.tw5923862056798008813 p.main.body) Xt true s1).2.2.2.2.2.1=plainGoodE q (looseW q loose):=by
  rw[<- Fast.te4187177175401517315]
  show plainSeenE q (looseW q loose) s1=_
  unfold plainSeenE plainGoodE;rw[he]
  rfl
 have gd:(Fast.tw4187177175401517315 q loose (Fast.tw5923862056798008813 p.main.body) Xt true s1).2.2.2.2.2.2.1=plainGoodD q loose:=by
  rw[<- Fast.te4187177175401517315]
  show plainSeenD q loose s1=_
  unfold plainSeenD plainGoodD;rw[hd]
  rfl
 have g:Fast.tw4187177175401517315 q loose (Fast.tw5923862056798008813 p.main.body) Xt true s1=openGood q loose:=VT a1 (VT b1 (VT g2 (VT b0 (VT gp (VT ge (VT gd g3))))));have k:=wN k
 have ez:AA p w m an N (fW w os)=some s1:=by
  unfold AA;unfold jL at e1;rw[e1]
  show(match yx p w os s1 with | true=>some s1 | false=>none)=some s1
  rw[show yx p w os s1=true from a0]
 rw[ez];exact congrArg some (VT g k)
def qv:wE:=view VZ [1,2,3,4,5,6,7,8,9,10,12,13,14,15,16,17,18,19,20,21,23,24,25,26,27,28,29,30,31,32,34,35,36,37,38,39,40,41,42,43,45,46,48,49,50,51,52,53,54,55,56,58,59,60,61,62,63,64,65,66,67,69,70,71,72,73,74,75,77,78,79,80,81,82,83,84,85,86,87,88,89,90]
theorem O6{a b:Bool}(h:a=true)(k:b=true):(a&&b)=true:=by rw[h,k];rfl
set_option maxHeartbeats 0 in
theorem Jn:wu.wellSaid=true:=by
 unfold OpenLaw.wellSaid OpenRow.wellSaid OpenRow.partSaid looksOpen
 repeat' with_reducible refine O6 ?_ ?_
 all_goals decide +kernel
theorem size(w:World):((boot_heap w.params).isNs wP,(boot_heap w.params).objs.size,(boot_heap w.params).nsMap wP "__annotations__")=(true,11,some (.ref 6)):=by kernel_rfl
theorem ZP:drecsOf qv=[]:=by kernel_rfl
theorem no2:plainsOf qv (looseW qv [])=[]:=by kernel_rfl
theorem no3:dclssOf qv []=[]:=by kernel_rfl
theorem YZ(w:World):(λos=>(jL wu.row.prog w 11 (some (.ref 6)) 8492 (fW w os)).map (λs=>(yx wu.row.prog w os s,(Fast.tw4187177175401517315 qv [] (Fast.tw5923862056798008813 wu.row.prog.main.body) (λs=>xlAt GH.qv [] s&&recOk (RowW.records (OpenRow.toRowW (OpenLaw.row wu))) s) true s).2.2.2.1)))=λ_=>some (true,true):=by kernel_rfl
theorem Y0(w:World):(λos=>(jL wu.row.prog w 11 (some (.ref 6)) 8492 (fW w os)).map (λs=>((Fast.tw4187177175401517315 qv [] (Fast.tw5923862056798008813 wu.row.prog.main.body) (λs=>xlAt GH.qv [] s&&recOk (RowW.records (OpenRow.toRowW (OpenLaw.row wu))) s) true s).1,(Fast.tw4187177175401517315 qv [] (Fast.tw5923862056798008813 wu.row.prog.main.body) (λs=>xlAt GH.qv [] s&&recOk (RowW.records (OpenRow.toRowW (OpenLaw.row wu))) s) true s).2.1)))=λ_=>some (expectedOf qv,bltViewBooted):=by kernel_rfl
theorem YV(w:World):(λos=>(jL wu.row.prog w 11 (some (.ref 6)) 8492 (fW w os)).map (λs=>(Fast.tw4187177175401517315 qv [] (Fast.tw5923862056798008813 wu.row.prog.main.body) (λs=>xlAt GH.qv [] s&&recOk (RowW.records (OpenRow.toRowW (OpenLaw.row wu))) s) true s).2.2.1))=λ_=>some true:=by kernel_rfl
theorem Y4(w:World):(λos=>(jL wu.row.prog w 11 (some (.ref 6)) 8492 (fW w os)).map (λs=>(Fast.tw4187177175401517315 qv [] (Fast.tw5923862056798008813 wu.row.prog.main.body) (λs=>xlAt GH.qv [] s&&recOk (RowW.records (OpenRow.toRowW (OpenLaw.row wu))) s) true s).2.2.2.2.2.2.2))=λ_=>some (wideGood qv,clsGoodW qv []):=by kernel_rfl
local macro_rules | `(tactic| o_head $H)=>`(tactic| (refine holds_open (q:=GH.qv) (loose:=[]) (Xt:=λ s=>xlAt GH.qv [] s && recOk (RowW.records (OpenRow.toRowW (OpenLaw.row wu))) s) (XP:=XL GH.qv []) (Yf:=Hook.obs $H) (Ya:=Hook.val $H) (YP:=Hook.says $H) (N:=8492) ?hl (Hook.of $H) (Hook.keeps $H) (λ s e=>xl_of s (Xv.mp e).1) XL.keeps (by rfl) (by rfl) (by rfl) (λ s e=>recFacts_of (Xv.mp e).2) (by rfl) (by first | assumption | decide +kernel) (by decide +kernel) ⟨rfl,rfl,rfl,rfl,rfl,by decide +kernel⟩ ?hw ?hc; (case hl=>refine GH.Yu (by kernel_rfl) rfl (λ s=>by kernel_rfl) GH.size GH.ZP GH.no2 GH.no3 GH.YZ GH.Y0 GH.YV GH.Y4 ?_; intro w; kernel_rfl)))
local macro_rules | `(tactic| o_law)=>`(tactic| refine holds_law GH.Jn λ Jn=>?_)
set_option maxHeartbeats 0
open_top head for wu
end GH
set_option maxHeartbeats 4000000
namespace L2
open PySem PySem.Spec PyProof.Rows
variable{H:Hp}{a b:wg}{o:HO}
abbrev Key:=Sum Int Str
def nT:Key->wf->Bool
 | .inl k,v=>QG k v
 | .inr x,v=>UF x v
def zEg(w:World):Key->Int
 | .inl k=>hashInt k
 | .inr x=>hashStr w x
theorem jY :∀{k:Key}{v:wf},nT k v=true->(∃i t,k=Sum.inl i/\v=Value.int i t)\/(∃x t,k=Sum.inr x/\v=Value.str x t)
 | .inl i,v,h=>by
  obtain⟨t,e⟩:=Value.isInt_shape (k:=i) (v:=v) h;exact .inl ⟨i,t,rfl,e⟩
 | .inr x,v,h=>by
  obtain⟨t,e⟩:=Value.isStrOf_shape (x:=x) (v:=v) h;exact .inr ⟨x,t,rfl,e⟩
theorem zvn(i:Int)(t:Tok):nT (.inl i) (.int i t)=true:=by simp[nT,QG]
theorem zwj(x:Str)(t:Tok):nT (.inr x) (.str x t)=true:=by simp[nT,UF]
theorem ZI(a b:Int):decide ((Sum.inl a:Key)=Sum.inl b)=(a == b):=by
 by_cases e:a=b
 ·subst e;simp
 ·have h:¬ (Sum.inl a:Key)=Sum.inl b:=λq=>e (UX q)
  rw[decide_eq_false h];exact(beq_eq_false_iff_ne.mpr e).symm
theorem zC1(a b:Str):decide ((Sum.inr a:Key)=Sum.inr b)=decide (a=b):=by
 by_cases e:a=b
 ·subst e;simp
 ·have h:¬ (Sum.inr a:Key)=Sum.inr b:=λq=>e (Sum.inr.inj q)
  rw[decide_eq_false h,decide_eq_false e]
theorem zBA(a:Int)(b:Str):decide ((Sum.inl a:Key)=Sum.inr b)=false:=decide_eq_false (λq=>nomatch q)
theorem zCm(a:Str)(b:Int):decide ((Sum.inr a:Key)=Sum.inl b)=false:=decide_eq_false (λq=>nomatch q)
def gf(prog:wE)(w:World):PySem.KeyKind prog w Key where
 is:=nT
 hash:=zEg w
 inj:=λv a b ha hb=>by
  rcases jY ha with⟨i,t,rfl,rfl⟩ | ⟨x,t,rfl,rfl⟩
  ·rcases jY hb with⟨j,u,rfl,e⟩ | ⟨y,u,rfl,e⟩
   ·injection e with e1 _;rw[e1]
   ·exact nomatch e
  ·rcases jY hb with⟨j,u,rfl,e⟩ | ⟨y,u,rfl,e⟩
   ·exact nomatch e
   ·injection e with e1 _;rw[e1]
 byValue:=λk v h=>by
  rcases jY h with⟨i,t,rfl,rfl⟩ | ⟨x,t,rfl,rfl⟩<;>rfl
 pyHash:=λhv h=>by
  rcases jY hv with⟨i,t,rfl,rfl⟩ | ⟨x,t,rfl,rfl⟩
  ·exact wpAny_pyHash_int h
  ·exact wpAny_pyHash_str h
 eqBool:=λhu hv h=>by
  rcases jY hu with⟨i,t,rfl,rfl⟩ | ⟨x,t,rfl,rfl⟩
  ·rcases jY hv with⟨j,u,rfl,rfl⟩ | ⟨y,u,rfl,rfl⟩
   ·rw[ZI]at h;exact wpAny_eqBool_int h
   ·rw[zBA]at h;exact XU i t y u _ _ _ _ h
  ·rcases jY hv with⟨j,u,rfl,rfl⟩ | ⟨y,u,rfl,rfl⟩
   ·rw[zCm]at h;exact XV x t j u _ _ _ _ h
   ·rw[zC1]at h;exact wpAny_eqBool_str h
 «strs»:=λk x t v h=>by
  rcases jY h with⟨i,u,rfl,e⟩ | ⟨y,u,rfl,e⟩
  ·exact nomatch e
  ·injection e with e1 _
   subst e1;cases v<;>rfl
theorem zrA(prog:wE)(w:World)(i:Int)(t:Tok):(gf prog w).is (.inl i) (.int i t)=true:=zvn i t
theorem zsf(prog:wE)(w:World)(x:Str)(t:Tok):(gf prog w).is (.inr x) (.str x t)=true:=zwj x t
inductive V where
 | bC | bl (b:Bool) | int (i:Int) | str (x:Str) | byt (b:Array UInt8) | flt (b:UInt64) | ref (a:wg) | ty (n:String)
 deriving DecidableEq
def aP:V->wf->Prop
 | .bC,u=>u=Value.none
 | .bl b,u=>u=Value.bool b
 | .int i,u=>∃t,u=Value.int i t
 | .str x,u=>∃t,u=Value.str x t
 | .byt b,u=>∃t,u=Value.bytes b t
 | .flt b,u=>∃t,u=Value.float b t
 | .ref a,u=>u=Value.ref a
 | .ty n,u=>u=Value.type n
abbrev aM:List V->List wf->Prop:=Paired aP
theorem aM.length{xs:List V}{us:List wf}(r:aM xs us):xs.length=us.length:=xn r
theorem aM.get:∀{xs:List V}{us:List wf}{i:Nat}{x:V},aM xs us->xs[i]? = some x->∃u,us[i]? = some u/\aP x u
 | _,_,_,_,.nil,e=>by simp at e
 | _,_,0,_,.cons r _,e=>by simp at e;subst e;exact⟨_,rfl,r⟩
 | _,_,i+1,x,.cons _ t,e=>by
  obtain⟨u,h1,h2⟩:=aM.get (i:=i) (x:=x) t (by simpa using e);exact⟨u,by simpa using h1,h2⟩
theorem aM.set{x:V}{u:wf}(r:aP x u):∀{xs:List V}{us:List wf}(i:Nat),aM xs us->aM (xs.set i x) (us.set i u)
 | _,_,_,.nil=>.nil
 | _,_,0,.cons _ t=>.cons r t
 | _,_,i+1,.cons q t=>.cons q (aM.set r i t)
theorem aM.append:∀{xs ys:List V}{us ws:List wf},aM xs us->aM ys ws->aM (xs++ys) (us++ws)
 | _,_,_,_,.nil,s=>s
 | _,_,_,_,.cons r t,s=>.cons r (aM.append t s)
theorem aM.take:∀{xs:List V}{us:List wf}(n:Nat),aM xs us->aM (xs.take n) (us.take n)
 | _,_,0,_=>.nil
 | _,_,_+1,.nil=>.nil
 | _,_,n+1,.cons r t=>.cons r (aM.take n t)
theorem aM.drop:∀{xs:List V}{us:List wf}(n:Nat),aM xs us->aM (xs.drop n) (us.drop n)
 | _,_,0,r=>r
 | _,_,_+1,.nil=>.nil
 | _,_,n+1,.cons _ t=>aM.drop n t
def nR:Option V->Option wf->Prop
 | some v,some u=>aP v u
 | none,none=>True
 | _,_=>False
def KV{κ : Type} : List (κ × V)->List (κ × wf)->Prop:=Paired λ(p : κ × V)(q : κ × wf)=>p.1=q.1/\aP p.2 q.2
def kV:Key->V
 | .inl i=>.int i
 | .inr x=>.str x
inductive HO where
 | lst (xs:List V)
 | tup (xs:List V)
 | dK (kvs:List (Key × V)) | dT (kvs:List (List Key × V))
 | set (S:Int->Bool) (n:Nat)
 | ins (C dx:wg) (fs:List (Str × V))
 | own (x:wg)
 | xd (fs:List (Str × V))
 | met (f x:wg)
 | zU (lo hi:Int)
 | gn (o:Obj) (u:HO)
 | kG (ps:Array wf)
 | ext (φ : wJ->Prop)
abbrev Hp:=wg->Option HO
def upd(H:Hp)(a:wg)(o:HO):Hp:=λb=>if b=a then some o else H b
theorem cA : upd H a o a=some o:=by unfold upd;rw[if_pos rfl]
theorem dW(h:b≠a):upd H a o b=H b:=by unfold upd;rw[if_neg h]
theorem ED{u:HO}(h:H a=some o)(h':H b=some u)(d:o≠u):a≠b:=by
 intro e;subst e;rw[h]at h';exact d (wN h')
theorem km(h:H a=some o)(h':H b=none):a≠b:=by
 intro e;subst e;rw[h]at h';cases h'
section
variable(P:wE)(w:World)
def cw(H:Hp)(h:wJ)(a:wg):HO->Prop
 | .lst xs=>xs.length<=wZ /\ ∃(its:List wf)(n:Nat),aM xs its/\h.get? a=some {cls:=.type "list",data:=.seq its.toArray n}
 | .tup xs=>xs.length<=wZ /\ ∃its:List wf,aM xs its/\IsTup h a its.toArray
 | .dK kvs=>kvs.length<=wZ/\(a == Vb)=false /\ ∃vs,KV kvs vs/\h.DictOf (gf P w) a vs
 | .dT kvs=>kvs.length<=wZ/\(a == Vb)=false /\ ∃xs:List (List Key × wg × wf),
     Paired (λ(p:List Key × V)(q:List Key × wg × wf)=>p.1=q.1/\H q.2.1=some (.tup (p.1.map kV))/\aP p.2 q.2.2) kvs xs /\
     ∃o es ep,h.get? a=some o/\o.ExactDict/\o.data=.dict es ep/\es.toList=xs.map (entryOfKey (tupleKind (gf P w)))/\(xs.map (·.1)).Nodup
 | .set S n=>h.SetOf (intKind P w) a S n
 | .ins C dx fs=>H dx=some (.own a)/\fs.length<=1000/\dx≠a/\h.get? a=some (PySem.W.instObj C dx) /\
     ∃mA,h.Ns1 dx mA/\(∀f,nR (fs.lookup f) (mA f))/\PySem.Within mA (fs.map (·.1))
 | .own _=>∃o,h.get? a=some o
 | .xd fs=>∃mA,h.Ns1 a mA /\ ∀f,nR (fs.lookup f) (mA f)
 | .zU lo hi=>∃t u v,h.get? a=some {cls:=.type "range",data:=.fields #[.int lo t,.int hi u,.int 1 v]}
 | .gn o u=>h.get? a=some o/\cw H h a u
 | .kG ps=>h.get? a=some {cls:=.none,data:=.fields ps}
 | .met f x=>h.get? a=some (xx (.ref f) (.ref x))
 | .ext φ=>φ h/\(∃o,h.get? a=some o) /\ ∀h1 h2:wJ,φ h1->(∀o,h1.get? a=some o->h2.get? a=some o) -> φ h2
def ck(H:Hp)(h:wJ):Prop:=∀a o,H a=some o->cw P w H h a o
end
section
variable{P:wE}{w:World}{H H':Hp}{h h':wJ}{a:wg}{o:HO}
theorem cw.lt(x:cw P w H h a o):a<h.objs.size:=by
 cases o with
 | lst xs=>obtain⟨_,_,_,_,e⟩:=x;exact wz e
 | tup xs=>obtain⟨_,_,_,p⟩:=x;exact p.lt
 | dK kvs=>obtain⟨_,_,_,_,o,_,_,e,_⟩:=x;exact wz e
 | dT kvs=>obtain⟨_,_,_,_,o,_,_,e,_⟩:=x;exact wz e
 | set S n=>obtain⟨o,_,_,_,e,_⟩:=x;exact wz e
 | ins C dx fs=>obtain⟨_,_,_,e,_⟩:=x;exact wz e
 | own y=>obtain⟨_,e⟩:=x;exact wz e
 | xd fs=>obtain⟨_,⟨_,_,_,e,_⟩,_⟩:=x;exact wz e
 | zU lo hi=>obtain⟨_,_,_,e⟩:=x;exact wz e
 | gn ob u=>obtain⟨e,_⟩:=x;exact wz e
 | kG ps=>exact wz (show h.get? a=some _ from x)
 | met f y=>exact wz (show h.get? a=some _ from x)
 | ext φ=>obtain⟨_,⟨_,e⟩,_⟩:=x;exact wz e
theorem Paired.A4{α β : Type}{F G : α -> β -> Prop} : ∀{l₁ : List α}{l₂ : List β},Paired F l₁ l₂ -> (∀a b,F a b->G a b)->Paired G l₁ l₂
 | _,_,.nil,_=>.nil
 | _,_,.cons r t,f=>.cons (f _ _ r) (Paired.A4 t f)
theorem cw.jP(x:cw P w H h a o)(k:∀b u,(b=a\/H b=some (.own a))->h.get? b=some u->h'.get? b=some u)
  (ho:∀b,H b=some (.own a)->H' b=some (.own a)) (ht:∀b xs,H b=some (.tup xs)->H' b=some (.tup xs)):cw P w H' h' a o:=by
 induction o with
 | lst xs=>obtain⟨z,its,n,r,e⟩:=x;exact⟨z,its,n,r,k _ _ (.inl rfl) e⟩
 | tup xs=>obtain⟨z,its,r,ob,e,c⟩:=x;exact⟨z,its,r,ob,k _ _ (.inl rfl) e,c⟩
 | dK kvs=>obtain⟨z,y,vs,r,ob,es,ep,e,c⟩:=x;exact⟨z,y,vs,r,ob,es,ep,k _ _ (.inl rfl) e,c⟩
 | dT kvs =>
  obtain⟨z,y,xs,r,ob,es,ep,e,c⟩:=x;exact⟨z,y,xs,Paired.A4 r λp q z=>⟨z.1,ht _ _ z.2.1,z.2.2⟩,ob,es,ep,k _ _ (.inl rfl) e,c⟩
 | set S n=>obtain⟨ob,es,ep,t,e,c⟩:=x;exact⟨ob,es,ep,t,k _ _ (.inl rfl) e,c⟩
 | ins C dx fs =>
  obtain⟨d,z,ne,e,mA,⟨od,es,ep,e2,c⟩,r⟩:=x;exact⟨ho _ d,z,ne,k _ _ (.inl rfl) e,mA,⟨od,es,ep,k _ _ (.inr d) e2,c⟩,r⟩
 | own y=>obtain⟨ob,e⟩:=x;exact⟨ob,k _ _ (.inl rfl) e⟩
 | xd fs=>obtain⟨mA,⟨od,es,ep,e,c⟩,r⟩:=x;exact⟨mA,⟨od,es,ep,k _ _ (.inl rfl) e,c⟩,r⟩
 | zU lo hi=>obtain⟨t,u,v,e⟩:=x;exact⟨t,u,v,k _ _ (.inl rfl) e⟩
 | gn ob u ih=>obtain⟨e,q⟩:=x;exact⟨k _ _ (.inl rfl) e,ih q⟩
 | kG ps =>
  have e:h.get? a=some {cls:=.none,data:=.fields ps}:=x
  show h'.get? a=some {cls:=.none,data:=.fields ps}
  exact k a _ (.inl rfl) e
 | met f y =>
  have e:h.get? a=some (xx (.ref f) (.ref y)):=x
  show h'.get? a=some (xx (.ref f) (.ref y))
  exact k a _ (.inl rfl) e
 | ext φ=>obtain⟨p,⟨o,e⟩,st⟩:=x;exact⟨st _ _ p λo q=>k _ _ (.inl rfl) q,⟨o,k _ _ (.inl rfl) e⟩,st⟩
theorem ck.lt(x:ck P w H h)(e:H a=some o):a<h.objs.size:=(x a o e).lt
theorem ck.fresh(x:ck P w H h)(e:h.objs.size<=a):H a=none:=by
 cases q:H a with
 | none=>rfl
 | some u=>exact absurd (wW (x.lt q) e) (VU _)
theorem ck.kept(x:ck P w H h)(k:∀b u,h.get? b=some u->h'.get? b=some u):ck P w H h':=λa o e =>
 (x a o e).jP (λb u _ q=>k b u q) (λ_ q=>q) λ_ _ q=>q
theorem ck.laid(x:ck P w H h)(k:∀b u,h.get? b=some u->h'.get? b=some u)(hp:h.objs.size<=a)(new:cw P w (upd H a o) h' a o):ck P w (upd H a o) h':=λb u e=>by
 have hn:=x.fresh hp
 by_cases hb:b=a
 ·subst hb;rw[cA]at e;cases e;exact new
 ·rw[dW hb]at e
  exact(x b u e).jP (λc v _ q=>k c v q) (λc q=>by rw[dW (km q hn)];exact q) λc xs q=>by rw[dW (km q hn)];exact q
end
def Rd(H:Hp)(a:wg)(u:HO):Prop:=H a=some u \/ ∃o,H a=some (.gn o u)
theorem Rd.ok{P:wE}{w:World}{H:Hp}{h:wJ}{a:wg}{u:HO}(r:Rd H a u)(x:ck P w H h):cw P w H h a u:=by
 rcases r with r | ⟨o,r⟩
 ·exact x a u r
 ·obtain⟨_,q⟩:=x a _ r
  exact q
def pE:Option HO->Prop
 | some (.lst _)=>True
 | some (.dK _)=>True
 | some (.dT _)=>True
 | some (.set _ _)=>True
 | some (.ins _ _ _)=>True
 | some (.ext _)=>True
 | _=>False
section
variable{P:wE}{w:World}{H:Hp}{h h':wJ}{x e:wg}{o':HO}
theorem ck.write(ok:ck P w H h)(mu:pE (H x))(he:e=x\/H e=some (.own x))(k:∀b u,b≠e->h.get? b=some u->h'.get? b=some u)(heo:∃u,h'.get? e=some u)
  (new:cw P w (upd H x o') h' x o'):ck P w (upd H x o') h':=λb u q=>by
 have nown:∀c y,H c=some (.own y)->c≠x:=λc y r z=>by subst z;rw[r]at mu;exact mu
 have ntup:∀c xs,H c=some (.tup xs)->c≠x:=λc xs r z=>by subst z;rw[r]at mu;exact mu
 by_cases hb:b=x
 ·subst hb;rw[cA]at q;cases q;exact new
 ·rw[dW hb]at q
  by_cases hbe:b=e
  ·have q':H b=some (.own x):=by
    rcases he with z | z
    ·exact absurd (hbe.trans z) hb
    ·rw[hbe];exact z
   rw[q]at q';cases q';obtain⟨v,hv⟩:=heo;exact⟨v,by rw[hbe];exact hv⟩
  ·refine(ok b u q).jP (λc v hc r=>k c v ?_ r) (λc r=>by rw[dW (nown c b r)];exact r) λc xs r=>by rw[dW (ntup c xs r)];exact r
   rcases hc with rfl | hc
   ·exact hbe
   ·rintro rfl
    rcases he with z | z
    ·exact nown c b hc z
    ·rw[hc]at z;cases z;exact hb rfl
end
structure Un(fs ex:List wg)(H H':Hp)(h h':wJ):Prop where
 keep:∀b o,h.get? b=some o->H b=none->b ∉ fs->b ∉ ex->h'.get? b=some o
 slot:∀b o,h.get? b=some o->H b=none->b∈fs->b ∉ ex->∃sl,h'.get? b=some {o with slots:=sl}
 free:∀b o,h.get? b=some o->H b=none->b ∉ ex->H' b=none
 there:∀b o,h.get? b=some o->b ∉ ex->∃o',h'.get? b=some o'
 gQ:∀b xs,H b=some (.tup xs)->H' b=some (.tup xs)
 gv:∀b o u,H b=some (.gn o u)->H' b=some (.gn o u)
 gR:∀b ps,H b=some (.kG ps)->∃more,H' b=some (.kG (ps++more))
section
variable{fs fs' ex ex':List wg}{H H1 H2:Hp}{h h1 h2 h':wJ}{a x e:wg}{o:HO}
theorem Un.any(u:Un fs ex H H1 h h1){b:wg}{ob:Obj}(q:h.get? b=some ob)(n:H b=none)(hx:b ∉ ex):∃sl,h1.get? b=some {ob with slots:=sl}:=by
 by_cases hb:b∈fs
 ·exact u.slot b ob q n hb hx
 ·exact⟨ob.slots,u.keep b ob q n hb hx⟩
theorem Un.kept(k:∀b u,h.get? b=some u->h'.get? b=some u):Un fs ex H H h h' :=
 ⟨λb ob q _ _ _=>k b ob q,λb ob q _ _ _=>⟨ob.slots,k b ob q⟩,λ_ _ _ n _=>n,λb ob q _=>⟨ob,k b ob q⟩,λ_ _ q=>q,λ_ _ _ q=>q,λ_ ps q=>⟨#[],by rw[q];simp⟩⟩
theorem Un.refl:Un fs ex H H h h:=Un.kept λ_ _ q=>q
theorem Un.laid(k:∀b u,h.get? b=some u->h'.get? b=some u)(hp:h.objs.size<=a)(hn:H a=none):Un fs ex H (upd H a o) h h' where
 keep:=λb u q _ _ _=>k b u q
 slot:=λb u q _ _ _=>⟨u.slots,k b u q⟩
 free:=λb u q n _=>by rw[dW (wL (wW (wz q) hp))];exact n
 there:=λb u q _=>⟨u,k b u q⟩
 gQ:=λb xs q=>by rw[dW (km q hn)];exact q
 gv:=λb u xs q=>by rw[dW (km q hn)];exact q
 gR:=λb ps q=>⟨#[],by rw[dW (km q hn),q];simp⟩
theorem Un.write(mu:pE (H x))(he:e=x\/H e=some (.own x))(k:∀b u,b≠e->h.get? b=some u->h'.get? b=some u)(heo:∃u,h'.get? e=some u):Un fs ex H (upd H x o) h h':=by
 have hx:∀b,H b=none->b≠x:=λb n z=>by subst z;rw[n]at mu;exact mu
 have hb:∀b,H b=none->b≠e:=λb n z=>by
  subst z;rcases he with r | r
  ·exact hx b n r
  ·rw[n]at r;cases r
 have hm:∀b u,H b=some u->¬ pE (some u)->b≠x:=λb u q nm z=>by subst z;rw[q]at mu;exact nm mu
 refine⟨λb u q n _ _=>k b u (hb b n) q,λb u q n _ _=>⟨u.slots,k b u (hb b n) q⟩,λb u q n _=>by rw[dW (hx b n)];exact n,λb u q _=>?_,
  λb xs q=>by rw[dW (hm b _ q λz=>z)];exact q,λb u xs q=>by rw[dW (hm b _ q λz=>z)];exact q,λb ps q=>⟨#[],by rw[dW (hm b _ q λz=>z),q];simp⟩⟩
 by_cases hbe:b=e
 ·subst hbe;exact heo
 ·exact⟨u,k b u hbe q⟩
end
def iT(h:wJ)(H:Hp):List wg:=(wq h.objs.size).filter λa=>(H a).isSome
def kj(h:wJ)(H:Hp):wJ:=Uc h (iT h H)
theorem zvg(h:wJ)(H:Hp):(kj h H).objs.size=h.objs.size:=PySem.W.hideAll_size _ _
theorem zwZ{h:wJ}{H:Hp}{b:wg}{o:Obj}(e:h.get? b=some o)(n:H b=none):(kj h H).get? b=some o :=
 XJ _ e λhm=>by
  have q:(H b).isSome=true:=(vj.mp hm).2;rw[n]at q;simp at q
theorem zAa{h:wJ}{H:Hp}{b:wg}{o:Obj}(e:(kj h H).get? b=some o):h.get? b=some o/\H b=none:=by
 have e':h.get? b=some o:=XW (iT h H) e;refine⟨e',?_⟩;cases q:H b with
 | none=>rfl
 | some x =>
  have hm:b∈iT h H:=vj.mpr ⟨wF.mpr (wz e'),by simp[q]⟩;have z:(kj h H).get? b=none:=PySem.W.hideAll_none (iT h H) hm;rw[z]at e;cases e
def zzi(g h:wJ)(L:wg):List (wg × Obj):=(wq h.objs.size).filterMap λa=>if a=L\/(g.get? a).isSome=true then none else(h.get? a).map λo=>(a,o)
def b7(g h:wJ)(L d:wg):List (wg × Obj):=(zzi g h L).filter λp=>decide (p.1≠d)
structure Mod(K:wb)(mg:Str->Option wf)(base:wJ):Prop where
 ma:K.In base
 glob:base.Ns wP mg
 blt:∃mb,base.Ns builtinsNs mb /\ ∀x:Str,x≠"__name__" -> mb x=vJ x
 nolimit:base.NoLimit
 seer:base.NoSeer
structure Cx where
 prog:wE
 w:World
 K:wb
 mg:Str->Option wf
 base:wJ
 A:w5
 N:List Str
 s₀ : wl
 H₀ : Hp
 env:Env
 outer:List Env
 stack:List Env
 ex:List wg
 fn:Str->Bool
 calm:Bool
 pn:List (wg × Obj)
 xe:wf->wl->Prop
def dq(l:List Env):List wg:=l.filterMap (·.frame)
abbrev Cx.fs(X:Cx):List wg:=dq X.outer
def pf(sc:Scope)(x:Str):Prop:=sc.names.lookup x=some .local\/sc.names.lookup x=some .cell\/sc.names.lookup x=some .free
def Loc(sc:Scope)(x:Str):Prop:=sc.names.lookup x=some .local\/sc.names.lookup x=some .cell
def zD4(env:Env)(h:wJ)(m:Str->Option wf)(x:Str)(u:wf):Prop :=
 (env.kindOf x=some .local/\m x=some u)\/((env.kindOf x=some .cell\/env.kindOf x=some .free) /\ ∃c,env.cells.lookup x=some c/\h.IsCell c (some u))
structure Cx.Ok(X:Cx):Prop where
 mod:Mod X.K X.mg X.base
 kind:X.env.scope.kind=.function
 glob:X.env.globals=wP
 blt:X.env.builtins=builtinsNs
 above:X.s₀.heap.objs.size<=X.env.locals
 inj:∀x y c,X.env.cells.lookup x=some c->X.env.cells.lookup y=some c->x=y
 has:∀x,(X.env.kindOf x=some .cell\/X.env.kindOf x=some .free)->∃c,X.env.cells.lookup x=some c
 jQ:∀x c,X.fn x=true->X.env.cells.lookup x=some c->X.s₀.heap.objs.size<=c
 hd:X.calm=true->X.A.handled=none
 frames:X.A.frames=some X.stack
 k_:X.stack=X.outer\/(X.stack=X.env::X.outer/\X.env.frame=some X.env.locals)
 nX:∀b∈X.ex,b≠X.env.locals /\ ∀x c,X.env.cells.lookup x=some c->c≠b
 bs:∀b o,X.base.get? b=some o->X.s₀.heap.get? b=some o/\X.H₀ b=none
 gE:X.base.objs.size<=X.s₀.heap.objs.size
 jN:∀b o,X.base.get? b=some o->b ∉ X.ex
 ky:∀b∈X.ex,b ∉ X.fs
 eB:X.s₀.heap.FunFrames X.base X.outer
 h_:∀b∈X.fs,X.H₀ b=none
structure Inv(X:Cx)(pins:List (wg × Obj))(σ : List (Option V))(H:Hp)(s:wl):Prop where
 ok:X.Ok
 os:s.os=X.s₀.os
 bare:AllBare s.gens
 base:Un X.fs X.ex X.H₀ H X.s₀.heap s.heap
 loc:∃m,s.heap.Ns X.env.locals m /\ ∀(i:Nat)(x:Str)(v:V),X.N[i]? = some x -> σ[i]? = some (some v)->pf X.env.scope x->∃u,aP v u/\zD4 X.env s.heap m x u
 cell:∀x c,X.env.cells.lookup x=some c->∃v,s.heap.IsCell c v
 free:H X.env.locals=none
 fc:∀x c,X.env.cells.lookup x=some c->H c=none
 pin:∀p∈X.pn++pins,s.heap.get? p.1=some p.2/\H p.1=none/\p.1≠X.env.locals/\p.1 ∉ X.fs /\ ∀v,p.2.data≠.cell v
 aA:ck X.prog X.w H s.heap
 len : σ.length=X.N.length
section
variable{X:Cx}{pins:List (wg × Obj)}{σ : List (Option V)}{H H':Hp}{s:wl}{h':wJ}
variable{i t':Nat}{ch:List wg}{x:Str}
theorem Cx.Ok.Y7(ok:X.Ok){b:wg}{o:Obj}(e:X.base.get? b=some o):b ∉ X.fs:=λhb=>by
 have:=(ok.eB.mem hb).1;rw[e]at this;cases this
theorem Inv.bs(I:Inv X pins σ H s):∀b o,X.base.get? b=some o->s.heap.get? b=some o/\H b=none:=λb o e =>
 ⟨I.base.keep b o (I.ok.bs b o e).1 (I.ok.bs b o e).2 (I.ok.Y7 e) (I.ok.jN b o e),I.base.free b o (I.ok.bs b o e).1 (I.ok.bs b o e).2 (I.ok.jN b o e)⟩
theorem Inv.bk(I:Inv X pins σ H s):∀b o,X.base.get? b=some o->s.heap.get? b=some o:=λb o e=>(I.bs b o e).1
theorem Inv.mod(I:Inv X pins σ H s):Mod X.K X.mg X.base:=I.ok.mod
theorem Inv.cU(I:Inv X pins σ H s):X.K.In s.heap:=I.ok.mod.ma.keeps I.bk
theorem Inv.nolimit(I:Inv X pins σ H s):s.heap.NoLimit:=I.ok.mod.nolimit.keeps I.bk
theorem Inv.lt(I:Inv X pins σ H s):X.env.locals<s.heap.objs.size:=let ⟨_,hn,_⟩:=I.loc;hn.lt
theorem Inv.sz(I:Inv X pins σ H s):X.s₀.heap.objs.size<=s.heap.objs.size:=Wb I.ok.above (qg I.lt)
theorem Inv.Y8(I:Inv X pins σ H s){a:wg}(h:s.heap.objs.size<=a):a ∉ X.fs:=λhb=>by
 obtain⟨_,o,ho,_⟩:=I.ok.eB.mem hb;exact absurd (wW (wz ho) (Wb I.sz h)) (VU _)
theorem Inv.jt(I:Inv X pins σ H s):∀x c,X.env.cells.lookup x=some c->c≠X.env.locals:=λx c e z=>by
 obtain⟨v,o,ho,hd⟩:=I.cell x c e;obtain⟨m,⟨o',es,ep,ho',hd',_⟩,_⟩:=I.loc;rw[z,ho']at ho;cases ho;rw[hd']at hd;cases hd
theorem Inv.eB(I:Inv X pins σ H s):s.heap.FunFrames X.base X.outer:=by
 have all:∀(l:List Env),(∀b∈dq l,b∈X.fs)->X.s₀.heap.FunFrames X.base l->s.heap.FunFrames X.base l:=by
  intro l
  induction l with
  | nil=>intro _ _;trivial
  | cons env r ih =>
   intro hs hl;obtain⟨hk,⟨L,o,hf,hn,ho,hd⟩,hr⟩:=hl;have hL:L∈X.fs:=hs L (by unfold dq;rw[Qa,hf];exact wD);obtain⟨sl,e⟩:=I.base.slot L o ho (I.ok.h_ L hL) hL λz=>I.ok.ky L z hL
   exact⟨hk,⟨L,_,hf,hn,e,hd⟩,ih (λb hb=>hs b (by unfold dq;rw[Qa,hf];exact wA _ hb)) hr⟩
 exact all X.outer (λ_ hb=>hb) I.ok.eB
theorem Inv.stack(I:Inv X pins σ H s):s.heap.FunFrames X.base X.stack:=by
 rcases I.ok.k_ with e | ⟨e,hf⟩
 ·rw[e];exact I.eB
 ·rw[e]
  obtain⟨m,hn,_⟩:=I.loc;refine .cons (by rw[I.ok.kind];decide) hf hn ?_ I.eB;exact Heap.get?_none_of_le (Wb I.ok.gE I.ok.above)
theorem Inv.lB(I:Inv X pins σ H s):∀b∈dq X.stack,b∈X.env.locals::X.fs:=λb hb=>by
 rcases I.ok.k_ with e | ⟨e,hf⟩
 ·rw[e]at hb;exact wA _ hb
 ·rw[e]at hb
  unfold dq at hb;rw[Qa,hf]at hb;exact hb
theorem Inv.sD(I:Inv X pins σ H s):∀b∈dq X.stack,H b=none:=λb hb=>by
 rcases wK.mp (I.lB b hb)with e | hb
 ·rw[e];exact I.free
 ·obtain⟨_,o,ho,_⟩:=I.ok.eB.mem hb
  exact I.base.free b o ho (I.ok.h_ b hb) λz=>I.ok.ky b z hb
theorem Inv.step{g':Array GenState}{d':Drawn}(I:Inv X pins σ H s)
  (hch:∀b∈ch,(b∈X.ex\/X.s₀.heap.objs.size<=b)/\b≠X.env.locals/\(∀x c,X.env.cells.lookup x=some c->c≠b) /\ ∀p∈X.pn++pins,p.1≠b)
  (keep:∀b o,b≠X.env.locals->b ∉ X.fs->b ∉ ch->s.heap.get? b=some o->H b=none->h'.get? b=some o)
  (slot:∀b o,b≠X.env.locals->b∈X.fs->b ∉ ch->s.heap.get? b=some o->H b=none->∃sl,h'.get? b=some {o with slots:=sl}) (free:∀b o,b ∉ ch->s.heap.get? b=some o->H b=none->H' b=none)
  (there:∀b o,b ∉ ch->s.heap.get? b=some o->∃o',h'.get? b=some o')
  (gQ:∀b xs,H b=some (.tup xs)->H' b=some (.tup xs)) (gv:∀b o u,H b=some (.gn o u)->H' b=some (.gn o u)) (gR:∀b ps,H b=some (.kG ps)->∃more,H' b=some (.kG (ps++more)))
  (ns:∀m,s.heap.Ns X.env.locals m->h'.Ns X.env.locals m) (aA:ck X.prog X.w H' h') (hg:AllBare g') :
  Inv X pins σ H' {s with heap:=h',gens:=g',drawn:=d',toks:=t'}:=by
 have neL:∀b o,X.s₀.heap.get? b=some o->b≠X.env.locals:=λb o e=>wL (wW (wz e) I.ok.above)
 have neC:∀b o,X.s₀.heap.get? b=some o->b ∉ X.ex->b ∉ ch:=λb o e hx hb=>by
  rcases (hch b hb).1 with z | z
  ·exact hx z
  ·exact absurd (wW (wz e) z) (VU _)
 have cellK:∀x c,X.env.cells.lookup x=some c->∀v,s.heap.IsCell c v->h'.IsCell c v:=λx c e v ⟨o,ho,hd⟩=>by
  have nch:c ∉ ch:=λz=>(hch c z).2.2.1 x c e rfl
  by_cases hc:c∈X.fs
  ·obtain⟨sl,q⟩:=slot c o (I.jt x c e) hc nch ho (I.fc x c e)
   exact⟨_,q,hd⟩
  ·exact⟨o,keep c o (I.jt x c e) hc nch ho (I.fc x c e),hd⟩
 refine⟨I.ok,I.os,hg,⟨λb o e n hb hx=>?_,λb o e n hb hx=>?_,λb o e n hx=>?_,λb o e hx=>?_,λb xs e=>gQ b xs (I.base.gQ b xs e),λb o xs e=>gv b o xs (I.base.gv b o xs e),λb ps e=>?_⟩,?_,λx c e=>?_,?_,λx c e=>?_,λp hp=>?_,aA,I.len⟩
 ·exact keep b o (neL b o e) hb (neC b o e hx) (I.base.keep b o e n hb hx) (I.base.free b o e n hx)
 ·obtain⟨sl,e1⟩:=I.base.slot b o e n hb hx
  obtain⟨sl',e2⟩:=slot b _ (neL b o e) hb (neC b o e hx) e1 (I.base.free b o e n hx);exact⟨sl',e2⟩
 ·obtain⟨o',e1⟩:=I.base.there b o e hx
  exact free b o' (neC b o e hx) e1 (I.base.free b o e n hx)
 ·obtain⟨o',e1⟩:=I.base.there b o e hx
  exact there b o' (neC b o e hx) e1
 ·obtain⟨m1,e1⟩:=I.base.gR b ps e
  obtain⟨m2,e2⟩:=gR b _ e1;exact⟨m1++m2,by rw[e2,XX]⟩
 ·obtain⟨m,hn,hl⟩:=I.loc
  refine⟨m,ns m hn,λi x v e1 e2 e3=>?_⟩;obtain⟨u,r,l⟩:=hl i x v e1 e2 e3;refine⟨u,r,?_⟩;rcases l with l | ⟨k,c,e,z⟩
  ·exact .inl l
  ·exact .inr ⟨k,c,e,cellK x c e _ z⟩
 ·obtain⟨v,z⟩:=I.cell x c e
  exact⟨v,cellK x c e v z⟩
 ·obtain⟨m,⟨o,_,_,ho,_⟩,_⟩:=I.loc
  exact free _ o (λz=>(hch _ z).2.1 rfl) ho I.free
 ·obtain⟨v,o,ho,hd⟩:=I.cell x c e
  exact free c o (λz=>(hch c z).2.2.1 x c e rfl) ho (I.fc x c e)
 ·obtain⟨e,n,ne,nf,d⟩:=I.pin p hp
  have nch:p.1 ∉ ch:=λz=>(hch p.1 z).2.2.2 p hp rfl
  exact⟨keep p.1 p.2 ne nf nch e n,free p.1 p.2 nch e n,ne,nf,d⟩
theorem Inv.un(I:Inv X pins σ H s)(u:Un X.fs [] H H' s.heap h')(aA:ck X.prog X.w H' h'):Inv X pins σ H' {s with heap:=h',toks:=t'}:=by
 obtain⟨m,⟨o,es,ep,ho,r⟩,_⟩:=id I.loc;obtain⟨sl,hL⟩:=u.any ho I.free (by simp)
 exact I.step (g':=s.gens) (d':=s.drawn) (ch:=[]) (λ_ z=>nomatch z) (λb o _ hb _ e n=>u.keep b o e n hb (by simp)) (λb o _ hb _ e n=>u.slot b o e n hb (by simp)) (λb o _ e n=>u.free b o e n (by simp)) (λb o _ e=>u.there b o e (by simp)) u.gQ u.gv u.gR (λm' hm=>by
  obtain⟨o',es',ep',ho',r'⟩:=hm;rw[ho]at ho';cases ho';exact⟨_,es',ep',hL,r'⟩) aA I.bare
theorem Inv.call{g':Array GenState}{d':Drawn}(I:Inv X pins σ H s)(u:Un (dq X.stack) ch H H' s.heap h')(aA:ck X.prog X.w H' h')(hg:AllBare g')
  (hch:∀b∈ch,(b∈X.ex\/X.s₀.heap.objs.size<=b)/\b≠X.env.locals/\(∀x c,X.env.cells.lookup x=some c->c≠b) /\ ∀p∈X.pn++pins,p.1≠b) :
  Inv X pins σ H' {s with heap:=h',gens:=g',drawn:=d',toks:=t'}:=by
 obtain⟨m,⟨o,es,ep,ho,r⟩,_⟩:=id I.loc;obtain⟨sl,hL⟩:=u.any ho I.free λz=>(hch _ z).2.1 rfl
 exact I.step (ch:=ch) hch (λb o hL hb hc e n=>u.keep b o e n (λz=>(wK.mp (I.lB b z)).elim hL hb) hc) (λb o _ _ hc e n=>u.any e n hc) (λb o hc e n=>u.free b o e n hc) (λb o hc e=>u.there b o e hc) u.gQ u.gv u.gR (λm' hm=>by
  obtain⟨o',es',ep',ho',r'⟩:=hm;rw[ho]at ho';cases ho';exact⟨_,es',ep',hL,r'⟩) aA hg
theorem Inv.turned{it:wg}(I:Inv X pins σ H s)(k:∀b o,b≠it->s.heap.get? b=some o->h'.get? b=some o)(hn:H it=none)(hL:it≠X.env.locals)
  (h1:it∈X.ex\/X.s₀.heap.objs.size<=it) (h2:∀x c,X.env.cells.lookup x=some c->c≠it) (h3:∀p∈X.pn++pins,p.1≠it):Inv X pins σ H {s with heap:=h',toks:=t'}:=by
 have nit:∀b u,H b=some u->b≠it:=λb u e z=>by rw[z,hn]at e;cases e
 refine I.step (g':=s.gens) (d':=s.drawn) (ch:=[it]) (λb hb=>?_) (λb o _ _ hc e _=>k b o (λz=>hc (by simp[z])) e) (λb o _ _ hc e _=>⟨o.slots,k b o (λz=>hc (by simp[z])) e⟩) (λ_ _ _ _ n=>n)
  (λb o hc e=>⟨o,k b o (λz=>hc (by simp[z])) e⟩) (λ_ _ e=>e) (λ_ _ _ e=>e) (λb ps e=>⟨#[],by rw[e];simp⟩) (λm hm=>?_) (λb u e=>?_) I.bare
 ·have e:b=it:=by simpa using hb
  subst e;exact⟨h1,hL,h2,h3⟩
 ·obtain⟨o,es,ep,ho,r⟩:=hm
  exact⟨o,es,ep,k _ o (WI hL) ho,r⟩
 ·refine(I.aA b u e).jP (λc v hc q=>k c v ?_ q) (λ_ q=>q) λ_ _ q=>q
  rcases hc with z | z
  ·rw[z];exact nit b u e
  ·exact nit c _ z
theorem Inv.tok(I:Inv X pins σ H s)(t:Nat):Inv X pins σ H {s with toks:=t}:=I.un (h':=s.heap) (t':=t) Un.refl I.aA
theorem Inv.kept(I:Inv X pins σ H s)(k:∀b u,s.heap.get? b=some u->h'.get? b=some u):Inv X pins σ H {s with heap:=h',toks:=t'}:=I.un (Un.kept k) (I.aA.kept k)
theorem Inv.laid{a:wg}{o:HO}(I:Inv X pins σ H s)(k:∀b u,s.heap.get? b=some u->h'.get? b=some u)(hp:s.heap.objs.size<=a)(new:cw X.prog X.w (upd H a o) h' a o) :
  Inv X pins σ (upd H a o) {s with heap:=h',toks:=t'}:=I.un (Un.laid k hp (I.aA.fresh hp)) (I.aA.laid k hp new)
theorem Inv.write{x e:wg}{o:HO}(I:Inv X pins σ H s)(mu:pE (H x))(he:e=x\/H e=some (.own x))(k:∀b u,b≠e->s.heap.get? b=some u->h'.get? b=some u)(heo:∃u,h'.get? e=some u)
  (new:cw X.prog X.w (upd H x o) h' x o):Inv X pins σ (upd H x o) {s with heap:=h',toks:=t'}:=I.un (Un.write mu he k heo) (I.aA.write mu he k heo new)
theorem Inv.IU{pins':List (wg × Obj)}(I:Inv X pins σ H s)(h:∀p∈pins',s.heap.get? p.1=some p.2/\H p.1=none/\p.1≠X.env.locals/\p.1 ∉ X.fs /\ ∀v,p.2.data≠.cell v):Inv X pins' σ H s :=
 ⟨I.ok,I.os,I.bare,I.base,I.loc,I.cell,I.free,I.fc,λp hp=>(Ws.mp hp).elim (λz=>I.pin p (Wp _ z)) (h p),I.aA,I.len⟩
theorem Ey{N:List Str}(hN:N.Nodup){j:Nat}(a:N[i]? = some x)(b:N[j]? = some x):i=j:=by
 obtain⟨h1,e1⟩:=WJ.mp a;obtain⟨h2,e2⟩:=WJ.mp b;exact(List.getElem_inj hN).mp (e1.trans e2.symm)
theorem Fi{M:Model}{A:w5}{E:wf->wl->Prop}{v:V}{u:wf}{Q:Unit->wl->Prop}(I:Inv X pins σ H s)(hN:X.N.Nodup)(hi:X.N[i]? = some x)(hx:Loc X.env.scope x)(r:aP v u)
  (h:∀s',Inv X pins (σ.set i (some v)) H s'->(∃a,vv a s.heap s'.heap/\(a=X.env.locals\/X.env.cells.lookup x=some a))->Q () s') (hf:X.fn x=true\/X.env.scope.names.lookup x=some .local:=by first | exact .inl rfl | exact .inr rfl | assumption):wt M A (storeName X.env x u) Q E s:=by
 obtain⟨m,hn,hl⟩:=id I.loc;have hcls:(X.env.scope.kind == .class || (X.env.scope.kind == .module&&X.env.locals != X.env.globals))=false:=by rw[I.ok.kind];rfl
 have hiσ : i < σ.length:=by rw[I.len];exact(WJ.mp hi).1
 have jt:=I.jt
 have tracked:∀{a:wg}{h':wJ},(∃o,s.heap.get? a=some o/\H a=none)->vv a s.heap h'->ck X.prog X.w H h':=λ{a h'} ha hs b ob e=>by
  obtain⟨_,_,hfree⟩:=ha;refine(I.aA b ob e).jP (λc w' hc q=>(hs.2 c ?_).trans q) (λ_ q=>q) λ_ _ q=>q
  rintro rfl;rcases hc with rfl | hc
  ·rw[hfree]at e;cases e
  ·rw[hfree]at hc;cases hc
 rcases hx with hk | hk
 ·refine wpAny_storeName_local hk hn (λh' hn' hs=>?_) hcls
  obtain⟨oL,_,_,hoL,_⟩:=id hn;refine h _ ⟨I.ok,I.os,I.bare,⟨λb o e n hb hx=>?_,λb o e n hb hx=>?_,I.base.free,λb o e hx=>?_,I.base.gQ,I.base.gv,I.base.gR⟩,⟨_,hn',λj y v' e1 e2 e3=>?_⟩,λy c e=>?_,I.free,I.fc,λp hp=>?_,tracked ⟨oL,hoL,I.free⟩ hs,by simpa using I.len⟩ ⟨_,hs,.inl rfl⟩
  ·exact(hs.2 b (wL (wW (wz e) I.ok.above))).trans (I.base.keep b o e n hb hx)
  ·obtain⟨sl,e1⟩:=I.base.slot b o e n hb hx
   exact⟨sl,(hs.2 b (wL (wW (wz e) I.ok.above))).trans e1⟩
  ·obtain⟨o',e1⟩:=I.base.there b o e hx
   exact⟨o',(hs.2 b (wL (wW (wz e) I.ok.above))).trans e1⟩
  ·by_cases hj:j=i
   ·subst hj
    rw[hi]at e1;cases e1;rw[x8 hiσ]at e2;cases e2;exact⟨u,r,.inl ⟨hk,by simp⟩⟩
   ·rw[QR (WI hj)]at e2
    obtain⟨u',r',q⟩:=hl j y v' e1 e2 e3;refine⟨u',r',?_⟩;rcases q with⟨k,e⟩ | ⟨k,c,e,z⟩
    ·refine .inl ⟨k,?_⟩
     have:y≠x:=λe=>hj (Ey hN e1 (e ▸ hi))
     simp[this,e]
    ·exact .inr ⟨k,c,e,z.sameBut hs (jt y c e)⟩
  ·obtain⟨w',z⟩:=I.cell y c e
   exact⟨w',z.sameBut hs (jt y c e)⟩
  ·obtain⟨e,n,ne,nf,d⟩:=I.pin p hp
   exact⟨(hs.2 p.1 ne).trans e,n,ne,nf,d⟩
 ·have hfn:X.fn x=true:=by
   rcases hf with z | z
   ·exact z
   ·rw[z]at hk;cases hk
  obtain⟨c,hc⟩:=I.ok.has x (.inl hk);obtain⟨w',z⟩:=I.cell x c hc;refine wpAny_storeName_cell I.ok.kind hk hc z (λh' hc' hs=>?_);obtain⟨oc,hoc,hocd⟩:=id z;refine h {s with heap:=h'} ⟨I.ok,I.os,I.bare,⟨λb o e n hb hx=>?_,λb o e n hb hx=>?_,I.base.free,λb o e hx=>?_,I.base.gQ,I.base.gv,I.base.gR⟩,⟨m,hn.sameBut hs (WI (jt x c hc)),λj y v' e1 e2 e3=>?_⟩,λy c' e=>?_,I.free,I.fc,λp hp=>?_,tracked ⟨oc,hoc,I.fc x c hc⟩ hs,by simpa using I.len⟩ ⟨c,hs,.inr hc⟩
  ·exact(hs.2 b (wL (wW (wz e) (I.ok.jQ x c hfn hc)))).trans (I.base.keep b o e n hb hx)
  ·obtain⟨sl,e1⟩:=I.base.slot b o e n hb hx
   exact⟨sl,(hs.2 b (wL (wW (wz e) (I.ok.jQ x c hfn hc)))).trans e1⟩
  ·obtain⟨o',e1⟩:=I.base.there b o e hx
   exact⟨o',(hs.2 b (wL (wW (wz e) (I.ok.jQ x c hfn hc)))).trans e1⟩
  ·by_cases hj:j=i
   ·subst hj
    rw[hi]at e1;cases e1;rw[x8 hiσ]at e2;cases e2;exact⟨u,r,.inr ⟨.inl hk,c,hc,hc'⟩⟩
   ·rw[QR (WI hj)]at e2
    obtain⟨u',r',q⟩:=hl j y v' e1 e2 e3;refine⟨u',r',?_⟩;rcases q with q | ⟨k,c',e,z'⟩
    ·exact .inl q
    ·refine .inr ⟨k,c',e,z'.sameBut hs ?_⟩
     rintro rfl;exact hj (Ey hN e1 (I.ok.inj _ _ _ e hc ▸ hi))
  ·by_cases hcc:c'=c
   ·subst hcc;exact⟨_,hc'⟩
   ·obtain⟨w2,z2⟩:=I.cell y c' e
    exact⟨w2,z2.sameBut hs hcc⟩
  ·obtain⟨e,n,ne,nf,d⟩:=I.pin p hp
   refine⟨(hs.2 p.1 ?_).trans e,n,ne,nf,d⟩;intro q;rw[q,hoc]at e;have q':oc=p.2:=wN e;exact d w' (by rw[<- q'];exact hocd)
theorem nN{M:Model}{A:w5}{E:wf->wl->Prop}{v:V}{u:wf}{Q:Unit->wl->Prop}(I:Inv X pins σ H s)(hN:X.N.Nodup)(hi:X.N[i]? = some x)(hx:Loc X.env.scope x)(r:aP v u)
  (h:∀s',Inv X pins (σ.set i (some v)) H s'->Q () s') (hf:X.fn x=true\/X.env.scope.names.lookup x=some .local:=by first | exact .inl rfl | exact .inr rfl | assumption):wt M A (storeName X.env x u) Q E s :=
 Fi I hN hi hx r (λs' I' _=>h s' I') hf
theorem Inv.Jg{s':wl}(I:Inv X pins σ H s)(ho:s'.os=s.os)(u:Un (dq X.stack) ch H H' s.heap s'.heap)(aA:ck X.prog X.w H' s'.heap)(hg:AllBare s'.gens)
  (hch:∀b∈ch,(b∈X.ex\/X.s₀.heap.objs.size<=b)/\b≠X.env.locals/\(∀x c,X.env.cells.lookup x=some c->c≠b) /\ ∀p∈X.pn++pins,p.1≠b):Inv X pins σ H' s':=by
 obtain⟨h',g',d',t',o'⟩:=s';have e:o'=s.os:=ho;subst e;exact I.call (g':=g') (t':=t') (d':=d') u aA hg hch
end
abbrev XK:=wf->Option wg->Hp->Prop
abbrev St:=List (Option V)
abbrev VK:=V->Hp->Prop
abbrev TE:=St->Hp->VK->Prop
abbrev TT:=St->Hp->(Bool->Hp->Prop)->Prop
abbrev TA:=St->Hp->(List V->Hp->Prop)->Prop
structure cu where
 nx:St->Hp->Prop
 rt:VK
 bk:St->Hp->Prop:=λ_ _=>False
 ct:St->Hp->Prop:=λ_ _=>False
abbrev TS:=cu->St->Hp->Prop
def EP(X:Cx)(pins:List (wg × Obj))(σ : St)(Q:VK)(u:wf)(s':wl):Prop:=∃v H',Inv X pins σ H' s'/\aP v u/\Q v H'
def TP(X:Cx)(pins:List (wg × Obj))(σ : St)(Q:Bool->Hp->Prop)(b:Bool)(s':wl):Prop:=∃H',Inv X pins σ H' s'/\Q b H'
def AP(X:Cx)(pins:List (wg × Obj))(σ : St)(Q:List V->Hp->Prop)(us:List wf)(s':wl):Prop:=∃vs H',Inv X pins σ H' s'/\aM vs us/\Q vs H'
def SP(X:Cx)(pins:List (wg × Obj))(D:cu)(f:Flow)(s':wl):Prop :=
 match f with
 | .next=>∃σ' H',Inv X pins σ' H' s'/\D.nx σ' H'
 | .brk=>∃σ' H',Inv X pins σ' H' s'/\D.bk σ' H'
 | .cont=>∃σ' H',Inv X pins σ' H' s'/\D.ct σ' H'
 | .ret u=>∃v σ' H',Inv X pins σ' H' s'/\aP v u/\D.rt v H'
def PE(X:Cx)(e:Expr)(t:TE):Prop :=
 ∀(pins:List (wg × Obj))(s:wl)(σ : St)(H:Hp)(Q:VK),Inv X pins σ H s->t σ H Q->wt (model X.prog X.w) X.A (eval e X.env) (EP X pins σ Q) X.xe s
def PT(X:Cx)(e:Expr)(t:TT):Prop :=
 ∀(pins:List (wg × Obj))(s:wl)(σ : St)(H:Hp)(Q:Bool->Hp->Prop),Inv X pins σ H s->t σ H Q->wt (model X.prog X.w) X.A (isTrue e X.env (eval e X.env)) (TP X pins σ Q) X.xe s
def PW(X:Cx)(e:Expr)(t:TT):Prop :=
 ∀(whole:Sem wf)(pins:List (wg × Obj))(s:wl)(σ : St)(H:Hp)(Q:Bool->Hp->Prop),Inv X pins σ H s->t σ H Q->wt (model X.prog X.w) X.A (isTrue e X.env whole) (TP X pins σ Q) X.xe s
theorem PW.pt{X:Cx}{e:Expr}{t:TT}(h:PW X e t):PT X e t:=h _
def PA(X:Cx)(es:List Expr)(t:TA):Prop :=
 ∀(pos:Pos)(pins:List (wg × Obj))(s:wl)(σ : St)(H:Hp)(Q:List V->Hp->Prop),Inv X pins σ H s->t σ H Q->wt (model X.prog X.w) X.A (spliced (VN pos (wX es X.env))) (AP X pins σ Q) X.xe s
def PS(X:Cx)(st:vo)(t:TS):Prop :=
 ∀(pins:List (wg × Obj))(s:wl)(σ : St)(H:Hp)(D:cu),Inv X pins σ H s->t D σ H->wt (model X.prog X.w) X.A (exec st X.env) (SP X pins D) X.xe s
def e_(X:Cx)(st:List vo)(t:TS):Prop :=
 ∀(pins:List (wg × Obj))(s:wl)(σ : St)(H:Hp)(D:cu),Inv X pins σ H s->t D σ H->wt (model X.prog X.w) X.A (execs st X.env) (SP X pins D) X.xe s
theorem aD{α : Type}{t:Sem α}{Q Q' : α -> wl->Prop}{M:Model}{A:w5}{E:wf->wl->Prop}{s:wl}(h:wt M A t Q E s)(hQ:∀a s,Q a s->Q' a s):wt M A t Q' E s:=WF h hQ λ_ _ x=>x
section
variable{X:Cx}
variable{x:Str}{u:wf}
def fO(i:Nat):TE:=λσ H Q=>∃v,σ[i]? = some (some v)/\Q v H
def tC(v:V):TE:=λ_ H Q=>Q v H
theorem MT{i:Nat}{pos:Pos}(hN:X.N[i]? = some x)(hv:pf X.env.scope x)(hd:(x == ("__debug__" : Str))=false:=by decide)(hcd:(x == ("__classdict__" : Str))=false:=by decide):PE X (.Name x pos) (fO i):=by
 intro pins s σ H Q I h;obtain⟨v,e,h⟩:=h;obtain⟨m,hn,hl⟩:=I.loc;obtain⟨u,r,l⟩:=hl i x v hN e hv;have fin:EP X pins σ Q u s:=⟨v,H,I,r,h⟩;rcases l with⟨hk,hm⟩ | ⟨hk,c,hc,hcell⟩
 ·exact wpAny_Name (wpAny_loadName_local I.ok.kind hk hn hm fin) hd
 ·rcases hk with hk | hk
  ·exact wpAny_Name (wpAny_loadName_cell I.ok.kind hk hc hcell fin) hd
  ·exact wpAny_Name (wpAny_loadName_free I.ok.kind hk hc hcell fin hcd) hd
theorem av{i j pos} : PE X (.Constant (.int i) j pos) (tC (.int i)):=λ_ _ _ H _ I h=>wpAny_Constant_int ⟨.int i,H,I.tok _,⟨_,rfl⟩,h⟩
theorem fB{b j pos} : PE X (.Constant (.bool b) j pos) (tC (.bl b)):=λ_ _ _ H _ I h=>Constant_bool ⟨.bl b,H,I,rfl,h⟩
theorem j5{j pos} : PE X (.Constant .none j pos) (tC .bC):=λ_ _ _ H _ I h=>Constant_none ⟨.bC,H,I,rfl,h⟩
theorem cv{x j pos} : PE X (.Constant (.str x) j pos) (tC (.str x)):=λ_ _ _ H _ I h=>Calls.Constant_str ⟨.str x,H,I.tok _,⟨_,rfl⟩,h⟩
def Gl(X:Cx)(x:Str):Prop:=X.env.kindOf x=some .globalImplicit
theorem nI{E:wf->wl->Prop}{pins:List (wg × Obj)}{s:wl}{σ : St}{H:Hp}{pos:Pos}{Q:wf->wl->Prop}(I:Inv X pins σ H s)(hg:Gl X x)(hm:X.mg x=some u)(h:Q u s)
  (hd:(x == ("__debug__" : Str))=false:=by decide):wt (model X.prog X.w) X.A (eval (.Name x pos) X.env) Q E s :=
 xo I.ok.kind hg (Calls.loadGlobal_global (by rw[I.ok.glob];exact I.mod.glob.keeps I.bk) hm h) hd
theorem gK{E:wf->wl->Prop}{pins:List (wg × Obj)}{s:wl}{σ : St}{H:Hp}{pos:Pos}{Q:wf->wl->Prop}(I:Inv X pins σ H s)(hg:Gl X x)(hm:X.mg x=none)(hv:vJ x=some u)(h:Q u s)
  (hn:x≠"__name__":=by decide) (hd:(x == ("__debug__" : Str))=false:=by decide):wt (model X.prog X.w) X.A (eval (.Name x pos) X.env) Q E s:=by
 obtain⟨mb,h1,h2⟩:=I.mod.blt;exact xo I.ok.kind hg (Calls.loadGlobal_builtin (by rw[I.ok.glob];exact I.mod.glob.keeps I.bk) hm (by rw[I.ok.blt];exact h1.keeps I.bk) ((h2 x hn).trans hv) h) hd
theorem br{v:V}{pos:Pos}(hg:Gl X x)(hm:X.mg x=some u)(r:aP v u)(hd:(x == ("__debug__" : Str))=false:=by decide):PE X (.Name x pos) (tC v) :=
 λ_ _ _ H _ I h=>nI I hg hm ⟨v,H,I,r,h⟩ hd
theorem kW{v:V}{pos:Pos}(hg:Gl X x)(hm:X.mg x=none)(hv:vJ x=some u)(r:aP v u)(hn:x≠"__name__":=by decide)(hd:(x == ("__debug__" : Str))=false:=by decide):PE X (.Name x pos) (tC v) :=
 λ_ _ _ H _ I h=>gK I hg hm hv ⟨v,H,I,r,h⟩ hn hd
def t2I(ta tb:TE)(k:Int->Int->Hp->Prop):St->Hp->Prop:=λσ H=>ta σ H λx H1=>tb σ H1 λy H2=>∃i j,x=.int i/\y=.int j/\k i j H2
variable{a b:Expr}{ta tb:TE}{pos:Pos}
variable{op:CmpOp}{t:TE}
def PC(X:Cx)(op:CmpOp)(a b:Expr)(t:TE):Prop :=
 ∀(pins:List (wg × Obj))(s:wl)(σ : St)(H:Hp)(Q:VK),Inv X pins σ H s->t σ H Q ->
  wt (model X.prog X.w) X.A (eval a X.env) (λv s₁=>wt (model X.prog X.w) X.A (eval b X.env) (λu s₂=>wt (model X.prog X.w) X.A (vU op v u) (EP X pins σ Q) X.xe s₂) X.xe s₁) X.xe s
theorem SI(b:Expr)(h:op≠.In)(h2:op≠.NotIn):VY op b=false:=by
 have e1:(op == CmpOp.In)=false:=by cases op<;>first | rfl | exact absurd rfl h
 have e2:(op == CmpOp.NotIn)=false:=by cases op<;>first | rfl | exact absurd rfl h2
 cases b<;>simp[VY,e1,e2]
def oh(p:Int->Int->Bool)(ta tb:TE):TE:=λσ H Q=>t2I ta tb (λi j H2=>Q (.bl (p i j)) H2) σ H
abbrev tLt:TE->TE->TE:=oh λi j=>decide (i<j)
abbrev tLe:TE->TE->TE:=oh λi j=>decide (i<=j)
abbrev tGt:TE->TE->TE:=oh λi j=>decide (j<i)
abbrev tGe:TE->TE->TE:=oh λi j=>decide (j<=i)
abbrev zEk:TE->TE->TE:=oh λi j=>decide (i=j)
abbrev zEj:TE->TE->TE:=oh λi j=>!decide (i=j)
def tB(t:TE):TT:=λσ H Q=>t σ H λx H1=>∃c,x=.bl c/\Q c H1
theorem zCP(h:PC X op a b t)(h1:VY op b=false:=by first | exact SI _ (by decide) (by decide) | rfl):PE X (.Compare a [op] [b] pos) t:=λpins s σ H Q I hw=>wpAny_Compare1 (h pins s σ H Q I hw) h1
theorem zCd(h:PC X op a b t)(h1:VY op b=false:=by first | exact SI _ (by decide) (by decide) | rfl):PT X (.Compare a [op] [b] pos) (tB t):=by
 intro pins s σ H Q I hw;refine wpAny_isTrue_Compare1 (aD (h pins s σ H _ I hw) λv s1 h1=>aD h1 λu s2 h2=>aD h2 λc s3 ⟨x,H1,I1,r1,q1⟩=>?_) h1;obtain⟨d,rfl,q⟩:=q1;cases r1;exact Wo ⟨H1,I1,q⟩
theorem di{e:Expr}(h:PE X e t)(he:∀whole,isTrue e X.env whole=(do let v <- whole;standAt e.pos;holding [v] (truthy v)):=by intro _;rfl):PT X e (tB t):=by
 intro pins s σ H Q I hw;refine isTrue_plain (aD (h pins s σ H _ I hw) λv s1 ⟨x,H1,I1,r1,q1⟩=>?_) (he _);obtain⟨d,rfl,q⟩:=q1;cases r1;exact Wo ⟨H1,I1,q⟩
variable{tA tB':TT}{b7:List Expr}
def Q_(t u:TT):TT:=λσ H Q=>t σ H λc H1=>if c=true then u σ H1 Q else Q false H1
def Ln(t u:TT):TT:=λσ H Q=>t σ H λc H1=>if c=true then Q true H1 else u σ H1 Q
def Su(t:TT):TT:=λσ H Q=>t σ H λc H1=>Q (!c) H1
theorem pL(ha:PT X a tA):PW X (.BoolOp .And [a] pos) tA:=by
 intro wh pins s σ H Q I h;refine isTrue_and (aD (ha pins s σ H Q I h) λc s1 e=>?_);cases c with
 | true=>exact isTrue_and_nil e
 | false=>exact e
theorem jr(ha:PT X a tA):PW X (.BoolOp .Or [a] pos) tA:=by
 intro wh pins s σ H Q I h;refine isTrue_or (aD (ha pins s σ H Q I h) λc s1 e=>?_);cases c with
 | false=>exact isTrue_or_nil e
 | true=>exact e
theorem q_(ha:PT X a tA)(hb:PW X (.BoolOp .And (b::b7) pos) tB'):PW X (.BoolOp .And (a::b::b7) pos) (Q_ tA tB'):=by
 intro wh pins s σ H Q I h;refine isTrue_and (aD (ha pins s σ H _ I h) λc s1 ⟨H1,I1,q1⟩=>?_);cases c with
 | true=>exact hb wh pins s1 σ H1 Q I1 q1
 | false=>exact⟨H1,I1,q1⟩
theorem iH(ha:PT X a tA)(hb:PW X (.BoolOp .Or (b::b7) pos) tB'):PW X (.BoolOp .Or (a::b::b7) pos) (Ln tA tB'):=by
 intro wh pins s σ H Q I h;refine isTrue_or (aD (ha pins s σ H _ I h) λc s1 ⟨H1,I1,q1⟩=>?_);cases c with
 | true=>exact⟨H1,I1,q1⟩
 | false=>exact hb wh pins s1 σ H1 Q I1 q1
theorem dZ(ha:PT X a tA):PT X (.UnaryOp .Not a pos) (Su tA):=by
 intro pins s σ H Q I h;exact isTrue_not (ha pins s σ H (λc H1=>Q (!c) H1) I h)
def Ou(ta tb:TE):TE:=λσ H Q=>ta σ H λx H1=>∃c,x=.bl c/\if c=true then tb σ H1 Q else Q (.bl false) H1
def KO(ta:TE):TE:=λσ H Q=>ta σ H λx H1=>∃c,x=.bl c/\Q (.bl (!c)) H1
theorem mh{op}{t:TE}(h:PE X a t):PE X (.BoolOp op [a] pos) t:=λpins s σ H Q I hw=>BoolOp_one (h pins s σ H Q I hw)
theorem iP(ha:PE X a ta)(hb:PE X (.BoolOp .And (b::b7) pos) tb):PE X (.BoolOp .And (a::b::b7) pos) (Ou ta tb):=by
 intro pins s σ H Q I h;refine BoolOp_and (aD (ha pins s σ H _ I h) λv s1 ⟨x,H1,I1,r1,q1⟩=>?_);obtain⟨c,rfl,q1⟩:=q1;cases r1;refine Wo ?_;cases c with
 | true=>exact hb pins s1 σ H1 Q I1 q1
 | false=>exact⟨.bl false,H1,I1,rfl,q1⟩
theorem om(ha:PE X a ta):PE X (.UnaryOp .Not a pos) (KO ta):=by
 intro pins s σ H Q I h;refine UnaryOp_ (aD (ha pins s σ H _ I h) λv s1 ⟨x,H1,I1,r1,q1⟩=>?_);obtain⟨c,rfl,q1⟩:=q1;cases r1;exact not_of (Wo ⟨.bl (!c),H1,I1,rfl,q1⟩)
def NK(t:TT)(ta tb:TE):TE:=λσ H Q=>t σ H λc H1=>if c=true then ta σ H1 Q else tb σ H1 Q
theorem zH{c:Expr}(hc:PT X c tA)(ha:PE X a ta)(hb:PE X b tb):PE X (.IfExp c a b pos) (NK tA ta tb):=by
 intro pins s σ H Q I h;refine wpAny_IfExp (aD (hc pins s σ H _ I h) λd s1 ⟨H1,I1,q1⟩=>?_);cases d with
 | true=>exact ha pins s1 σ H1 Q I1 q1
 | false=>exact hb pins s1 σ H1 Q I1 q1
end
def aG(K:wb)(H:Hp)(a:wg)(xs:List V):Prop :=
 Rd H a (.lst xs) \/
  ∃(o:Obj)(its:Array wf)(n:Nat),K.lookup a=some o/\o.cls=.type "list"/\o.dict=none/\o.data=.seq its n/\its.size<=wZ/\aM xs its.toList
def aI(K:wb)(H:Hp)(a:wg)(xs:List V):Prop :=
 Rd H a (.tup xs) \/
  ∃(o:Obj)(its:Array wf)(n:Nat),K.lookup a=some o/\o.cls=.type "tuple"/\o.data=.seq its n/\its.size<=wZ/\aM xs its.toList
def zEb:wf->Option V
 | .none=>some .bC
 | .bool b=>some (.bl b)
 | .int i _=>some (.int i)
 | .str x _=>some (.str x)
 | .bytes b _=>some (.byt b)
 | .float b _=>some (.flt b)
 | .ref a=>some (.ref a)
 | .type n=>some (.ty n)
 | _=>none
theorem aP.abs{x:V}{u:wf}(r:aP x u):zEb u=some x:=by
 cases x with
 | bC=>cases r;rfl
 | bl _=>cases r;rfl
 | int _=>obtain⟨t,rfl⟩:=r;rfl
 | str _=>obtain⟨t,rfl⟩:=r;rfl
 | byt _=>obtain⟨t,rfl⟩:=r;rfl
 | flt _=>obtain⟨t,rfl⟩:=r;rfl
 | ref _=>cases r;rfl
 | ty _=>cases r;rfl
theorem aP.inj{x y:V}{u:wf}(r:aP x u)(q:aP y u):x=y:=wN (r.abs.symm.trans q.abs)
theorem aM.inj:∀{xs ys:List V}{us:List wf},aM xs us->aM ys us->xs=ys
 | _,_,_,.nil,.nil=>rfl
 | _,_,_,.cons r t,.cons r' t'=>by rw[r.inj r',aM.inj t t']
section
variable{X:Cx}{pins:List (wg × Obj)}{σ : St}{H:Hp}{s:wl}{a:wg}{xs ys:List V}
theorem aG.of{K:wb}(h:H a=some (.lst xs)):aG K H a xs:=.inl (.inl h)
theorem aI.of{K:wb}(h:H a=some (.tup xs)):aI K H a xs:=.inl (.inl h)
theorem Inv.list(I:Inv X pins σ H s)(h:aG X.K H a xs):∃its:List wf,aM xs its/\PlainL s.heap a its.toArray/\xs.length<=wZ:=by
 rcases h with h | ⟨o,its,n,hk,hc,hd,hs,hz,r⟩
 ·obtain⟨z,its,n,r,e⟩:=h.ok I.aA
  exact⟨its,r,⟨_,n,e,rfl,rfl,rfl⟩,z⟩
 ·refine⟨its.toList,r,⟨o,n,I.cU a o hk,hc,hd,by simpa using hs⟩,?_⟩
  have e:=r.length;simp only[wI]at e
  lia
theorem Inv.tuple(I:Inv X pins σ H s)(h:aI X.K H a xs):∃its:List wf,aM xs its/\IsTup s.heap a its.toArray/\xs.length<=wZ:=by
 rcases h with h | ⟨o,its,n,hk,hc,hs,hz,r⟩
 ·obtain⟨z,its,r,p⟩:=h.ok I.aA
  exact⟨its,r,p,z⟩
 ·refine⟨its.toList,r,⟨o,I.cU a o hk,hc,n,by simpa using hs⟩,?_⟩
  have e:=r.length;simp only[wI]at e
  lia
theorem Inv.sk(I:Inv X pins σ H s)(h:aG X.K H a xs)(h':aG X.K H a ys):xs=ys:=by
 obtain⟨its,r,⟨o,n,e,_,_,d⟩,_⟩:=I.list h;obtain⟨its',r',⟨o',n',e',_,_,d'⟩,_⟩:=I.list h';rw[e]at e';cases e';rw[d]at d'
 injection d' with d1 _
 have:its=its':=by simpa using congrArg UR d1
 subst this;exact r.inj r'
theorem Inv.AX(I:Inv X pins σ H s)(h:aI X.K H a xs)(h':aI X.K H a ys):xs=ys:=by
 obtain⟨its,r,⟨o,e,_,n,d⟩,_⟩:=I.tuple h;obtain⟨its',r',⟨o',e',_,n',d'⟩,_⟩:=I.tuple h';rw[e]at e';cases e';rw[d]at d'
 injection d' with d1 _
 have:its=its':=by simpa using congrArg UR d1
 subst this;exact r.inj r'
end
abbrev Cx.jl(X:Cx)(E:wf->wl->Prop):Cx:={X with xe:=E}
abbrev Cx.tE(X:Cx):Cx:=X.jl λ_ _=>False
theorem Cx.Ok.jl{X:Cx}(ok:X.Ok)(E:wf->wl->Prop):(X.jl E).Ok :=
 ⟨ok.mod,ok.kind,ok.glob,ok.blt,ok.above,ok.inj,ok.has,ok.jQ,ok.hd,ok.frames,ok.k_,ok.nX,ok.bs,ok.gE,ok.jN,ok.ky,ok.eB,ok.h_⟩
theorem Cx.Ok.kx{X:Cx}{E:wf->wl->Prop}(ok:(X.jl E).Ok):X.Ok :=
 ⟨ok.mod,ok.kind,ok.glob,ok.blt,ok.above,ok.inj,ok.has,ok.jQ,ok.hd,ok.frames,ok.k_,ok.nX,ok.bs,ok.gE,ok.jN,ok.ky,ok.eB,ok.h_⟩
section
variable{X:Cx}{pins:List (wg × Obj)}{σ : St}{H:Hp}{s:wl}{E:wf->wl->Prop}
theorem Inv.jl(I:Inv X pins σ H s)(E:wf->wl->Prop):Inv (X.jl E) pins σ H s:=⟨I.ok.jl E,I.os,I.bare,I.base,I.loc,I.cell,I.free,I.fc,I.pin,I.aA,I.len⟩
theorem Inv.kx(I:Inv (X.jl E) pins σ H s):Inv X pins σ H s:=⟨I.ok.kx,I.os,I.bare,I.base,I.loc,I.cell,I.free,I.fc,I.pin,I.aA,I.len⟩
theorem SP.kx{D:cu}{f:Flow}{s':wl}(h:SP (X.jl E) pins D f s'):SP X pins D f s':=by
 cases f with
 | next=>obtain⟨σ',H',I,q⟩:=h;exact⟨σ',H',I.kx,q⟩
 | brk=>obtain⟨σ',H',I,q⟩:=h;exact⟨σ',H',I.kx,q⟩
 | cont=>obtain⟨σ',H',I,q⟩:=h;exact⟨σ',H',I.kx,q⟩
 | ret u=>obtain⟨v,σ',H',I,r,q⟩:=h;exact⟨v,σ',H',I.kx,r,q⟩
theorem e_.tE{st:List vo}{t:TS}(h:e_ X.tE st t):e_ X st t:=λpins s σ H D I hw =>
 WF (h pins s σ H D (I.jl _) hw) (λ_ _ q=>q.kx) λ_ _ z=>WB z
end
section
variable{X:Cx}{st:vo}{b7:List vo}{t u:TS}{e:Expr}{te:TE}{pos:Pos}
def Ls:TS:=λD σ H=>D.nx σ H
def Ct(t u:TS):TS:=λD σ H=>t {D with nx:=u D} σ H
theorem bN:e_ X [] Ls:=λ_ _ σ H _ I h=>Qh ⟨σ,H,I,h⟩
theorem ak(h1:PS X st t)(h2:e_ X b7 u):e_ X (st::b7) (Ct t u):=by
 intro pins s σ H D I h;refine wpAny_execs_cons (aD (h1 pins s σ H {D with nx:=u D} I h) λf s1 q=>?_);cases f with
 | next =>
  obtain⟨σ',H',I',q⟩:=q;exact h2 pins s1 σ' H' D I' q
 | ret v=>exact q
 | brk=>exact q
 | cont=>exact q
theorem au(h1:PS X st t):e_ X [st] t:=by
 intro pins s σ H D I h;refine wpAny_execs_cons (aD (h1 pins s σ H D I h) λf s1 q=>?_);cases f with
 | next=>exact Qh q
 | ret v=>exact q
 | brk=>exact q
 | cont=>exact q
theorem Inv.quiet{pins:List (wg × Obj)}{σ : St}{H:Hp}{s:wl}(I:Inv X pins σ H s):interactive X.env=false:=by simp[interactive,I.ok.kind]
def OA(te:TE):TS:=λD σ H=>te σ H λ_ H1=>D.nx σ H1
theorem kb(he:PE X e te)(hs:swapsWith e none pos.line X.env=pure false:=by rfl):PS X (.Expr e pos) (OA te):=by
 intro pins s σ H D I h;exact wpAny_Expr_any (aD (he pins s σ H _ I h) λv s1 ⟨x,H1,I1,r1,q1⟩=>⟨σ,H1,I1,q1⟩) I.quiet hs
def O1(te:TE):TS:=λD σ H=>te σ H D.rt
theorem aE(he:PE X e te):PS X (.Return (some e) pos) (O1 te):=by
 intro pins s σ H D I h;exact wpAny_Return_some (aD (he pins s σ H _ I h) λv s1 ⟨x,H1,I1,r1,q1⟩=>⟨x,σ,H1,I1,r1,q1⟩)
def Tu(c:TT)(t u:TS):TS:=λD σ H=>c σ H λb H1=>if b=true then t D σ H1 else u D σ H1
theorem bE{c:Expr}{a b:List vo}{tc:TT}(hc:PT X c tc)(ha:e_ X a t)(hb:e_ X b u):PS X (.If c a b pos) (Tu tc t u):=by
 intro pins s σ H D I h;refine wpAny_If (aD (hc pins s σ H _ I h) λd s1 ⟨H1,I1,q1⟩=>?_);cases d with
 | true=>exact ha pins s1 σ H1 D I1 q1
 | false=>exact hb pins s1 σ H1 D I1 q1
def zC4:TS:=λ_ _ _=>False
theorem Ca:PS X st zC4:=λ_ _ _ _ _ _ h=>h.elim
end
abbrev TG:=V->St->Hp->(St->Hp->Prop)->Prop
abbrev iJ:=List V->St->Hp->(St->Hp->Prop)->Prop
def PG(X:Cx)(target:Expr)(t:TG):Prop :=
 ∀(pins:List (wg × Obj))(s:wl)(σ : St)(H:Hp)(v:V)(u:wf)(Q:St->Hp->Prop),Inv X pins σ H s->aP v u->t v σ H Q ->
  wt (model X.prog X.w) X.A (assign target X.env u) (λ_ s'=>∃σ' H',Inv X pins σ' H' s'/\Q σ' H') X.xe s
def mL(X:Cx)(ts:List Expr)(t:iJ):Prop :=
 ∀(pins:List (wg × Obj))(s:wl)(σ : St)(H:Hp)(vs:List V)(us:List wf)(Q:St->Hp->Prop),Inv X pins σ H s->aM vs us->t vs σ H Q ->
  wt (model X.prog X.w) X.A (assignInOrder ((VI ts X.env).map (·.2)) us) (λ_ s'=>∃σ' H',Inv X pins σ' H' s'/\Q σ' H') X.xe s
abbrev Aq:=V->V->V->Hp->(Hp->Prop)->Prop
def RZ(X:Cx)(t:Aq):Prop :=
 ∀(pins:List (wg × Obj))(s:wl)(σ : St)(H:Hp)(o i v:V)(ov iv u:wf)(Q:Hp->Prop),Inv X pins σ H s->aP o ov->aP i iv->aP v u->t o i v H Q ->
  wt (model X.prog X.w) X.A (setItem ov iv u) (λ_ s'=>∃H',Inv X pins σ H' s'/\Q H') X.xe s
abbrev rB:=V->V->Hp->VK->Prop
def Ky(X:Cx)(op:Operator)(t:rB):Prop :=
 ∀(pins:List (wg × Obj))(s:wl)(σ : St)(H:Hp)(x y:V)(v u:wf)(Q:VK),Inv X pins σ H s->aP x v->aP y u->t x y H Q ->
  wt (model X.prog X.w) X.A (inplaceOp op v u) (EP X pins σ Q) X.xe s
section
variable{X:Cx}{pos:Pos}
variable{i:Nat}{x:Str}{e:Expr}{te:TE}{pos':Pos}
def fG(i:Nat):TG:=λv σ H Q=>Q (σ.set i (some v)) H
theorem dh(hN:X.N.Nodup)(hi:X.N[i]? = some x)(hx:Loc X.env.scope x)(hf:X.fn x=true\/X.env.scope.names.lookup x=some .local:=by first | exact .inl rfl | exact .inr rfl | assumption):PG X (.Name x pos) (fG i):=by
 intro pins s σ H v u Q I r h;exact wpAny_assign_Name (nN I hN hi hx r (λs' I'=>⟨_,H,I',h⟩) hf)
def EK:iJ:=λvs σ H Q=>vs=[]/\Q σ H
def zg(t:TG)(u:iJ):iJ:=λvs σ H Q=>∃v r,vs=v::r/\t v σ H λσ' H'=>u r σ' H' Q
theorem gZ :mL X [] EK:=by
 intro pins s σ H vs us Q I r h;obtain⟨e,h⟩:=h;subst e;cases r;exact assignInOrder_nil ⟨σ,H,I,h⟩
theorem dw{es:List Expr}{t:TG}{u:iJ}(h1:PG X e t)(h2:mL X es u)
  (hs:(VI (e::es) X.env).map (·.2)=assign e X.env::(VI es X.env).map (·.2):=by rfl):mL X (e::es) (zg t u):=by
 intro pins s σ H vs us Q I r h;obtain⟨v,vr,e1,h⟩:=h;subst e1;cases r with
 | cons r rr =>
  rw[hs];refine assignInOrder_cons (aD (h1 pins s σ H _ _ _ I r h) λ_ s1 ⟨σ1,H1,I1,q1⟩=>?_);exact h2 pins s1 σ1 H1 _ _ Q I1 rr q1
def gW(K:wb)(n:Nat)(t:iJ):TG:=λv σ H Q=>∃a xs,v=.ref a/\aI K H a xs/\xs.length=n/\t xs σ H Q
theorem iY{es:List Expr}{k:Nat}{t:iJ}{n:Nat}(hc:X.calm=true)(h:mL X es t)
  (hn:(VI es X.env).length=n:=by rfl) (hst:(VI es X.env).findIdx? (·.1)=none:=by rfl):PG X (.Tuple es k pos) (gW X.K n t):=by
 intro pins s σ H v u Q I r hw;obtain⟨a,xs,e1,hq,hl,hw⟩:=hw;subst e1;cases r;obtain⟨its,rv,ht,hz⟩:=I.tuple hq;refine assign_Tuple_tuple (I.ok.hd hc) ht (by simp[hn,<- hl,rv.length]) hst λh' hx=>?_
 have I1:Inv X pins σ H {s with heap:=h'}:=I.kept (t':=s.toks) λb o e=>hx b o (wL (wz e)) e
 exact h pins _ σ H xs _ Q I1 (by simpa using rv) hw
def Ri(to ti:TE)(t:Aq):TG:=λv σ H Q=>to σ H λo H1=>ti σ H1 λi H2=>t o i v H2 λH3=>Q σ H3
theorem tX{o i:Expr}{to ti:TE}{t:Aq}(ho:PE X o to)(hi:PE X i ti)(hs:RZ X t)
  (ha:∀v,assign (.Subscript o i pos) X.env v=(do
   let ov <- holding [v] (eval o X.env)
   let iv <- holding [v,ov] (eval i X.env)
   standAt pos
   holding [v,ov,iv] (setItem ov iv v)
   release [v,ov,iv] []):=by intro _;rfl):PG X (.Subscript o i pos) (Ri to ti t):=by
 intro pins s σ H v u Q I r h;rw[ha];refine we (vD (aD (ho pins s σ H _ I h) λov s1 ⟨x,H1,I1,r1,q1⟩=>?_));refine we (vD (aD (hi pins s1 σ H1 _ I1 q1) λiv s2 ⟨y,H2,I2,r2,q2⟩=>?_));refine we (qW (we (vD (aD (hs pins s2 σ H2 x y v ov iv u _ I2 r1 r2 r q2) λ_ s3 ⟨H3,I3,q3⟩=>?_))));exact wpAny_release ⟨σ,H3,I3,q3⟩
def kT(te:TE)(g:TG):TS:=λD σ H=>te σ H λx H1=>g x σ H1 D.nx
theorem nC{tg:Expr}{g:TG}(he:PE X e te)(hg:PG X tg g)(hs:swapsWithSole [tg] e pos.line X.env=pure false:=by rfl)(hw:swappedStores [tg] e X.env=pure none:=by rfl)
  (h1:(VI [tg] X.env).map (·.2)=[assign tg X.env]:=by rfl):PS X (.Assign [tg] e pos) (kT te g):=by
 intro pins s σ H D I h;refine wpAny_Assign_stores (aD (he pins s σ H _ I h) λv s1 ⟨x,H1,I1,r1,q1⟩=>?_) hs hw;rw[h1];exact aD (hg pins s1 σ H1 x v _ I1 r1 q1) λ_ s2 q=>q
theorem zBY(hN:X.N.Nodup)(hi:X.N[i]? = some x)(hx:Loc X.env.scope x)(he:PE X e te)(hs:swapsWith e (some (.Name x pos')) pos.line X.env=pure false:=by rfl)(hf:X.fn x=true\/X.env.scope.names.lookup x=some .local:=by first | exact .inl rfl | exact .inr rfl | assumption) :
  PS X (.Assign [.Name x pos'] e pos) (kT te (fG i)):=by
 intro pins s σ H D I h;refine wpAny_Assign_Name (aD (he pins s σ H _ I h) λv s1 ⟨y,H1,I1,r1,q1⟩=>?_) hs;exact nN I1 hN hi hx r1 (λs2 I2=>⟨_,H1,I2,q1⟩) hf
def Pn(i j:Nat)(ta:TA):TS:=λD σ H=>ta σ H λvs H1=>∃v w,vs=[v,w]/\D.nx ((σ.set i (some v)).set j (some w)) H1
theorem zBF{j:Nat}{y:Str}{a b:Expr}{ta:TA}{px py pt:Pos}{kt k2 pt2}(hc:X.calm=true)(hN:X.N.Nodup)(hi:X.N[i]? = some x)(hj:X.N[j]? = some y)(hij:i≠j)
  (hx:X.env.scope.names.lookup x=some .local) (hy:X.env.scope.names.lookup y=some .local) (ha:PA X [a,b] ta)
  (hw:swappedStores [.Tuple [.Name x px,.Name y py] kt pt] (.Tuple [a,b] k2 pt2) X.env=pure (some [x,y]))
  (hs:swapsWithSole [.Tuple [.Name x px,.Name y py] kt pt] (.Tuple [a,b] k2 pt2) pos.line X.env=pure false:=by rfl) :
  PS X (.Assign [.Tuple [.Name x px,.Name y py] kt pt] (.Tuple [a,b] k2 pt2) pos) (Pn i j ta):=by
 intro pins s σ H D I h;rw[exec_Assign_arm];refine we (qW ?_);rw[hs];refine we (wp ?_);rw[if_neg (by decide)];refine we (Tuple_ (aD (ha _ pins s σ H _ I h) λus s1 ⟨vs,H1,I1,r1,q1⟩=>?_));obtain⟨v,w,e1,q1⟩:=q1;subst e1
 obtain⟨u1,u2,rfl,rv,rw'⟩:∃u1 u2,us=[u1,u2]/\aP v u1/\aP w u2:=by
  cases r1 with
  | cons p q =>
   cases q with
   | cons p' q' =>
    cases q';exact⟨_,_,rfl,p,p'⟩
 refine WA ?_ (by show 2<=wZ;decide);have I2:Inv X pins σ H1 {s1 with heap:=s1.heap.push {cls:=.type "tuple",data:=.seq [u1,u2].toArray}}:=I1.kept (t':=s1.toks) λb o e=>wn _ e
 rw[hw];refine we (wp ?_)
 show wt (model X.prog X.w) X.A (do rule "assign.swapped-stores";let items <- unpackItems (.ref s1.heap.objs.size) 2 none;assignInOrder [λv=>bindName X.env y v,λv=>bindName X.env x v] items.reverse;pure Flow.next) _ _ _
 refine we (qA (we (unpackItems_tuple (items:=#[u1,u2]) (I.ok.hd hc) (QN s1.heap _) λh' hx'=>?_)));have I3:=I2.kept (h':=h') (t':=s1.toks) λb o e=>hx' b o (wL (wz e)) e
 show wt _ _ (assignInOrder [λv=>bindName X.env y v,λv=>bindName X.env x v] [u2,u1] >>= λ_=>pure Flow.next) _ _ _
 refine we (assignInOrder_cons (wpAny_bindName (nN I3 hN hj (.inl hy) rw' (λs2 I4=>?_) (.inr hy))));refine assignInOrder_cons (wpAny_bindName (nN I4 hN hi (.inl hx) rv (λs3 I5=>assignInOrder_nil (wp ?_)) (.inr hx)));rw[List.set_comm _ _ (WI hij)]at I5;exact⟨_,H1,I5,q1⟩
def NM(i:Nat)(te:TE)(ti:rB):TS:=λD σ H=>∃x,σ[i]? = some (some x)/\te σ H λy H1=>ti x y H1 λz H2=>D.nx (σ.set i (some z)) H2
theorem zCz{op:Operator}{ti:rB}(hN:X.N.Nodup)(hi:X.N[i]? = some x)(hx:Loc X.env.scope x)(he:PE X e te)(ho:Ky X op ti)(hf:X.fn x=true\/X.env.scope.names.lookup x=some .local:=by first | exact .inl rfl | exact .inr rfl | assumption) :
  PS X (.AugAssign (.Name x pos') op e pos) (NM i te ti):=by
 intro pins s σ H D I h;obtain⟨v,e1,h⟩:=h;obtain⟨m,hn,hl⟩:=I.loc;have CM:pf X.env.scope x:=by rcases hx with k | k;exact .inl k;exact .inr (.inl k)
 obtain⟨u,r,l⟩:=hl i x v hi e1 CM;refine wpAny_AugAssign_Name ?_
 have go:wt (model X.prog X.w) X.A (eval e X.env) (λw s₂=>wt (model X.prog X.w) X.A (inplaceOp op u w) (λr s₃=>wt (model X.prog X.w) X.A (storeName X.env x r) (λ_=>SP X pins D .next) X.xe s₃) X.xe s₂) X.xe s:=by
  refine aD (he pins s σ H _ I h) λw s1 ⟨y,H1,I1,r1,q1⟩=>?_
  refine aD (ho pins s1 σ H1 v y u w _ I1 r r1 q1) λz s2 ⟨zv,H2,I2,r2,q2⟩=>?_
  exact nN I2 hN hi hx r2 (λs3 I3=>⟨_,H2,I3,q2⟩) hf
 rcases l with⟨hk,hm⟩ | ⟨hk,c,hc,hcell⟩
 ·exact wpAny_loadName_local I.ok.kind hk hn hm go
 ·rcases hk with hk | hk
  ·exact wpAny_loadName_cell I.ok.kind hk hc hcell go
  ·rcases hx with k | k
   ·have:X.env.scope.names.lookup x=some .free:=hk
    rw[k]at this;cases this
   ·have:X.env.scope.names.lookup x=some .free:=hk
    rw[k]at this;cases this
def MF(f:Int->Int->Int):rB:=λx y H Q=>∃i j,x=.int i/\y=.int j/\Q (.int (f i j)) H
theorem zCC :Ky X .Add (MF λi j=>i+j):=by
 intro pins s σ H x y v u Q I r1 r2 h;obtain⟨i,j,e1,e2,q⟩:=h;subst e1;subst e2;obtain⟨t,rfl⟩:=r1;obtain⟨t',rfl⟩:=r2;exact iadd_int ⟨.int _,H,I.tok _,⟨_,rfl⟩,q⟩
end
section
variable{X:Cx}{pos:Pos}
def B1(c:TT)(tb:TS):TS:=λD σ H=>∃W:Nat->St->Hp->Prop,(∃m,W m σ H) /\ ∀m σ H,W m σ H ->
 c σ H λb H1=>if b=true then ∃N:St->Hp->Prop,(∀σ' H',N σ' H'->∃m',m'<m/\W m' σ' H')/\tb {D with nx:=N,ct:=N,bk:=D.nx} σ H1 else D.nx σ H1
theorem lF{c:Expr}{body:List vo}{tc:TT}{tb:TS}(hp:PassesOwn (model X.prog X.w) X.A X.env X.xe)(hc:PT X c tc)(hb:e_ X body tb):PS X (.While c body [] pos) (B1 tc tb):=by
 intro pins s σ H D I h;obtain⟨W,⟨m0,w0⟩,turn⟩:=h;refine wpAny_While (codeAny_whileLoop (λn s'=>∃σ' H',Inv X pins σ' H' s'/\W n σ' H') ?_ m0 ⟨σ,H,I,w0⟩);rintro n s1 ⟨σ1,H1,I1,w1⟩;refine VS hp (aD (hc pins s1 σ1 H1 _ I1 (turn n σ1 H1 w1)) λb s2 ⟨H2,I2,q2⟩=>?_);cases b with
 | true =>
  obtain⟨N,hN,q2⟩:=q2;rw[if_pos rfl];refine VS hp (aD (hb pins s2 σ1 H2 _ I2 q2) λf s3 q3=>?_);cases f with
  | next =>
   obtain⟨σ3,H3,I3,n3⟩:=q3;obtain⟨m',hm,w3⟩:=hN σ3 H3 n3;exact⟨m',hm,σ3,H3,I3,w3⟩
  | cont =>
   obtain⟨σ3,H3,I3,n3⟩:=q3;obtain⟨m',hm,w3⟩:=hN σ3 H3 n3;exact⟨m',hm,σ3,H3,I3,w3⟩
  | brk=>exact q3
  | ret v=>exact q3
 | false =>
  rw[if_neg vI];exact Qh ⟨σ1,H2,I2,q2⟩
end
variable{tg:Expr}{P:wE}{w:World}{K:wb}
structure It where
 go:Nat->Hp->Prop
 fC:Nat->Hp->V->Hp->Prop
 stop:Nat->Hp->Prop
def d6(X:Cx)(pins:List (wg × Obj))(H:Hp)(b:wg):Prop :=
 H b=none/\b≠X.env.locals/\b ∉ X.fs/\(b∈X.ex\/X.s₀.heap.objs.size<=b)/\(∀x c,X.env.cells.lookup x=some c->c≠b) /\ ∀p∈X.pn++pins,p.1≠b
theorem Inv.jj{X:Cx}{pins:List (wg × Obj)}{σ : St}{H H':Hp}{s:wl}{b:wg}(I:Inv X pins σ H s)(hb:s.heap.objs.size<=b)(hn:H' b=none):d6 X pins H' b:=by
 refine⟨hn,vn (wW I.lt hb),I.Y8 hb,.inr (Wb I.sz hb),λx c e z=>?_,λp hp z=>?_⟩
 ·obtain⟨v,q⟩:=I.cell x c e
  exact absurd (wW q.lt (by rw[z];exact hb)) (VU _)
 ·exact absurd (wW (wz (I.pin p hp).1) (by rw[z];exact hb)) (VU _)
structure iL(P:wE)(w:World)(K:wb)(tg:Expr)(J:It)(fp:List wg)(it:wg)(tn:Nat->wJ->Prop):Prop where
 mem:it∈fp
 obj:∀i h,tn i h->∀b∈fp,∃o,h.get? b=some o /\ ∀v,o.data≠.cell v
 keep:∀i h h',tn i h->(∀b∈fp,∀o,h.get? b=some o->h'.get? b=some o)->tn i h'
 item:∀(X:Cx),X.prog=P->X.w=w->X.K=K->X.calm=true->∀(i:Nat)(pins:List (wg × Obj))(s:wl)(σ : St)(H:Hp)(E:wf->wl->Prop),Inv X pins σ H s->(∀b∈fp,d6 X pins H b)->tn i s.heap->J.go i H ->
   wt (model P w) X.A (Vn (.ref it)) (λr s1=>∃u,r=some u /\
     wt (model P w) X.A (Qi tg (.ref it) u) (λ_ s2=>∃x H',Inv X pins σ H' s2/\aP x u/\J.fC i H x H'/\tn (i+1) s2.heap /\ ∀b∈fp,H' b=none) E s1) E s
 done:∀(X:Cx),X.prog=P->X.w=w->X.K=K->X.calm=true->∀(i:Nat)(pins:List (wg × Obj))(s:wl)(σ : St)(H:Hp)(E:wf->wl->Prop),Inv X pins σ H s->(∀b∈fp,d6 X pins H b)->tn i s.heap->J.stop i H ->
   wt (model P w) X.A (Vn (.ref it)) (λr s1=>r=none/\Inv X pins σ H s1) E s
 self:∀(A:w5)(i:Nat)(s:wl)(Q:wf->wl->Prop)(E:wf->wl->Prop),tn i s.heap->Q (.ref it) s->wt (model P w) A (pyIter (.ref it)) Q E s
abbrev TI:=St->Hp->(It->Hp->Prop)->Prop
def Cz(X:Cx)(pins:List (wg × Obj))(σ : St)(tg:Expr)(R:It->Hp->Prop)(itv:wf)(s2:wl):Prop :=
 ∃(it:wg)(fp:List wg)(tn:Nat->wJ->Prop)(J:It)(H':Hp),itv=.ref it/\Inv X pins σ H' s2/\iL X.prog X.w X.K tg J fp it tn/\tn 0 s2.heap/\(∀b∈fp,d6 X pins H' b)/\R J H'
def PI(X:Cx)(tg iter:Expr)(wi:TI):Prop :=
 ∀(pins:List (wg × Obj))(s:wl)(σ : St)(H:Hp)(R:It->Hp->Prop),Inv X pins σ H s->wi σ H R ->
  wt (model X.prog X.w) X.A (eval iter X.env) (λv s1=>wt (model X.prog X.w) X.A (pyIter v) (Cz X pins σ tg R) X.xe s1) X.xe s
theorem za{M:Model}{A:w5}{E:wf->wl->Prop}{s:wl}{it:wg}{u:wf}{o:Obj}{n:String}{vs:Array wf}{Q:Unit->wl->Prop}(ho:s.heap.get? it=some o)(hc:o.cls=.type n)(hd:o.data=.fields vs)
   (hn:["enumerate","zip","dict_itemiterator","dict_reverseitemiterator","odict_iterator","itertools.zip_longest","itertools.pairwise"].contains n=false) (hQ:Q () s):wt M A (Qi tg (.ref it) u) Q E s:=by
 unfold Qi
 cases tg<;>first
   | exact wp hQ
   | (cases u<;>first
       | exact wp hQ
       | (refine we (wpAny_load ho ?_)
          rw[hc,hd]
          show wt M A (if(["enumerate","zip","dict_itemiterator","dict_reverseitemiterator","odict_iterator","itertools.zip_longest","itertools.pairwise"].contains n&&vs[0]? == some (V6 _))=true then _ else _) Q E s
          rw[if_neg (by intro h;rw[hn,Vg]at h;cases h)];exact wp hQ))
def iZ(K:wb)(a:wg):It :=
 ⟨λi H=>∃xs x,aG K H a xs/\xs[i]? = some x,λi H x H'=>H'=H /\ ∀xs,aG K H a xs->xs[i]? = some x,λi H=>∃xs,aG K H a xs/\xs.length<=i⟩
def jx(K:wb)(a:wg):It :=
 ⟨λi H=>∃xs x,aI K H a xs/\xs[i]? = some x,λi H x H'=>H'=H /\ ∀xs,aI K H a xs->xs[i]? = some x,λi H=>∃xs,aI K H a xs/\xs.length<=i⟩
def gg(lo:Int)(n:Nat):It:=⟨λi _=>i<n,λi H x H'=>H'=H/\x=.int (lo+i),λi _=>n<=i⟩
theorem EV(a it:wg):iL P w K tg (iZ K a) [it] it (λi h=>h.IsListIter it a i) where
 mem:=by simp
 obj:=λi h st b hb=>by
  have e:b=it:=by simpa using hb
  subst e;obtain⟨o,e,c,d⟩:=st;exact⟨o,e,λv z=>by rw[d]at z;cases z⟩
 keep:=λi h h' st k=>st.at λo e=>k it (by simp) o e
 item:=by
  intro X hP hw hK hc i pins s σ H E I hf st hg;subst hP hw hK;obtain⟨xs,x,hq,hx⟩:=hg;obtain⟨its,rv,p,hz⟩:=I.list hq;obtain⟨u,hu,ru⟩:=rv.get hx;obtain⟨f0,f1,f2,f3,f4,f5⟩:=hf it (by simp);refine wpAny_pyNext_list_item st p.isList (x:=u) (by simpa using hu) λh' st' sb=>?_
  have I1:Inv X pins σ H {s with heap:=h'}:=I.turned (t':=s.toks) (λb o hb e=>(sb.2 b hb).trans e) f0 f1 f3 f4 f5;obtain⟨o,e,c,d⟩:=id st';exact⟨u,rfl,za (s:={s with heap:=h'}) e c d (by decide) ⟨x,H,I1,ru,⟨rfl,λys hy=>by rw[I.sk hy hq];exact hx⟩,st',λb hb=>(hf b hb).1⟩⟩
 done:=by
  intro X hP hw hK hc i pins s σ H E I hf st hg;subst hP hw hK;obtain⟨xs,hq,hx⟩:=hg;obtain⟨its,rv,p,hz⟩:=I.list hq;obtain⟨f0,f1,f2,f3,f4,f5⟩:=hf it (by simp);have hl:=rv.length;exact wpAny_pyNext_list_end (I.ok.hd hc) st p.isList (by simp;lia) λh' eb=>⟨rfl,I.turned (t':=s.toks) (λb o hb e=>eb b o hb e) f0 f1 f3 f4 f5⟩
 self:=λ_ _ _ _ _ st h=>wpAny_pyIter_listiter st h
theorem N_(a it:wg):iL P w K tg (jx K a) [it] it (λi h=>h.IsTupleIter it a i) where
 mem:=by simp
 obj:=λi h st b hb=>by
  have e:b=it:=by simpa using hb
  subst e;obtain⟨o,e,c,d⟩:=st;exact⟨o,e,λv z=>by rw[d]at z;cases z⟩
 keep:=λi h h' st k=>st.at λo e=>k it (by simp) o e
 item:=by
  intro X hP hw hK hc i pins s σ H E I hf st hg;subst hP hw hK;obtain⟨xs,x,hq,hx⟩:=hg;obtain⟨its,rv,p,hz⟩:=I.tuple hq;obtain⟨u,hu,ru⟩:=rv.get hx;obtain⟨f0,f1,f2,f3,f4,f5⟩:=hf it (by simp);refine wpAny_pyNext_tuple_item st (show s.heap.IsTuple a its.toArray from p) (x:=u) (by simpa using hu) λh' st' sb=>?_
  have I1:Inv X pins σ H {s with heap:=h'}:=I.turned (t':=s.toks) (λb o hb e=>(sb.2 b hb).trans e) f0 f1 f3 f4 f5;obtain⟨o,e,c,d⟩:=id st';exact⟨u,rfl,za (s:={s with heap:=h'}) e c d (by decide) ⟨x,H,I1,ru,⟨rfl,λys hy=>by rw[I.AX hy hq];exact hx⟩,st',λb hb=>(hf b hb).1⟩⟩
 done:=by
  intro X hP hw hK hc i pins s σ H E I hf st hg;subst hP hw hK;obtain⟨xs,hq,hx⟩:=hg;obtain⟨its,rv,p,hz⟩:=I.tuple hq;obtain⟨f0,f1,f2,f3,f4,f5⟩:=hf it (by simp);have hl:=rv.length;exact wpAny_pyNext_tuple_end (I.ok.hd hc) st (show s.heap.IsTuple a its.toArray from p) (by simp;lia) λh' eb=>⟨rfl,I.turned (t':=s.toks) (λb o hb e=>eb b o hb e) f0 f1 f3 f4 f5⟩
 self:=λ_ _ _ _ _ st h=>wpAny_pyIter_tupleiter st h
theorem zsp(it:wg)(lo:Int)(n:Nat):iL P w K tg (gg lo n) [it] it (λi h=>IsRangeIter h it (lo+(i:Nat)*1) ((n:Int)-(i:Nat)) 1) where
 mem:=by simp
 obj:=λi h st b hb=>by
  have e:b=it:=by simpa using hb
  subst e
  exact⟨_,st,λv z=>by
   have z':Data.fields _=Data.cell v:=z;cases z'⟩
 keep:=λi h h' st k=>k it (by simp) _ st
 item:=by
  intro X hP hw hK hc i pins s σ H E I hf st hg;subst hP hw hK;obtain⟨f0,f1,f2,f3,f4,f5⟩:=hf it (by simp);have W:=Walks.range (prog:=X.prog) (w:=X.w) (I.ok.hd hc) it lo 1 n;refine W.item i s _ _ hg st λv h' tk hv st' kk=>?_
  obtain⟨t,rfl⟩:=hv;have I1:Inv X pins σ H {s with heap:=h',toks:=tk}:=I.turned (λb o hb e=>kk b o (by simpa using hb) e) f0 f1 f3 f4 f5;refine⟨_,rfl,za (s:={s with heap:=h',toks:=tk}) (n:="range_iterator") st' rfl rfl (by decide) ⟨.int (lo+i),H,I1,⟨t,?_⟩,⟨rfl,rfl⟩,st',λb hb=>(hf b hb).1⟩⟩;rw[Xa]
 done:=by
  intro X hP hw hK hc i pins s σ H E I hf st hg;subst hP hw hK;obtain⟨f0,f1,f2,f3,f4,f5⟩:=hf it (by simp);exact wpAny_pyNext_range_end (I.ok.hd hc) st (by have:n<=i:=hg;lia) λh' eb=>⟨rfl,I.turned (t':=s.toks) (λb o hb e=>eb b o hb e) f0 f1 f3 f4 f5⟩
 self:=λ_ _ _ _ _ st h=>wpAny_pyIter_rangeiter st h
section
variable{X:Cx}{tg:Expr}
variable{σ:St}{H:Hp}{fp:List wg}
def An(K:wb)(tl:TE):TI:=λσ H R=>tl σ H λx H1=>∃a,x=.ref a/\(∃xs,aG K H1 a xs)/\R (iZ K a) H1
def Eg(K:wb)(tl:TE):TI:=λσ H R=>tl σ H λx H1=>∃a,x=.ref a/\(∃xs,aI K H1 a xs)/\R (jx K a) H1
theorem ji{l:Expr}{tl:TE}(hl:PE X l tl):PI X tg l (An X.K tl):=by
 intro pins s σ H R I h;refine aD (hl pins s σ H _ I h) λv s1 ⟨x,H1,I1,r1,q1⟩=>?_
 obtain⟨a,e,⟨xs,hq⟩,q⟩:=q1;subst e;cases r1;obtain⟨its,rv,p,hz⟩:=I1.list hq;refine V7 p.isList ?_;refine⟨s1.heap.objs.size,[s1.heap.objs.size],_,_,H1,rfl,I1.kept (t':=s1.toks) λb o e=>wn _ e,EV a _,⟨_,wO _ rfl,rfl,rfl⟩,λb hb=>?_,q⟩;have e:b=s1.heap.objs.size:=by simpa using hb
 subst e;exact I1.jj (wo _) (I1.aA.fresh (wo _))
theorem jD{l:Expr}{tl:TE}(hl:PE X l tl):PI X tg l (Eg X.K tl):=by
 intro pins s σ H R I h;refine aD (hl pins s σ H _ I h) λv s1 ⟨x,H1,I1,r1,q1⟩=>?_
 obtain⟨a,e,⟨xs,hq⟩,q⟩:=q1;subst e;cases r1;obtain⟨its,rv,p,hz⟩:=I1.tuple hq;refine Vo (show s1.heap.IsTuple a its.toArray from p) ?_;refine⟨s1.heap.objs.size,[s1.heap.objs.size],_,_,H1,rfl,I1.kept (t':=s1.toks) λb o e=>wn _ e,N_ a _,⟨_,wO _ rfl,rfl,rfl⟩,λb hb=>?_,q⟩;have e:b=s1.heap.objs.size:=by simpa using hb
 subst e;exact I1.jj (wo _) (I1.aA.fresh (wo _))
theorem Mj{pins:List (wg × Obj)}{s:wl}{R:It->Hp->Prop}{E:wf->wl->Prop}{lo hi:Int}{t u v:Tok}{tk:Nat}(I:Inv X pins σ H s)(h1 : -(2^62)<=lo)(h2:lo<2^62)(h3 : -(2^62)<=hi)(h4:hi<2^62)
  (q:R (gg lo (hi-lo).toNat) H):wt (model X.prog X.w) X.A (pyIter (.ref s.heap.objs.size)) (Cz X pins σ tg R) E {s with heap:=s.heap.push {cls:=.type "range",data:=.fields #[.int lo t,.int hi u,.int 1 v]},toks:=tk}:=by
 refine wpAny_pyIter_range (UY ..) (small_one h1 h2 h3 h4) ?_;have I1:Inv X pins σ H {s with heap:=s.heap.push {cls:=.type "range",data:=.fields #[.int lo t,.int hi u,.int 1 v]},toks:=tk}:=I.kept λb o e=>wn _ e
 refine⟨(s.heap.push {cls:=.type "range",data:=.fields #[.int lo t,.int hi u,.int 1 v]}).objs.size,[(s.heap.push {cls:=.type "range",data:=.fields #[.int lo t,.int hi u,.int 1 v]}).objs.size],_,_,H,rfl,
  I1.kept (t':=tk) λb o e=>wn _ e,zsp _ lo (hi-lo).toNat,?_,λb hb=>?_,q⟩
 ·have e1:lo+((0:Nat):Int)*1=lo:=by simp
  have e2:(((hi-lo).toNat:Nat):Int)-((0:Nat):Int)=UW lo hi 1:=by rw[rangeSize_one];split<;>lia
  show IsRangeIter _ _ (lo+((0:Nat):Int)*1) ((((hi-lo).toNat:Nat):Int)-((0:Nat):Int)) 1
  rw[e1,e2];exact wO _ rfl
 ·have e:b=(s.heap.push {cls:=.type "range",data:=.fields #[.int lo t,.int hi u,.int 1 v]}).objs.size:=by simpa using hb
  subst e;exact I1.jj (wo _) (I1.aA.fresh (wo _))
def DZ(ta:TA):TI:=λσ H R=>ta σ H λvs H1=>∃j:Int,vs=[.int j] /\ -(2^62)<=j/\j<2^62/\R (gg 0 j.toNat) H1
def OG(ta:TA):TI:=λσ H R=>ta σ H λvs H1=>∃i j:Int,vs=[.int i,.int j]/\(-(2^62)<=i/\i<2^62 /\ -(2^62)<=j/\j<2^62)/\R (gg i (j-i).toNat) H1
theorem je{a:Expr}{ta:TA}{p pos:Pos}(hg:Gl X "range")(hm:X.mg "range"=none)(ha:PA X [a] ta)(hs:wX [a] X.env=[(false,eval a X.env)]:=by rfl):PI X tg (.Call (.Name "range" p) [a] [] pos) (DZ ta):=by
 intro pins s σ H R I h;refine Call_ (gK I hg hm boot_range (vE (aD (ha pos pins s σ H _ I h) λus s1 ⟨vs,H1,I1,r1,q1⟩=>?_) hs rfl));obtain⟨j,e,q1,q2,q⟩:=q1;subst e;cases r1 with
 | cons r rr =>
  cases rr;obtain⟨t,rfl⟩:=r;exact call_range_1 (Mj I1 (by lia) (by lia) q1 q2 (by simpa using q))
theorem zwg{a b:Expr}{ta:TA}{p pos:Pos}(hg:Gl X "range")(hm:X.mg "range"=none)(ha:PA X [a,b] ta)(hs:wX [a,b] X.env=[(false,eval a X.env),(false,eval b X.env)]:=by rfl)(hs2:wX [b] X.env=[(false,eval b X.env)]:=by rfl) :
  PI X tg (.Call (.Name "range" p) [a,b] [] pos) (OG ta):=by
 intro pins s σ H R I h;refine Call_ (gK I hg hm boot_range (vE (aD (ha pos pins s σ H _ I h) λus s1 ⟨vs,H1,I1,r1,q1⟩=>?_) (by rw[hs,hs2]) (by rw[hs2];rfl)));obtain⟨i,j,e,⟨q1,q2,q3,q4⟩,q⟩:=q1;subst e;cases r1 with
 | cons r rr =>
  cases rr with
  | cons r' rr =>
   cases rr;obtain⟨t,rfl⟩:=r;obtain⟨t',rfl⟩:=r';exact call_range_2 (Mj I1 q1 q2 q3 q4 q)
def lT(wi:TI)(g:TG)(tb:TS):TS:=λD σ H=>wi σ H λJ H1=>∃W:Nat->Nat->St->Hp->Prop,(∃m,W 0 m σ H1) /\ ∀i m σ H,W i m σ H ->
 (J.stop i H/\D.nx σ H)\/(J.go i H /\ ∃N:St->Hp->Prop,(∀σ' H',N σ' H'->∃m',m'<m/\W (i+1) m' σ' H') /\ ∀x H',J.fC i H x H'->g x σ H' λσ2 H2=>tb {D with nx:=N,ct:=N,bk:=D.nx} σ2 H2)
def rJ(fp:List wg)(h:wJ):List (wg × Obj):=fp.filterMap λb=>(h.get? b).map λo=>(b,o)
theorem Ah{h:wJ}{b:wg}{o:Obj}(hb:b∈fp)(e:h.get? b=some o):(b,o)∈rJ fp h:=Qj.mpr ⟨b,hb,by rw[e];rfl⟩
theorem zu9{h:wJ}{p:wg × Obj}(hp:p∈rJ fp h):p.1∈fp/\h.get? p.1=some p.2:=by
 obtain⟨b,hb,e⟩:=Qj.mp hp;cases q:h.get? b with
 | none=>rw[q]at e;cases e
 | some o =>
  rw[q]at e;have e':(b,o)=p:=wN e;subst e';exact⟨hb,q⟩
theorem Inv.pinned{pins:List (wg × Obj)}{s:wl}(I:Inv X pins σ H s)(hf:∀b∈fp,d6 X pins H b)(ho:∀b∈fp,∃o,s.heap.get? b=some o /\ ∀v,o.data≠.cell v):Inv X (pins++rJ fp s.heap) σ H s :=
 I.IU λp hp=>(Ws.mp hp).elim (λz=>I.pin p (Wa _ z)) λz=>by
  obtain⟨hb,e⟩:=zu9 z;obtain⟨f0,f1,f2,_⟩:=hf p.1 hb;obtain⟨o,e',d⟩:=ho p.1 hb;rw[e]at e';cases e';exact⟨e,f0,f1,f2,d⟩
theorem Inv.sr{pins pl:List (wg × Obj)}{s:wl}(I:Inv X (pins++pl) σ H s):Inv X pins σ H s:=I.IU λp hp=>I.pin p (Wa _ (Wp _ hp))
theorem fE{iter:Expr}{body:List vo}{wi:TI}{g:TG}{tb:TS}{pos:Pos}(hp:PassesOwn (model X.prog X.w) X.A X.env X.xe)(hc:X.calm=true)(hi:PI X tg iter wi)(hg:PG X tg g)(hb:e_ X body tb)
  (hs:∀x,foldedSetIterable iter X.env x=pure x:=by intro _;rfl):PS X (.For tg iter body [] pos) (lT wi g tb):=by
 intro pins s σ H D I h;refine wpAny_For (aD (hi pins s σ H _ I h) λv s1 h1=>aD h1 λitv s2 h2=>?_) hs;obtain⟨it,fp,tn,J,H2,e,I2,T,st2,f2,W,⟨m0,w0⟩,turn⟩:=h2;subst e
 have stat:∀{H':Hp},(∀b∈fp,H' b=none)->∀b∈fp,d6 X pins H' b:=λhn b hb=>⟨hn b hb,(f2 b hb).2⟩
 refine codeAny_forLoop_any (λn s'=>∃i σ' H',Inv X pins σ' H' s'/\tn i s'.heap/\(∀b∈fp,H' b=none)/\W i n σ' H') ?_ m0 ⟨0,σ,H2,I2,st2,λb hb=>(f2 b hb).1,w0⟩;rintro n s3 ⟨i,σ3,H3,I3,st3,fr3,w3⟩;rcases turn i n σ3 H3 w3 with⟨stop,qn⟩ | ⟨go,N,hN,step⟩
 ·refine VS hp (aD (T.done X rfl rfl rfl hc i pins s3 σ3 H3 X.xe I3 (stat fr3) st3 stop) λr s4 ⟨hr,I4⟩=>?_)
  subst hr;exact Qh ⟨σ3,H3,I4,qn⟩
 ·refine VS hp (aD (T.item X rfl rfl rfl hc i pins s3 σ3 H3 X.xe I3 (stat fr3) st3 go) λr s4 ⟨u,hr,h4⟩=>?_)
  subst hr;refine VS hp (aD h4 λ_ s5 ⟨x,H5,I5,r5,y5,st5,fr5⟩=>?_);have I5':=I5.pinned (stat fr5) (T.obj _ _ st5);refine VS hp (aD (hg _ s5 σ3 H5 x u _ I5' r5 (step x H5 y5)) λ_ s6 ⟨σ6,H6,I6,q6⟩=>?_);refine VS hp (aD (hb _ s6 σ6 H6 _ I6 q6) λf s7 q7=>?_)
  have again:∀{σ7:St}{H7:Hp},Inv X (pins++rJ fp s5.heap) σ7 H7 s7->N σ7 H7->∃m,m<n /\ ∃i σ' H',Inv X pins σ' H' s7/\tn i s7.heap/\(∀b∈fp,H' b=none)/\W i m σ' H':=λ{σ7 H7} I7 n7=>by
   obtain⟨m',hm,w7⟩:=hN σ7 H7 n7;refine⟨m',hm,i+1,σ7,H7,I7.sr,T.keep _ _ _ st5 λb hb o e=>(I7.pin (b,o) (Wa _ (Wa _ (Ah hb e)))).1,λb hb=>?_,w7⟩;obtain⟨o,e,d⟩:=T.obj _ _ st5 b hb;exact(I7.pin (b,o) (Wa _ (Wa _ (Ah hb e)))).2.1
  cases f with
  | next=>obtain⟨σ7,H7,I7,n7⟩:=q7;exact again I7 n7
  | cont=>obtain⟨σ7,H7,I7,n7⟩:=q7;exact again I7 n7
  | brk=>obtain⟨σ7,H7,I7,q7⟩:=q7;exact⟨σ7,H7,I7.sr,q7⟩
  | ret v=>obtain⟨x7,σ7,H7,I7,r7,q7⟩:=q7;exact⟨x7,σ7,H7,I7.sr,r7,q7⟩
end
variable{tb:TS}{D:cu}{σ:St}{H:Hp}
theorem zxO{K:wb}{a:wg}{xs:List V}{g:TG}(Pv:Nat->St->Hp->Prop)(h0:Pv 0 σ H)(hl:∀i σ H,i<=xs.length->Pv i σ H->aG K H a xs)
  (hs:∀i x σ H,xs[i]? = some x->Pv i σ H->g x σ H λσ2 H2=>tb {D with nx:=Pv (i+1),ct:=Pv (i+1),bk:=D.nx} σ2 H2) (hd:∀σ H,Pv xs.length σ H->D.nx σ H) :
  ∃W:Nat->Nat->St->Hp->Prop,(∃m,W 0 m σ H) /\ ∀i m σ H,W i m σ H ->
   ((iZ K a).stop i H/\D.nx σ H)\/((iZ K a).go i H /\ ∃N:St->Hp->Prop,(∀σ' H',N σ' H'->∃m',m'<m/\W (i+1) m' σ' H') /\ ∀x H',(iZ K a).fC i H x H'->g x σ H' λσ2 H2=>tb {D with nx:=N,ct:=N,bk:=D.nx} σ2 H2):=by
 refine⟨λi m σ H=>m=xs.length-i/\i<=xs.length/\Pv i σ H,⟨xs.length,by simp,Wy _,h0⟩,?_⟩;rintro i m σ H ⟨rfl,hi,p⟩;have q:=hl i σ H hi p
 by_cases hlt:i<xs.length
 ·refine .inr ⟨⟨xs,xs[i],q,by simp[hlt]⟩,Pv (i+1),λσ' H' p'=>⟨xs.length-(i+1),by lia,rfl,hlt,p'⟩,λx H' y=>?_⟩
  obtain⟨e,y⟩:=y;subst e;exact hs i x σ _ (y xs q) p
 ·have e:i=xs.length:=by lia
  subst e;exact .inl ⟨⟨xs,q,wo _⟩,hd σ H p⟩
theorem zAv{K:wb}{a:wg}{xs:List V}{g:TG}(Pv:Nat->St->Hp->Prop)(h0:Pv 0 σ H)(hl:∀i σ H,i<=xs.length->Pv i σ H->aI K H a xs)
  (hs:∀i x σ H,xs[i]? = some x->Pv i σ H->g x σ H λσ2 H2=>tb {D with nx:=Pv (i+1),ct:=Pv (i+1),bk:=D.nx} σ2 H2) (hd:∀σ H,Pv xs.length σ H->D.nx σ H) :
  ∃W:Nat->Nat->St->Hp->Prop,(∃m,W 0 m σ H) /\ ∀i m σ H,W i m σ H ->
   ((jx K a).stop i H/\D.nx σ H)\/((jx K a).go i H /\ ∃N:St->Hp->Prop,(∀σ' H',N σ' H'->∃m',m'<m/\W (i+1) m' σ' H') /\ ∀x H',(jx K a).fC i H x H'->g x σ H' λσ2 H2=>tb {D with nx:=N,ct:=N,bk:=D.nx} σ2 H2):=by
 refine⟨λi m σ H=>m=xs.length-i/\i<=xs.length/\Pv i σ H,⟨xs.length,by simp,Wy _,h0⟩,?_⟩;rintro i m σ H ⟨rfl,hi,p⟩;have q:=hl i σ H hi p
 by_cases hlt:i<xs.length
 ·refine .inr ⟨⟨xs,xs[i],q,by simp[hlt]⟩,Pv (i+1),λσ' H' p'=>⟨xs.length-(i+1),by lia,rfl,hlt,p'⟩,λx H' y=>?_⟩
  obtain⟨e,y⟩:=y;subst e;exact hs i x σ _ (y xs q) p
 ·have e:i=xs.length:=by lia
  subst e;exact .inl ⟨⟨xs,q,wo _⟩,hd σ H p⟩
theorem O4{lo:Int}{n:Nat}{g:TG}(Pv:Nat->St->Hp->Prop)(h0:Pv 0 σ H)
  (hs:∀i σ H,i<n->Pv i σ H->g (.int (lo+i)) σ H λσ2 H2=>tb {D with nx:=Pv (i+1),ct:=Pv (i+1),bk:=D.nx} σ2 H2) (hd:∀σ H,Pv n σ H->D.nx σ H) :
  ∃W:Nat->Nat->St->Hp->Prop,(∃m,W 0 m σ H) /\ ∀i m σ H,W i m σ H ->
   ((gg lo n).stop i H/\D.nx σ H)\/((gg lo n).go i H /\ ∃N:St->Hp->Prop,(∀σ' H',N σ' H'->∃m',m'<m/\W (i+1) m' σ' H') /\ ∀x H',(gg lo n).fC i H x H'->g x σ H' λσ2 H2=>tb {D with nx:=N,ct:=N,bk:=D.nx} σ2 H2):=by
 refine⟨λi m σ H=>m=n-i/\i<=n/\Pv i σ H,⟨n,by simp,Wy _,h0⟩,?_⟩;rintro i m σ H ⟨rfl,hi,p⟩
 by_cases hlt:i<n
 ·refine .inr ⟨hlt,Pv (i+1),λσ' H' p'=>⟨n-(i+1),by lia,rfl,hlt,p'⟩,λx H' y=>?_⟩
  obtain⟨e,y⟩:=y;subst e y;exact hs i σ _ hlt p
 ·have e:i=n:=by lia
  subst e;exact .inl ⟨wo _,hd σ H p⟩
abbrev R2:=V->V->Hp->VK->Prop
def bL(X:Cx)(f:wf->wf->Sem wf)(r:R2):Prop :=
 ∀(pins:List (wg × Obj))(s:wl)(σ : St)(H:Hp)(x y:V)(v u:wf)(Q:VK),Inv X pins σ H s->aP x v->aP y u->r x y H Q ->
  wt (model X.prog X.w) X.A (f v u) (EP X pins σ Q) X.xe s
def B3(X:Cx)(f:wf->Sem wf)(r:V->Hp->VK->Prop):Prop :=
 ∀(pins:List (wg × Obj))(s:wl)(σ : St)(H:Hp)(x:V)(v:wf)(Q:VK),Inv X pins σ H s->aP x v->r x H Q ->
  wt (model X.prog X.w) X.A (f v) (EP X pins σ Q) X.xe s
def bK(X:Cx)(f:wf)(r:List V->Hp->VK->Prop):Prop :=
 ∀(pins:List (wg × Obj))(s:wl)(σ : St)(H:Hp)(xs:List V)(us:List wf)(Q:VK),Inv X pins σ H s->aM xs us->r xs H Q ->
  wt (model X.prog X.w) X.A (call f us) (EP X pins σ Q) X.xe s
def zEa(X:Cx)(r:V->Hp->(Bool->Hp->Prop)->Prop):Prop :=
 ∀(pins:List (wg × Obj))(s:wl)(σ : St)(H:Hp)(x:V)(v:wf)(Q:Bool->Hp->Prop),Inv X pins σ H s->aP x v->r x H Q ->
  wt (model X.prog X.w) X.A (truthy v) (TP X pins σ Q) X.xe s
def iR(r:R2)(ta tb:TE):TE:=λσ H Q=>ta σ H λx H1=>tb σ H1 λy H2=>r x y H2 Q
def Lj(r:V->Hp->VK->Prop)(ta:TE):TE:=λσ H Q=>ta σ H λx H1=>r x H1 Q
def rI(C:Int->Int->Prop)(g:Int->Int->V):R2:=λx y H Q=>∃i j,x=.int i/\y=.int j/\C i j/\Q (g i j) H
def i_(g:Int->Int->V):R2:=λx y H Q=>∃i j,x=.int i/\y=.int j/\Q (g i j) H
def rU(g:Int->V):V->Hp->VK->Prop:=λx H Q=>∃i,x=.int i/\Q (g i) H
section
variable{X:Cx}{a b c:Expr}{ta tb tc:TE}{pos:Pos}
theorem DK(ha:PE X a ta)(hb:PE X b tb){pins:List (wg × Obj)}{s:wl}{σ : St}{H:Hp}{R:V->V->Hp->Prop}(I:Inv X pins σ H s)
  (h:ta σ H λx H1=>tb σ H1 λy H2=>R x y H2) {Q:wf->wl->Prop} {f:wf->wf->Sem wf}
  (hf:∀v u s2 x y H2,Inv X pins σ H2 s2->aP x v->aP y u->R x y H2->wt (model X.prog X.w) X.A (f v u) Q X.xe s2) :
  wt (model X.prog X.w) X.A (eval a X.env) (λv s₁=>wt (model X.prog X.w) X.A (eval b X.env) (λu s₂=>wt (model X.prog X.w) X.A (f v u) Q X.xe s₂) X.xe s₁) X.xe s:=by
 refine aD (ha pins s σ H _ I h) λv s1 ⟨x,H1,I1,r1,q1⟩=>?_
 refine aD (hb pins s1 σ H1 _ I1 q1) λu s2 ⟨y,H2,I2,r2,q2⟩=>?_
 exact hf v u s2 x y H2 I2 r1 r2 q2
theorem aB{op:Operator}{r:R2}(ho:bL X (Ve op) r)(ha:PE X a ta)(hb:PE X b tb):PE X (.BinOp a op b pos) (iR r ta tb):=by
 intro pins s σ H Q I h;exact wpAny_BinOp (DK ha hb I h λv u s2 x y H2 I2 rx ry q=>ho pins s2 σ H2 x y v u Q I2 rx ry q)
theorem jA{op:UnaryOp}{r:V->Hp->VK->Prop}(ho:B3 X (unaryOp op) r)(ha:PE X a ta):PE X (.UnaryOp op a pos) (Lj r ta):=by
 intro pins s σ H Q I h;exact UnaryOp_ (aD (ha pins s σ H _ I h) λv s1 ⟨x,H1,I1,r1,q1⟩=>ho pins s1 σ H1 x v Q I1 r1 q1)
theorem FQ{f:wf->wf->Sem wf}{C:Int->Int->Prop}{g:Int->Int->Int}
  (rule:∀(i j:Int)(t u:Tok)(s:wl)(Q:wf->wl->Prop)(E:wf->wl->Prop),C i j->Q (.int (g i j) s.toks) {s with toks:=s.toks+1}->wt (model X.prog X.w) X.A (f (.int i t) (.int j u)) Q E s) :
  bL X f (rI C λi j=>.int (g i j)):=by
 intro pins s σ H x y v u Q I rx ry h;obtain⟨i,j,rfl,rfl,hc,q⟩:=h;obtain⟨t,rfl⟩:=rx;obtain⟨t',rfl⟩:=ry;exact rule i j t t' s _ _ hc ⟨.int (g i j),H,I.tok _,⟨_,rfl⟩,q⟩
theorem TQ{f:wf->wf->Sem wf}{g:Int->Int->Int}
  (rule:∀(i j:Int)(t u:Tok)(s:wl)(Q:wf->wl->Prop)(E:wf->wl->Prop),Q (.int (g i j) s.toks) {s with toks:=s.toks+1}->wt (model X.prog X.w) X.A (f (.int i t) (.int j u)) Q E s) :
  bL X f (i_ λi j=>.int (g i j)):=by
 intro pins s σ H x y v u Q I rx ry h;obtain⟨i,j,rfl,rfl,q⟩:=h;obtain⟨t,rfl⟩:=rx;obtain⟨t',rfl⟩:=ry;exact rule i j t t' s _ _ ⟨.int (g i j),H,I.tok _,⟨_,rfl⟩,q⟩
theorem sZ{f:wf->wf->Sem wf}{g:Int->Int->Bool}
  (rule:∀(i j:Int)(t u:Tok)(s:wl)(Q:wf->wl->Prop)(E:wf->wl->Prop),Q (.bool (g i j)) s->wt (model X.prog X.w) X.A (f (.int i t) (.int j u)) Q E s) :
  bL X f (i_ λi j=>.bl (g i j)):=by
 intro pins s σ H x y v u Q I rx ry h;obtain⟨i,j,rfl,rfl,q⟩:=h;obtain⟨t,rfl⟩:=rx;obtain⟨t',rfl⟩:=ry;exact rule i j t t' s _ _ ⟨.bl (g i j),H,I,rfl,q⟩
def Ju(i j:Int):Prop:=0<=j/\j<=1000000/\i.natAbs<2^64
theorem zBC:bL X (Ve .Add) (i_ λi j=>.int (i+j)):=TQ λ_ _ _ _ _ _ _ q=>add_int q
theorem pM:bL X (Ve .Sub) (i_ λi j=>.int (i-j)):=TQ λ_ _ _ _ _ _ _ q=>sub_int q
theorem gC:bL X (Ve .Mod) (rI (λ_ j=>0<j) λi j=>.int (i % j)):=FQ λi j _ _ _ _ _ hc q=>by
 have h1:(0:Int)<j:=hc;exact mod_int' (by lia) (by rw[Int.fmod_eq_emod_of_nonneg i (by lia)];exact q)
theorem zCa:bL X (Ve .Pow) (rI Ju λi j=>.int (i^j.toNat)):=FQ λ_ _ _ _ _ _ _ hc q=>pow_int_small hc.1 hc.2.1 hc.2.2 q
theorem unI{f:wf->Sem wf}{g:Int->Int}
  (rule:∀(i:Int)(t:Tok)(s:wl)(Q:wf->wl->Prop)(E:wf->wl->Prop),Q (.int (g i) s.toks) {s with toks:=s.toks+1}->wt (model X.prog X.w) X.A (f (.int i t)) Q E s) :
  B3 X f (rU λi=>.int (g i)):=by
 intro pins s σ H x v Q I rx h;obtain⟨i,rfl,q⟩:=h;obtain⟨t,rfl⟩:=rx;exact rule i t s _ _ ⟨.int (g i),H,I.tok _,⟨_,rfl⟩,q⟩
theorem jw:B3 X (unaryOp .USub) (rU λi=>.int (-i)):=unI λ_ _ _ _ _ q=>neg_int q
end
section
variable{X:Cx}{a b c:Expr}{ta tb tc:TE}{pos:Pos}
variable{r r':R2}{op:CmpOp}
theorem LD{pins:List (wg × Obj)}{σ : St}{H:Hp}{s:wl}{Q:VK}{k k':Bool}(I:Inv X pins σ H s)(q:Q (.bl k) H)(e:k=k'):EP X pins σ Q (.bool k') s:=by
 subst e;exact⟨.bl k,H,I,rfl,q⟩
theorem p_ :bL X (vU .Lt) (i_ λi j=>.bl (decide (i<j))):=sZ λ_ _ _ _ _ _ _ q=>lt_int q
theorem md :bL X (vU .LtE) (i_ λi j=>.bl (decide (i<=j))):=sZ λ_ _ _ _ _ _ _ q=>le_int q
theorem mD :bL X (vU .Gt) (i_ λi j=>.bl (decide (j<i))):=sZ λ_ _ _ _ _ _ _ q=>gt_int q
theorem yI :bL X (vU .GtE) (i_ λi j=>.bl (decide (j<=i))):=sZ λ_ _ _ _ _ _ _ q=>ge_int q
theorem Z8 :bL X (vU .Is) (λx y H Q=>y=.bC/\Q (.bl (decide (x=.bC))) H):=by
 intro pins s σ H x y v u Q I rx ry h;obtain⟨rfl,q⟩:=h;cases ry;refine is_none_gen (LD I q ?_)
 cases x<;>first
  | (cases rx;rfl)
  | (obtain⟨t,rfl⟩:=rx;rfl)
theorem bL.or{f:wf->wf->Sem wf}(h:bL X f r)(h':bL X f r'):bL X f (λx y H Q=>r x y H Q\/r' x y H Q):=by
 intro pins s σ H x y v u Q I rx ry q;rcases q with q | q
 ·exact h pins s σ H x y v u Q I rx ry q
 ·exact h' pins s σ H x y v u Q I rx ry q
theorem du(b:Expr)(h:op≠.In:=by decide)(h2:op≠.NotIn:=by decide):VY op b=false:=by
 have e1:(op == CmpOp.In)=false:=by cases op<;>first | rfl | exact absurd rfl h
 have e2:(op == CmpOp.NotIn)=false:=by cases op<;>first | rfl | exact absurd rfl h2
 cases b<;>simp[VY,e1,e2]
theorem kR(ho:bL X (vU op) r)(ha:PE X a ta)(hb:PE X b tb)(hm:VY op b=false):PE X (.Compare a [op] [b] pos) (iR r ta tb):=by
 intro pins s σ H Q I h;exact wpAny_Compare1 (DK ha hb I h λv u s2 x y H2 I2 rx ry q=>ho pins s2 σ H2 x y v u Q I2 rx ry q) hm
def p8(t:TE):TT:=λσ H Q=>t σ H λx H'=>∃k,x=.bl k/\Q k H'
theorem d8(ho:bL X (vU op) r)(ha:PE X a ta)(hb:PE X b tb)(hm:VY op b=false):PT X (.Compare a [op] [b] pos) (p8 (iR r ta tb)):=by
 intro pins s σ H Q I h
 refine wpAny_isTrue_Compare1 (aD (ha pins s σ H _ I h) λv s1 ⟨x,H1,I1,r1,q1⟩=>aD (hb pins s1 σ H1 _ I1 q1) λu s2 ⟨y,H2,I2,r2,q2⟩ =>
  aD (ho pins s2 σ H2 x y v u _ I2 r1 r2 q2) λc s3 ⟨z,H3,I3,r3,k,e,q3⟩=>?_) hm
 subst e;cases r3;exact Wo ⟨H3,I3,q3⟩
def Fn(r r':R2)(ta tb tc:TE):TE:=λσ H Q=>ta σ H λx H1=>tb σ H1 λy H2=>r x y H2 λz H3=>∃k,z=.bl k /\
 (if k=true then tc σ H3 λw' H4=>r' y w' H4 Q else Q (.bl false) H3)
theorem zwE{op':CmpOp}(ho:bL X (vU op) r)(ho':bL X (vU op') r')(ha:PE X a ta)(hb:PE X b tb)(hc:PE X c tc)
  (hm:lastMarks [op,op'] [b,c]=false:=by with_unfolding_all rfl):PE X (.Compare a [op,op'] [b,c] pos) (Fn r r' ta tb tc):=by
 intro pins s σ H Q I h
 refine Compare_chain (aD (ha pins s σ H _ I h) λv s1 ⟨x,H1,I1,r1,q1⟩=>chain_link (aD (hb pins s1 σ H1 _ I1 q1) λu s2 ⟨y,H2,I2,r2,q2⟩ =>
  aD (ho pins s2 σ H2 x y v u _ I2 r1 r2 q2) λd s3 ⟨z,H3,I3,r3,k,e,q3⟩=>?_)) hm
 subst e;cases r3;refine Wo ?_;cases k with
 | false=>exact ite_ff ⟨.bl false,H3,I3,rfl,q3⟩
 | true=>exact ite_tt (chain_last (aD (hc pins s3 σ H3 _ I3 q3) λw' s4 ⟨z',H4,I4,r4,q4⟩=>ho' pins s4 σ H4 y z' u w' Q I4 r2 r4 q4))
theorem zxD{op':CmpOp}(ho:bL X (vU op) r)(ho':bL X (vU op') r')(ha:PE X a ta)(hb:PE X b tb)(hc:PE X c tc)
  (hm:lastMarks [op,op'] [b,c]=false:=by with_unfolding_all rfl):PT X (.Compare a [op,op'] [b,c] pos) (p8 (Fn r r' ta tb tc)):=by
 intro pins s σ H Q I h
 refine isTrue_chain (aD (ha pins s σ H _ I h) λv s1 ⟨x,H1,I1,r1,q1⟩=>test_link (aD (hb pins s1 σ H1 _ I1 q1) λu s2 ⟨y,H2,I2,r2,q2⟩ =>
  aD (ho pins s2 σ H2 x y v u _ I2 r1 r2 q2) λd s3 ⟨z,H3,I3,r3,k,e,q3⟩=>?_)) hm
 subst e;cases r3;refine Wo ?_;cases k with
 | false =>
  obtain⟨k',e',q'⟩:=q3;cases e';exact ite_ff ⟨H3,I3,q'⟩
 | true =>
  refine ite_tt (test_last (aD (hc pins s3 σ H3 _ I3 q3) λw' s4 ⟨z',H4,I4,r4,q4⟩=>aD (ho' pins s4 σ H4 y z' u w' _ I4 r2 r4 q4) λd' s5 ⟨z2,H5,I5,r5,k2,e2,q5⟩=>?_));subst e2;cases r5;exact Wo ⟨H5,I5,q5⟩
def FG(K:wb)(x:V)(H:Hp)(k:Bool):Prop :=
 match x with
 | .bC=>k=false
 | .bl b=>k=b
 | .int i=>k=(i != 0)
 | .str y=>y.length<=wZ/\k=((y.length:Int) != 0)
 | .byt y=>y.size<=wZ/\k=((y.size:Int) != 0)
 | .ref p=>(∃xs,aG K H p xs/\k = !xs.isEmpty)\/(∃xs,aI K H p xs/\k = !xs.isEmpty) \/ ∃kvs,H p=some (.dK kvs)/\k = !kvs.isEmpty
 | _=>False
theorem ztp{κ : Type}{kvs:List (κ × V)}{vs:List (κ × wf)}(r:KV kvs vs):(!vs.isEmpty) = !kvs.isEmpty:=by
 cases r<;>rfl
theorem LG{xs:List V}{its:List wf}(r:aM xs its):(!its.toArray.isEmpty) = !xs.isEmpty:=by
 cases r<;>simp
theorem mO :(wZ:Nat)<2^63:=by rw[qY];decide
theorem zBB :zEa X (λx H Q=>∃k,FG X.K x H k/\Q k H):=by
 intro pins s σ H x v Q I rx h;obtain⟨k,e,q⟩:=h;have hl:=mO;have hs:wZ=16777216:=qY;cases x with
 | bC =>
  cases rx;have e':k=false:=e;subst e';exact truthy_none ⟨H,I,q⟩
 | bl b =>
  cases rx;have e':k=b:=e;subst e';exact Wo ⟨H,I,q⟩
 | int i =>
  obtain⟨t,rfl⟩:=rx;have e':k=(i != 0):=e;subst e';exact PySem.P.truthy_int ⟨H,I,q⟩
 | str y =>
  obtain⟨t,rfl⟩:=rx;obtain⟨hy,e'⟩:y.length<=wZ/\k=((y.length:Int) != 0):=e;subst e';exact PySem.P.truthy_str (by lia) ⟨H,I.tok _,q⟩
 | byt y =>
  obtain⟨t,rfl⟩:=rx;obtain⟨hy,e'⟩:y.size<=wZ/\k=((y.size:Int) != 0):=e;subst e';exact PySem.W.truthy_bytes (by lia) ⟨H,I.tok _,q⟩
 | ref p =>
  cases rx;have e':(∃xs,aG X.K H p xs/\k = !xs.isEmpty)\/(∃xs,aI X.K H p xs/\k = !xs.isEmpty) \/ ∃kvs,H p=some (.dK kvs)/\k = !kvs.isEmpty:=e;rcases e' with⟨xs,hx,e'⟩ | ⟨xs,hx,e'⟩ | ⟨kvs,hx,e'⟩
  ·subst e'
   obtain⟨its,r,pl,hz⟩:=I.list hx;have hlen:=r.length;exact wpAny_truthy_list pl.isList (by simp only[wS];lia) ⟨H,I.tok _,by rw[LG r];exact q⟩
  ·subst e'
   obtain⟨its,r,pl,hz⟩:=I.tuple hx;have hlen:=r.length;exact truthy_tuple pl (by simp only[wS];lia) ⟨H,I.tok _,by rw[LG r];exact q⟩
  ·subst e'
   obtain⟨hz,hS,vs,r,m⟩:kvs.length<=wZ/\(p == Vb)=false /\ ∃vs,KV kvs vs/\s.heap.DictOf (gf X.prog X.w) p vs:=I.aA p _ hx;have hlen:kvs.length=vs.length:=xn r;exact wpAny_truthy_dict hS m (by lia) ⟨H,I.tok _,by rw[ztp r];exact q⟩
 | _=>exact(show False from e).elim
theorem zyz(ha:PE X a ta)(he:∀whole,isTrue a X.env whole=(do let v <- whole;standAt a.pos;holding [v] (truthy v))) :
  PT X a (λσ H Q=>ta σ H λx H'=>∃k,FG X.K x H' k/\Q k H'):=by
 intro pins s σ H Q I h;exact isTrue_plain (aD (ha pins s σ H _ I h) λv s1 ⟨x,H1,I1,r1,q1⟩=>zBB pins s1 σ H1 x v Q I1 r1 q1) (he _)
theorem zsS :bL X (Ve .Add) (λx y H Q=>∃i j,x=.str i/\y=.str j/\i.length+j.length<=wZ/\Q (.str (i++j)) H):=by
 intro pins s σ H x y v u Q I rx ry h;obtain⟨i,j,rfl,rfl,hz,q⟩:=h;obtain⟨t,rfl⟩:=rx;obtain⟨t',rfl⟩:=ry;exact add_str (λt' tk=>⟨.str (i++j),H,I.tok _,⟨_,rfl⟩,q⟩) hz
theorem ff{x:V}{us:List wf}(r:aM [x] us):∃u,us=[u]/\aP x u:=by
 cases r with
 | cons r1 r2=>cases r2;exact⟨_,rfl,r1⟩
theorem kP{x y:V}{us:List wf}(r:aM [x,y] us):∃u w',us=[u,w']/\aP x u/\aP y w':=by
 cases r with
 | cons r1 r2 =>
  cases r2 with
  | cons r3 r4=>cases r4;exact⟨_,_,rfl,r1,r3⟩
theorem zxn :bK X (.builtin "abs") (λxs H Q=>∃i,xs=[.int i]/\Q (.int (if i<0 then -i else i)) H):=by
 intro pins s σ H xs us Q I r h;obtain⟨i,rfl,q⟩:=h;obtain⟨u,rfl,t,rfl⟩:=ff r;exact call_abs_int λu tk=>⟨.int (if i<0 then -i else i),H,I.tok _,⟨_,rfl⟩,q⟩
theorem zvH :bK X (.type "int") (λxs H Q=>(∃i,xs=[.int i]/\Q (.int i) H) \/ ∃k,xs=[.bl k]/\Q (.int (if k then 1 else 0)) H):=by
 intro pins s σ H xs us Q I r h;rcases h with⟨i,rfl,q⟩ | ⟨k,rfl,q⟩
 ·obtain⟨u,rfl,t,rfl⟩:=ff r
  exact call_int_int ⟨.int i,H,I,⟨_,rfl⟩,q⟩
 ·obtain⟨u,rfl,r1⟩:=ff r
  cases r1;exact call_int_bool ⟨.int (if k then 1 else 0),H,I.tok _,⟨_,rfl⟩,q⟩
end
section
variable{prog:wE}{w:World}{A:w5}{E:wf->wl->Prop}{s:wl}{K:wb}{x dx C f:wg}{mA:Str->Option wf}{name:Str}{v:wf}
end
section
variable{P:wE}{w:World}{H H':Hp}{h h':wJ}{a C dx:wg}{fs fs':List (Str × V)}
end
section
variable{X:Cx}{pins:List (wg × Obj)}{σ : St}{H:Hp}{s:wl}{a C dx:wg}{fs:List (Str × V)}{f:Str}{v:V}{A:w5}{E:wf->wl->Prop}
end
section
variable{X:Cx}{o e value:Expr}{f:Str}{pos pos' tpos:Pos}{ta tv:TE}
end
section
variable{X:Cx}{pins:List (wg × Obj)}{σ : St}{H:Hp}{s:wl}{A:w5}{E:wf->wl->Prop}{Q:wf->wl->Prop}{c:wf}{b:Bool}
end
variable{A:w5}
def KY(e:Env):Prop:=e.scope.isGenerator=false/\e.scope.isCoroutine=false/\e.builtins=builtinsNs/\e.globals=wP
structure cZ(k:Nat)(A:w5):Prop where
 hd:A.handled=none
 dp:A.depth+3*k+105<recursionLimit
 un:A.units+16*k+200<cLine
 gd:A.guards=some []
 fr:∀e l,A.frames=some (e::l)->KY e
theorem cZ.mono{j k:Nat}(r:cZ k A)(h:j<=k):cZ j A:=⟨r.hd,by have:=r.dp;lia,by have:=r.un;lia,by first | exact r.gd | (simp[US,Code.guards,UT,guardIds];exact r.gd),r.fr⟩
theorem cZ.deeper{k:Nat}(r:cZ (k+1) A){env:Env}(g:KY env):cZ k (A.deeper env) :=
 ⟨r.hd,by have:=r.dp;show A.depth+1+3*k+105<_;lia,by have:=r.un;show A.units+3+16*k+200<_;lia,by first | exact r.gd | (simp[US,Code.guards,UT,guardIds];exact r.gd),λe l h=>by
  cases q:A.frames with
  | none=>exact absurd (show A.frames.map _=_ from h) (by rw[q];simp)
  | some o =>
   rw[QT q]at h;cases h;exact g⟩
theorem cZ.depth{k:Nat}(r:cZ k A):A.depth<recursionLimit:=by have:=r.dp;lia
theorem cZ.units{k:Nat}(r:cZ k A):A.units+64<cLine:=by have:=r.un;lia
def kE:TA:=λ_ H Q=>Q [] H
def iN(ta:TE)(tr:TA):TA:=λσ H Q=>ta σ H λx H1=>tr σ H1 λxs H2=>Q (x::xs) H2
section
variable{X:Cx}{e:Expr}{es:List Expr}{te:TE}{t:TA}{pos:Pos}
theorem ah:PA X [] kE:=λ_ _ _ _ H Q I h=>xy ⟨[],H,I,.nil,h⟩
theorem ae(ha:PE X e te)(hr:PA X es t)(hs:wX (e::es) X.env=(false,eval e X.env)::wX es X.env:=by rfl):PA X (e::es) (iN te t):=by
 intro pos pins s σ H Q I h;rw[hs]
 show wt _ _ (spliced ((false,eval e X.env)::VN pos (wX es X.env))) _ _ s
 refine xc (aD (ha pins s σ H _ I h) λu s1 ⟨x,H1,I1,r1,q1⟩=>?_);exact aD (hr pos pins s1 σ H1 _ I1 q1) λus s2 ⟨xs,H2,I2,r2,q2⟩=>⟨x::xs,H2,I2,.cons r1 r2,q2⟩
def zD8(t:TA):TE:=λσ H Q=>t σ H λxs H1=>xs.length<=wZ /\ ∀p,H1 p=none->Q (.ref p) (upd H1 p (.tup xs))
def zEc(t:TA):TE:=λσ H Q=>t σ H λxs H1=>xs.length<=wZ /\ ∀p,H1 p=none->Q (.ref p) (upd H1 p (.lst xs))
theorem zBJ{x1}(h:PA X es t):PE X (.Tuple es x1 pos) (zD8 t):=by
 intro pins s σ H Q I hq;refine wpAny_Tuple_spliced (aD (h pos pins s σ H _ I hq) λus s1 ⟨xs,H1,I1,r,z,q⟩=>⟨by rw[<- r.length];exact z,?_⟩);have hf:H1 s1.heap.objs.size=none:=I1.aA.fresh (wo _);refine⟨.ref s1.heap.objs.size,upd H1 s1.heap.objs.size (.tup xs),I1.laid (t':=s1.toks) (λb u e=>wn _ e) (wo _) ?_,rfl,q _ hf⟩;exact⟨z,us,r,⟨_,wO _ rfl,rfl,_,rfl⟩⟩
theorem zCW(h:PA X es t):PE X (.List es pos) (zEc t):=by
 intro pins s σ H Q I hq;refine wpAny_List_spliced (aD (h pos pins s σ H _ I hq) λus s1 ⟨xs,H1,I1,r,z,q⟩=>⟨by rw[<- r.length];exact z,?_⟩);have hf:H1 s1.heap.objs.size=none:=I1.aA.fresh (wo _);refine⟨.ref s1.heap.objs.size,upd H1 s1.heap.objs.size (.lst xs),I1.laid (t':=s1.toks) (λb u e=>wn _ e) (wo _) ?_,rfl,q _ hf⟩;exact⟨z,us,0,r,wO _ rfl⟩
end
abbrev Sp:=List V->Hp->VK->XK->Prop
abbrev fL:=List Env->Hp->wl->XK->wf->wl->Prop
structure rE(P:wE)(w:World)(K:wb)(mg:Str->Option wf)(base:wJ)(A:w5)(outer:List Env)(s:wl)(H:Hp):Prop where
 frames:A.frames=some outer
 mod:Mod K mg base
 bs:∀b o,base.get? b=some o->s.heap.get? b=some o/\H b=none
 gE:base.objs.size<=s.heap.objs.size
 eB:s.heap.FunFrames base outer
 h_:∀b∈dq outer,H b=none
 aA:ck P w H s.heap
 bare:AllBare s.gens
def CE(outer:List Env)(P:wE)(w:World)(H:Hp)(s:wl)(Q:VK)(u:wf)(s':wl):Prop :=
 ∃v H',s'.os=s.os/\AllBare s'.gens/\Un (dq outer) [] H H' s.heap s'.heap/\ck P w H' s'.heap/\aP v u/\Q v H'
def CR(CX:fL)(outer:List Env)(P:wE)(w:World)(H:Hp)(s:wl)(Q:VK)(E:XK)(r:Result)(s':wl):Prop :=
 match r with
 | .ok (.ret u)=>CE outer P w H s Q u s'
 | .ok _=>False
 | .error e=>CX outer H s E e s'
structure aJ(P:wE)(w:World)(K:wb)(mg:Str->Option wf)(base:wJ)(CX:fL)(k:Nat)(f:wg)(fd:wM)(ps:List Str)(sp:Sp):Prop where
 len:∀vs H Q E,sp vs H Q E->vs.length=ps.length
 run:∀(A:w5)(outer:List Env)(s:wl)(H:Hp)(args:Args)(us:List wf)(vs:List V)(Q:VK)(E:XK),cZ k A->rE P w K mg base A outer s H->BindsTo s fd args (ps.zip us)->aM vs us->sp vs H Q E ->
   codeAny (model P w) A (.call (.ref f) args) (CR CX outer P w H s Q E) s
section
variable{X:Cx}{pins:List (wg × Obj)}{σ : St}{H:Hp}{s s':wl}
theorem Inv.A7(I:Inv X pins σ H s):rE X.prog X.w X.K X.mg X.base X.A X.stack s H :=
 ⟨I.ok.frames,I.ok.mod,I.bs,Wb I.ok.gE I.sz,I.stack,I.sD,I.aA,I.bare⟩
theorem Inv.after{Q:VK}{u:wf}(I:Inv X pins σ H s)(h:CE X.stack X.prog X.w H s Q u s'):EP X pins σ Q u s':=by
 obtain⟨v,H',os,bare,un,aA,r,q⟩:=h;obtain⟨hh,g,d,t,os'⟩:=s';obtain rfl:os'=s.os:=os;exact⟨v,H',I.call (h':=hh) (g':=g) (d':=d) (t':=t) (ch:=[]) un aA bare (λb z=>absurd z (by simp)),r,q⟩
end
def lO(sp:Sp)(dvs:List V)(E:XK)(t:TA):TE:=λσ H Q=>t σ H λvs H1=>sp (vs++dvs) H1 Q E
def kZ(K:wb)(fd:wM)(ps:List Str)(ds:List wf):Prop :=
 ∀(s:wl)(us:List wf),K.In s.heap->(us++ds).length=ps.length->BindsTo s fd ⟨us,[]⟩ (ps.zip (us++ds))
theorem kZ.all{K:wb}{fd:wM}{ps:List Str}(h:∀us:List wf,us.length=ps.length->bindArgs fd ⟨us,[]⟩=pure (ps.zip us)):kZ K fd ps []:=λs us _ hl=>by
 rw[vP]at hl ⊢;exact .of_eq (h us hl)
def nk(CX:fL)(X:Cx)(E:XK):Prop:=∀(pins:List (wg × Obj))(σ : St)(H:Hp)(s:wl)(e:wf)(s':wl),Inv X pins σ H s->CX X.stack H s E e s'->X.xe e s'
section
variable{X:Cx}{CX:fL}{k:Nat}{f C:wg}{fd:wM}{ps:List Str}{sp:Sp}{dvs:List V}{ds:List wf}{E:XK}{x m:Str}{p pos apos:Pos}{e o:Expr}{es:List Expr}{ta:TE}{t:TA}
theorem zBZ{pins:List (wg × Obj)}{σ : St}{H:Hp}{s:wl}{Q:VK}{us:List wf}{vs:List V}(F:aJ X.prog X.w X.K X.mg X.base CX k f fd ps sp)(hr:cZ k X.A)(hb:kZ X.K fd ps ds)(hd:aM dvs ds)(hx:nk CX X E)
  (I:Inv X pins σ H s) (r:aM vs us) (h:sp (vs++dvs) H Q E):wt (model X.prog X.w) X.A (call (.ref f) us) (EP X pins σ Q) X.xe s:=by
 have r2:aM (vs++dvs) (us++ds):=r.append hd;have hl:(us++ds).length=ps.length:=by rw[<- r2.length];exact F.len _ _ _ _ h
 refine wpAny_call (VO (F.run X.A X.stack s H ⟨us,[]⟩ (us++ds) (vs++dvs) Q E hr I.A7 (hb s us I.cU hl) r2 h) λr s' hq=>?_);cases r with
 | error e=>exact hx pins σ H s e s' I hq
 | ok fl =>
  cases fl with
  | ret u=>exact I.after hq
  | next=>exact WB hq
  | brk=>exact WB hq
  | cont=>exact WB hq
theorem Lh(F:aJ X.prog X.w X.K X.mg X.base CX k f fd ps sp)(hr:cZ k X.A)(hg:Gl X x)(hm:X.mg x=some (.ref f))(hk:qI X.K (.ref f)=true)(hb:kZ X.K fd ps ds)(hd:aM dvs ds)(hx:nk CX X E)
  (ha:PA X (e::es) t) (hdb:(x == ("__debug__" : Str))=false:=by decide) (he:wX (e::es) X.env=(false,eval e X.env)::wX es X.env:=by rfl) (hpl:(VN pos (wX es X.env)).any (·.1)=false:=by rfl) :
  PE X (.Call (.Name x p) (e::es) [] pos) (lO sp dvs E t):=by
 intro pins s σ H Q I h;refine qB (nI I hg hm ?_ hdb);refine xf (h₀:=X.base) I.ok.mod.ma hk (aD (ha pos pins s σ H _ I h) λus s1 ⟨vs,H1,I1,r,q⟩=>⟨I1.cU,?_⟩) he hpl;exact zBZ F hr hb hd hx I1 r q
end
section
variable{X:Cx}{CX:fL}{k:Nat}{f C:wg}{fd:wM}{ps ks:List Str}{sp:Sp}{E:XK}{x m:Str}{p pos apos kpos:Pos}{e o:Expr}{es:List Expr}{kws:List Keyword}{te ta:TE}{t tk:TA}{nm:Option Str}
variable{g:List wf->List wf->List wf}{gV:List V->List V->List V}
end
variable{base:wJ}{qual:Str}
structure aQ(N P:List Str)(sc:Scope):Prop where
 kind:sc.kind=.function
 co:sc.isCoroutine=false
 gen:sc.isGenerator=false
 nd:N.Nodup
 pre:N.take P.length=P
 par:∀x∈P,sc.names.lookup x=some .local\/sc.names.lookup x=some .cell
 YT:∀y∈sc.names,y.2≠.free
theorem NJ{kindOf:Str->Option Vf}{x:Str} : ∀{binds:List (Str × wf)}{m:Str->Option wf},(∀v,(x,v) ∉ binds)->bindL kindOf binds m x=m x
 | [],_,_=>rfl
 | (n,v)::r,m,h=>by
  unfold bindL;rw[NJ λw hw=>h w (wA _ hw)]
  split
  ·have:x≠n:=by rintro rfl;exact h v wD
   simp[this]
  ·rfl
theorem TM{kindOf:Str->Option Vf}{x:Str} : ∀{binds:List (Str × wf)}{m:Str->Option wf},(∀v,(x,v) ∉ binds)->bindC kindOf binds m x=m x
 | [],_,_=>rfl
 | (n,v)::r,m,h=>by
  unfold bindC;rw[TM λw hw=>h w (wA _ hw)]
  split
  ·rfl
  ·have:x≠n:=by rintro rfl;exact h v wD
   simp[this]
theorem LK{kindOf:Str->Option Vf}{x:Str}{v:wf} : ∀{P:List Str}{vs:List wf}{i:Nat}{m:Str->Option wf},P.Nodup->P[i]? = some x->vs[i]? = some v->kindOf x=some .local ->
  bindL kindOf (P.zip vs) m x=some v
 | [],_,_,_,_,h,_,_=>by simp at h
 | _::_,[],_,_,_,_,h,_=>by simp at h
 | p::P,w::vs,0,m,nd,h1,h2,hk=>by
  simp at h1 h2;subst h1;subst h2
  show bindL kindOf ((p,w)::P.zip vs) m p=_
  unfold bindL;rw[NJ λv hv=>(W2.mp nd).1 (QU hv).1,if_pos hk];simp
 | p::P,w::vs,i+1,m,nd,h1,h2,hk=>by
  show bindL kindOf ((p,w)::P.zip vs) m x=_
  unfold bindL;exact LK (i:=i) (W2.mp nd).2 (by simpa using h1) (by simpa using h2) hk
theorem Sb{kindOf:Str->Option Vf}{x:Str}{v:wf} : ∀{P:List Str}{vs:List wf}{i:Nat}{m:Str->Option wf},P.Nodup->P[i]? = some x->vs[i]? = some v->kindOf x≠some .local ->
  bindC kindOf (P.zip vs) m x=some v
 | [],_,_,_,_,h,_,_=>by simp at h
 | _::_,[],_,_,_,_,h,_=>by simp at h
 | p::P,w::vs,0,m,nd,h1,h2,hk=>by
  simp at h1 h2;subst h1;subst h2
  show bindC kindOf ((p,w)::P.zip vs) m p=_
  unfold bindC;rw[TM λv hv=>(W2.mp nd).1 (QU hv).1,if_neg hk];simp
 | p::P,w::vs,i+1,m,nd,h1,h2,hk=>by
  show bindC kindOf ((p,w)::P.zip vs) m x=_
  unfold bindC;exact Sb (i:=i) (W2.mp nd).2 (by simpa using h1) (by simpa using h2) hk
def start(N:List Str)(vs:List V):St:=vs.map some++Q2 (N.length-vs.length) none
def gy(CX:fL)(P:wE)(w:World)(K:wb)(mg:Str->Option wf)(base:wJ)(N:List Str)(qual:Str)(scope:Scope)(f:wg)(cd:wf)(A:w5)(outer:List Env)(s:wl)(H:Hp)(E:XK):Cx where
 prog:=P
 w:=w
 K:=K
 mg:=mg
 base:=base
 A:=A.deeper (envOfC qual scope s.heap.objs.size f cd)
 N:=N
 s₀:=s
 H₀:=H
 env:=envOfC qual scope s.heap.objs.size f cd
 outer:=outer
 stack:=envOfC qual scope s.heap.objs.size f cd::outer
 ex:=[]
 calm:=true
 fn:=λ_=>true
 pn:=[]
 xe:=λe s'=>wt (model P w) (A.deeper (envOfC qual scope s.heap.objs.size f cd)) (leaving (envOfC qual scope s.heap.objs.size f cd) e) (λ_ s''=>CX outer H s E e s'') (λe' s''=>CX outer H s E e' s'') s'
theorem zE{sc:Scope}{n:Nat}{x:Str}(h:sc.names.lookup x=some .cell):∃c,(cellsFrom n sc.names []).lookup x=some c:=by
 have q:=QI sc.names n [] (.inl h);exact Vq.mp q
theorem TJ{CX:fL}{P:wE}{w:World}{K:wb}{mg:Str->Option wf}{N ps:List Str}{scope:Scope}{f:wg}{cd:wf}{A:w5}{outer:List Env}{s s1:wl}{H:Hp}{E:XK}{us:List wf}{vs:List V}
  (S:aQ N ps scope) (hd:A.handled=none) (e0:rE P w K mg base A outer s H) (hl:vs.length=ps.length) (r:aM vs us)
  (x:InCallC s s.heap.objs.size (bindL (envOfC qual scope s.heap.objs.size f cd).kindOf (ps.zip us) λ_=>none) (cellsFrom (s.heap.objs.size+1) scope.names []) (bindC (envOfC qual scope s.heap.objs.size f cd).kindOf (ps.zip us) λ_=>none) s1) :
  Inv (gy CX P w K mg base N qual scope f cd A outer s H E) [] (start N vs) H s1:=by
 have hpl:ps.length<=N.length:=by have:=congrArg Xb S.pre;rw[Wu]at this;lia
 obtain⟨h1,tk,rfl,hk⟩:=x.done;have noA:∀b:wg,b ∉ (gy CX P w K mg base N qual scope f cd A outer s H E).ex:=λb z=>absurd (show b∈([]:List wg)from z) (by simp)
 refine⟨⟨e0.mod,S.kind,rfl,rfl,wo _,λy z c h1 h2=>?_,λy hy=>?_,λy c _ h=>?_,λ_=>hd,QT e0.frames,.inr ⟨rfl,rfl⟩,λb z=>absurd z (noA b),e0.bs,e0.gE,λb _ _=>noA b,λb z=>absurd z (noA b),e0.eB,e0.h_⟩,
  rfl,e0.bare,Un.kept hk,⟨_,x.toInCall.ns,λi y v h1 h2 h3=>?_⟩,λy c h=>⟨_,x.cell y c h⟩,e0.aA.fresh (wo _),λy c h=>?_,λp hp=>absurd (show p∈([]:List (wg × Obj))from hp) (by simp),e0.aA.kept hk,?_⟩
 ·exact name_of_addr x.apart (VA h1) (VA h2)
 ·have hy:scope.names.lookup y=some .cell\/scope.names.lookup y=some .free:=hy
  rcases hy with hy | hy
  ·exact zE hy
  ·exact absurd rfl (S.YT _ (VA hy))
 ·exact qg (x.above y c (VA h))
 ·have hi:i<vs.length:=by
   unfold start at h2
   by_cases hi:i<vs.length
   ·exact hi
   ·rw[vK (by simpa using hi)]at h2
    rw[xQ]at h2
    split at h2<;>cases h2
  have ha:vs[i]? = some v:=by
   unfold start at h2;rw[Wc (by simpa using hi),wx]at h2;cases e:vs[i]? with
   | none=>rw[e]at h2;cases h2
   | some a=>rw[e]at h2;cases h2;rfl
  obtain⟨u,hu,rv⟩:=r.get ha
  have hp:ps[i]? = some y:=by
   rw[<- S.pre,xH (by lia)];exact h1
  have ndP:ps.Nodup:=by rw[<- S.pre];exact S.nd.sublist (ug _ _)
  refine⟨u,rv,?_⟩;rcases S.par y (Xw hp)with k | k
  ·exact .inl ⟨k,LK ndP hp hu k⟩
  ·obtain⟨c,e⟩:=zE (n:=s.heap.objs.size+1) k
   refine .inr ⟨.inl k,c,e,?_⟩;have q:=x.cell y c e;rw[Sb ndP hp hu (by show scope.names.lookup y≠_;rw[k];decide)]at q;exact q
 ·exact e0.aA.fresh (qg (x.above y c (VA h)))
 ·unfold start
  show _=N.length
  rw[wT,wm,Vh]
  lia
theorem Rj{CX:fL}{P:wE}{w:World}{K:wb}{mg:Str->Option wf}{k:Nat}{f:wg}{name:Str}{params:Arguments}{body:List vo}{scope:Scope}{dV kV doc pm cdv ct oc:wf}{an od:Option wg}
  {osl:Array (Option wf)} {N ps:List Str} {sp:Sp} (lk:K.lookup f=some ⟨oc,od,.func (qh name qual params body scope dV kV doc pm an cdv ct),osl⟩) (hcd:Q3 K cdv qual=true) (S:aQ N ps scope)
  (len:∀vs H Q E,sp vs H Q E->vs.length=ps.length)
  (hbody:∀(A:w5)(outer:List Env)(s:wl)(H:Hp)(vs:List V)(Q:VK)(E:XK),cZ k (A.deeper (envOfC qual scope s.heap.objs.size f cdv))->sp vs H Q E ->
   ∃t,e_ (gy CX P w K mg base N qual scope f cdv A outer s H E) body t/\t {nx:=λ_ H'=>Q .bC H',rt:=Q} (start N vs) H) :
  aJ P w K mg base CX (k+1) f (qh name qual params body scope dV kV doc pm an cdv ct) ps sp:=by
 refine⟨len,λA outer s H args us vs Q E hr e0 hb r hsp=>?_⟩;have hl:=len _ _ _ _ hsp;have KX:K.In s.heap:=e0.mod.ma.keeps λb o e=>(e0.bs b o e).1
 have lim:s.heap.NoLimit:=e0.mod.nolimit.keeps λb o e=>(e0.bs b o e).1
 have hkind:∀y∈ps.zip us,scope.names.lookup y.1=some .local\/(scope.names.lookup y.1=some .cell/\((cellsFrom (s.heap.objs.size+1) scope.names []).lookup y.1).isSome=true):=λ⟨n,v⟩ hy=>by
  rcases S.par n (QU hy).1 with q | q
  ·exact .inl q
  ·exact .inr ⟨q,QI _ _ _ (.inl q)⟩
 refine codeAny_call_function hr.depth (KX _ _ lk) rfl S.co S.gen rfl (XY KX hcd) (hb _ _ _ _ ?_);refine wpAny_newFunctionEnv_cells S.kind hkind λenv he s1 x=>?_
 subst he;refine⟨lim.keeps x.toInCall.keep,codeAny_func ?_⟩;obtain⟨t,ht,hq⟩:=hbody A outer s H vs Q E (hr.deeper ⟨S.gen,S.co,rfl,rfl⟩) hsp;have I:Inv (gy CX P w K mg base N qual scope f cdv A outer s H E) [] (start N vs) H s1:=TJ S hr.hd e0 hl r x;refine WF (ht [] s1 (start N vs) H _ I hq) (λfl s' hs=>?_) λe s' hs=>hs
 have fin:∀{σ':St}{H':Hp}{v:V}{u:wf},Inv (gy CX P w K mg base N qual scope f cdv A outer s H E) [] σ' H' s'->aP v u->Q v H'->CE outer P w H s Q u s' :=
  λ{σ' H' v u} J rv q=>⟨v,H',J.os,J.bare,J.base,J.aA,rv,q⟩
 cases fl with
 | ret u =>
  obtain⟨v,σ',H',J,rv,q⟩:=hs;exact fin J rv q
 | next =>
  obtain⟨σ',H',J,q⟩:=hs;exact fin (v:=V.bC) (u:=Value.none) J rfl q
 | brk =>
  obtain⟨_,_,_,q⟩:=hs;exact WB q
 | cont =>
  obtain⟨_,_,_,q⟩:=hs;exact WB q
section
variable{X:Cx}{x:Str}{p pos:Pos}{e:Expr}{es:List Expr}{t:TA}{id T:String}{r:List V->Hp->VK->Prop}
def rp(r:List V->Hp->VK->Prop)(t:TA):TE:=λσ H Q=>t σ H λvs H1=>r vs H1 Q
theorem cy(hc:bK X (.builtin id) r)(hg:Gl X x)(hm:X.mg x=none)(hv:vJ x=some (.builtin id))(ha:PA X (e::es) t)(hn:x≠"__name__":=by decide)(hdb:(x == ("__debug__" : Str))=false:=by decide)
  (he:wX (e::es) X.env=(false,eval e X.env)::wX es X.env:=by rfl) (hpl:(VN pos (wX es X.env)).any (·.1)=false:=by rfl):PE X (.Call (.Name x p) (e::es) [] pos) (rp r t):=by
 intro pins s σ H Q I h;refine qB (gK I hg hm hv ?_ hn hdb);exact PyProof.Rows.callWith_builtin1 (aD (ha pos pins s σ H _ I h) λus s1 ⟨vs,H1,I1,r1,q1⟩=>hc pins s1 σ H1 vs us Q I1 r1 q1) he hpl
theorem ke(hc:bK X (.type T) r)(hg:Gl X x)(hm:X.mg x=none)(hv:vJ x=some (.type T))(ha:PA X (e::es) t)(hn:x≠"__name__":=by decide)(hdb:(x == ("__debug__" : Str))=false:=by decide)
  (he:wX (e::es) X.env=(false,eval e X.env)::wX es X.env:=by rfl) (hpl:(VN pos (wX es X.env)).any (·.1)=false:=by rfl):PE X (.Call (.Name x p) (e::es) [] pos) (rp r t):=by
 intro pins s σ H Q I h;refine qB (gK I hg hm hv ?_ hn hdb);exact vE (aD (ha pos pins s σ H _ I h) λus s1 ⟨vs,H1,I1,r1,q1⟩=>hc pins s1 σ H1 vs us Q I1 r1 q1) he hpl
end
section
variable{κ : Type}[DecidableEq κ]
def df(kvs:List (κ × V))(k : κ):Option V:=(kvs.find? λkv=>decide (kv.1=k)).map (·.2)
def fV(kvs:List (κ × V))(k : κ)(v:V):List (κ × V) :=
 if(kvs.any λkv=>decide (kv.1=k))=true then kvs.map (λkv=>if kv.1=k then(kv.1,v)else kv)else kvs++[(k,v)]
theorem iK{p : κ × V}{r:List (κ × V)}{k : κ}(e:p.1=k):df (p::r) k=some p.2:=by simp[df,Vr,e]
theorem jf{p : κ × V}{r:List (κ × V)}{k : κ}(e:¬ p.1=k):df (p::r) k=df r k:=by simp[df,Vr,e]
theorem yb(k : κ):∀kvs:List (κ × V),(kvs.any λkv=>decide (kv.1=k))=(df kvs k).isSome
 | []=>rfl
 | p::r=>by
  rw[W7]
  by_cases e:p.1=k
  ·simp only[iK e,decide_eq_true e,XZ,Option.isSome_some]
  ·rw[jf e,decide_eq_false e,Bool.false_or];exact yb k r
theorem Nd(k j : κ)(y:V):∀kvs:List (κ × V),df (kvs.map λkv=>if kv.1=k then(kv.1,y)else kv) j=(df kvs j).map λx=>if j=k then y else x
 | []=>rfl
 | p::r=>by
  have ih:=Nd k j y r;rw[wV]
  by_cases h:p.1=k
  ·rw[if_pos h]
   by_cases e:p.1=j
   ·rw[iK (p:=(p.1,y)) e,iK e,qw,if_pos (e.symm.trans h)]
   ·rw[jf (p:=(p.1,y)) e,jf e,ih]
  ·rw[if_neg h]
   by_cases e:p.1=j
   ·rw[iK (p:=p) e,iK e,qw,if_neg (λz=>h (e.trans z))]
   ·rw[jf (p:=p) e,jf e,ih]
theorem Tg(k j : κ)(y:V):∀kvs:List (κ × V),df kvs k=none->df (kvs++[(k,y)]) j=if j=k then some y else df kvs j
 | [],_=>by
  by_cases e:k=j
  ·rw[if_pos e.symm];exact iK (p:=(k,y)) e
  ·rw[if_neg (λz=>e z.symm)];exact jf (p:=(k,y)) e
 | p::r,hn=>by
  rw[QL];have hk:¬ p.1=k:=λz=>by rw[iK z]at hn;cases hn
  rw[jf hk]at hn;have ih:=Tg k j y r hn
  by_cases e:p.1=j
  ·rw[iK e,iK e,if_neg (λz=>hk (e.trans z))]
  ·rw[jf e,jf e,ih]
theorem zxs(kvs:List (κ × V))(k j : κ)(y:V):df (fV kvs k y) j=if j=k then some y else df kvs j:=by
 unfold fV
 by_cases a:(kvs.any λkv=>decide (kv.1=k))=true
 ·rw[if_pos a,Nd]
  rw[yb]at a
  by_cases e:j=k
  ·obtain⟨x,hx⟩:=Vq.mp a
   rw[if_pos e,e,hx,qw,if_pos rfl]
  ·rw[if_neg e]
   cases df kvs j with
   | none=>rfl
   | some x=>rw[qw,if_neg e]
 ·rw[if_neg a]
  refine Tg k j y kvs ?_;rw[yb]at a;cases q:df kvs k with
  | none=>rfl
  | some x=>rw[q]at a;exact(a rfl).elim
theorem Bt(kvs:List (κ × V))(k : κ)(v:V):(fV kvs k v).length<=kvs.length+1:=by
 unfold fV
 split
 ·rw[wm];lia
 ·rw[wT,vx,QV];lia
theorem nR.ou{o:Option V}{u:Option wf}(r:nR o u):o.isSome=u.isSome:=by
 cases o with
 | none=>cases u with
  | none=>rfl
  | some _=>exact(show False from r).elim
 | some _=>cases u with
  | none=>exact(show False from r).elim
  | some _=>rfl
theorem KV.val{kvs:List (κ × V)}{vs:List (κ × wf)}(r:KV kvs vs)(k : κ):nR (df kvs k) (valueAt vs k):=by
 unfold KV at r
 induction r with
 | nil=>exact True.intro
 | @cons p q ps qs h t ih =>
  obtain⟨h1,h2⟩:=h
  by_cases e:p.1=k
  ·have e':q.1=k:=h1.symm.trans e
   have b:valueAt (q::qs) k=some q.2:=by simp[valueAt,Vr,e']
   rw[iK e,b];exact h2
  ·have e':¬ q.1=k:=λz=>e (h1.trans z)
   have b:valueAt (q::qs) k=valueAt qs k:=by simp[valueAt,Vr,e']
   rw[jf e,b];exact ih
theorem KV.any{kvs:List (κ × V)}{vs:List (κ × wf)}(r:KV kvs vs)(k : κ):(kvs.any λkv=>decide (kv.1=k))=vs.any λkv=>decide (kv.1=k):=by
 unfold KV at r
 induction r with
 | nil=>rfl
 | cons h t ih=>rw[W7,W7,ih,h.1]
theorem KV.A6{kvs:List (κ × V)}{vs:List (κ × wf)}(r:KV kvs vs)(k : κ){y:V}{u:wf}(ry:aP y u) :
  KV (kvs.map λkv=>if kv.1=k then(kv.1,y)else kv) (vs.map λkv=>if kv.1=k then(kv.1,u)else kv):=by
 unfold KV at r ⊢
 induction r with
 | nil=>exact .nil
 | @cons p q ps qs h t ih =>
  rw[wV,wV];refine .cons ?_ ih;obtain⟨h1,h2⟩:=h
  by_cases e:p.1=k
  ·rw[if_pos e,if_pos (h1.symm.trans e)];exact⟨h1,ry⟩
  ·rw[if_neg e,if_neg (λz=>e (h1.trans z))];exact⟨h1,h2⟩
theorem KV.put{kvs:List (κ × V)}{vs:List (κ × wf)}(r:KV kvs vs)(k : κ){y:V}{u:wf}(ry:aP y u):KV (fV kvs k y) (stored vs k u):=by
 unfold fV stored;rw[r.any k]
 by_cases e:(vs.any λkv=>decide (kv.1=k))=true
 ·rw[if_pos e,if_pos e];exact r.A6 k ry
 ·rw[if_neg e,if_neg e];exact UZ r ⟨rfl,ry⟩
theorem KV.length{kvs:List (κ × V)}{vs:List (κ × wf)}(r:KV kvs vs):kvs.length=vs.length:=xn r
end
variable{u:wf}{H:Hp}
theorem zY{P:wE}{w:World}{k:Key}(r:aP (kV k) u):(gf P w).is k u=true:=by
 cases k with
 | inl i=>obtain⟨t,e⟩:=(show ∃t,u=Value.int i t from r);subst e;exact zrA P w i t
 | inr x=>obtain⟨t,e⟩:=(show ∃t,u=Value.str x t from r);subst e;exact zsf P w x t
theorem N9{P:wE}{w:World} : ∀{ks:List Key}{us:List wf},aM (ks.map kV) us->ItemsAre (gf P w) ks us
 | [],_,r=>by rw[Qk]at r;cases r;exact .nil
 | k::ks,_,r=>by
  rw[wV]at r;cases r with
  | cons h t=>exact .cons (zY h) (N9 t)
abbrev KT(H:Hp):List (List Key × V)->List (List Key × wg × wf)->Prop:=Paired λp q=>p.1=q.1/\H q.2.1=some (.tup (p.1.map kV))/\aP p.2 q.2.2
theorem KT.val{kvs:List (List Key × V)}{xs:List (List Key × wg × wf)}(r:KT H kvs xs)(k:List Key):nR (df kvs k) ((atKey xs k).map (·.2)):=by
 induction r with
 | nil=>exact True.intro
 | @cons p q ps qs h t ih =>
  obtain⟨h1,_,h2⟩:=h
  by_cases e:p.1=k
  ·have e':q.1=k:=h1.symm.trans e
   have b:atKey (q::qs) k=some q.2:=by simp[atKey,Vr,e']
   rw[iK e,b];exact h2
  ·have e':¬ q.1=k:=λz=>e (h1.trans z)
   have b:atKey (q::qs) k=atKey qs k:=by simp[atKey,Vr,e']
   rw[jf e,b];exact ih
theorem KT.A6{kvs:List (List Key × V)}{xs:List (List Key × wg × wf)}(r:KT H kvs xs)(k:List Key){y:V}(ry:aP y u) :
  KT H (kvs.map λkv=>if kv.1=k then(kv.1,y)else kv) (xs.map (putAt k u)):=by
 induction r with
 | nil=>exact .nil
 | @cons p q ps qs h t ih =>
  rw[wV,wV];refine .cons ?_ ih;obtain⟨h1,h2,h3⟩:=h;unfold putAt
  by_cases e:p.1=k
  ·rw[if_pos e,if_pos (h1.symm.trans e)];exact⟨h1,h2,ry⟩
  ·rw[if_neg e,if_neg (λz=>e (h1.trans z))];exact⟨h1,h2,h3⟩
theorem KT.put{kvs:List (List Key × V)}{xs:List (List Key × wg × wf)}(r:KT H kvs xs)(k:List Key){b:wg}{y:V}(hb:H b=some (.tup (k.map kV)))(ry:aP y u) :
  KT H (fV kvs k y) (storedH xs k b u):=by
 have e:(kvs.any λkv=>decide (kv.1=k))=(atKey xs k).isSome:=by
  rw[yb,(r.val k).ou,xz]
 unfold fV storedH;rw[e]
 by_cases q:(atKey xs k).isSome=true
 ·rw[if_pos q,if_pos q];exact r.A6 k ry
 ·rw[if_neg q,if_neg q];exact UZ r ⟨rfl,hb,ry⟩
theorem KT.keeps{H':Hp}{kvs:List (List Key × V)}{xs:List (List Key × wg × wf)}(r:KT H kvs xs)(ht:∀b ys,H b=some (.tup ys)->H' b=some (.tup ys)):KT H' kvs xs :=
 Paired.A4 r λ_ _ z=>⟨z.1,ht _ _ z.2.1,z.2.2⟩
section
variable{P:wE}{w:World}{H:Hp}{h:wJ}{a:wg}
theorem Lf{u:HO}(ok:ck P w H h)(e:Rd H a u):cw P w H h a u:=e.ok ok
theorem EH{kvs:List (Key × V)}(ok:ck P w H h)(e:Rd H a (.dK kvs)):kvs.length<=wZ/\(a == Vb)=false /\ ∃vs,KV kvs vs/\h.DictOf (gf P w) a vs :=
 show cw P w H h a (.dK kvs)from Lf ok e
theorem ZS{kvs:List (Key × V)}(ok:ck P w H h)(e:H a=some (.dK kvs)):kvs.length<=wZ/\(a == Vb)=false /\ ∃vs,KV kvs vs/\h.DictOf (gf P w) a vs:=EH ok (.inl e)
theorem zp{ks:List Key}(ok:ck P w H h)(e:H a=some (.tup (ks.map kV))):(tupleKind (gf P w)).is h ks a:=by
 obtain⟨_,its,r,o,h1,h2,n,h3⟩:=(show cw P w H h a (.tup (ks.map kV))from ok a _ e);exact⟨o,its.toArray,n,h1,h2,h3,by simpa using N9 r⟩
theorem EF{kvs:List (List Key × V)}(ok:ck P w H h)(e:Rd H a (.dT kvs)):kvs.length<=wZ/\(a == Vb)=false /\
  ∃xs,KT H kvs xs/\h.DictOfH (tupleKind (gf P w)) a xs:=by
 obtain⟨z,y,xs,r,o,es,ep,h1,h2,h3,h4,h5⟩:=(show cw P w H h a (.dT kvs)from Lf ok e);refine⟨z,y,xs,r,o,es,ep,h1,h2,h3,h4,λx hx=>?_,h5⟩
 have all:∀{l:List (List Key × V)}{m:List (List Key × wg × wf)},KT H l m->∀x∈m,(tupleKind (gf P w)).is h x.1 x.2.1:=by
  intro l m q
  induction q with
  | nil=>intro x hx;exact nomatch hx
  | @cons p q ps qs hq t ih =>
   intro x hx;rcases wK.mp hx with e | hx
   ·subst e
    exact zp ok (by rw[<- hq.1];exact hq.2.1)
   ·exact ih x hx
 exact all r x hx
theorem zDr{kvs:List (List Key × V)}(ok:ck P w H h)(e:H a=some (.dT kvs)):kvs.length<=wZ/\(a == Vb)=false /\
  ∃xs,KT H kvs xs/\h.DictOfH (tupleKind (gf P w)) a xs:=EF ok (.inl e)
end
def jI(H:Hp)(a:wg)(y:V)(r:Option V):Prop :=
 (∃kvs k,Rd H a (.dK kvs)/\y=kV k/\r=df kvs k) \/ ∃kvs k b,Rd H a (.dT kvs)/\y=.ref b/\H b=some (.tup (k.map kV))/\r=df kvs k
def mB(H:Hp)(a:wg)(y v:V)(H':Hp):Prop :=
 (∃kvs k,H a=some (.dK kvs)/\y=kV k/\kvs.length<wZ/\H'=upd H a (.dK (fV kvs k v))) \/
 ∃kvs k b,H a=some (.dT kvs)/\y=.ref b/\H b=some (.tup (k.map kV))/\kvs.length<wZ/\H'=upd H a (.dT (fV kvs k v))
theorem jI.k{H:Hp}{a:wg}{kvs:List (Key × V)}{k:Key}(e:H a=some (.dK kvs)):jI H a (kV k) (df kvs k):=.inl ⟨kvs,k,.inl e,rfl,rfl⟩
theorem mB.k{H:Hp}{a:wg}{kvs:List (Key × V)}{k:Key}{v:V}(e:H a=some (.dK kvs))(hl:kvs.length<wZ):mB H a (kV k) v (upd H a (.dK (fV kvs k v))):=.inl ⟨kvs,k,e,rfl,hl,rfl⟩
section
variable{X:Cx}{pins:List (wg × Obj)}{σ : St}{H:Hp}{s:wl}{a:wg}{y v:V}{u r:wf}{o:Option V}{A:w5}{E:wf->wl->Prop}
theorem Inv.big(I:Inv X pins σ H s):Vb<s.heap.objs.size:=by
 have h:wP<s.heap.objs.size:=(I.mod.glob.keeps I.bk).lt;exact X1 (by decide) h
theorem zD9{Q:wf->wl->Prop}(hu:A.units+1<cLine)(I:Inv X pins σ H s)(g:jI H a y o)(ry:aP y u)(h:∀s',Inv X pins σ H s'->Q (.bool o.isSome) s') :
  wt (model X.prog X.w) A (vU .In u (.ref a)) Q E s:=by
 rcases g with⟨kvs,k,e,ey,l⟩ | ⟨kvs,k,b,e,ey,eb,l⟩
 ·subst ey
  obtain⟨z,hd,vs,rel,dd⟩:=EH I.aA e;refine wpAny_in_of (zY ry) hd dd.mapOf ?_;rw[<- (rel.val k).ou,<- l];exact h _ (I.tok _)
 ·subst ey
  cases (show u=Value.ref b from ry);obtain⟨z,hd,xs,rel,dd⟩:=EF I.aA e;refine wpAny_in_heap (tupleKind_room_in1 hu) (zp I.aA eb) hd dd ?_;have q:=(rel.val k).ou;rw[xz]at q;rw[<- q,<- l];exact h _ (I.tok _)
theorem zzK{Q:wf->wl->Prop}(hu:A.units+1<cLine)(I:Inv X pins σ H s)(g:jI H a y o)(ry:aP y u)(h:∀s',Inv X pins σ H s'->Q (.bool (!o.isSome)) s') :
  wt (model X.prog X.w) A (vU .NotIn u (.ref a)) Q E s:=by
 rcases g with⟨kvs,k,e,ey,l⟩ | ⟨kvs,k,b,e,ey,eb,l⟩
 ·subst ey
  obtain⟨z,hd,vs,rel,dd⟩:=EH I.aA e;refine wpAny_notIn_of (zY ry) hd dd.mapOf ?_;rw[<- (rel.val k).ou,<- l];exact h _ (I.tok _)
 ·subst ey
  cases (show u=Value.ref b from ry);obtain⟨z,hd,xs,rel,dd⟩:=EF I.aA e;refine wpAny_notIn_heap (tupleKind_room_in1 hu) (zp I.aA eb) hd dd ?_;have q:=(rel.val k).ou;rw[xz]at q;rw[<- q,<- l];exact h _ (I.tok _)
theorem N7{h':wJ}{t':Nat}{ob:HO}(I:Inv X pins σ H s)(mu:pE (H a))(hs:vv a s.heap h')(he:∃q,h'.get? a=some q)(new:cw X.prog X.w (upd H a ob) h' a ob) :
  Inv X pins σ (upd H a ob) {s with heap:=h',toks:=t'} :=
 I.write (x:=a) (e:=a) mu (.inl rfl) (λb q hb z=>(hs.2 b hb).trans z) he new
theorem zCx{P:wE}{w:World}{H':Hp}{h':wJ}{kvs:List (Key × V)}{vs:List (Key × wf)}(z:kvs.length<=wZ)(hd:(a == Vb)=false)(rel:KV kvs vs)(dd:h'.DictOf (gf P w) a vs) :
  cw P w H' h' a (.dK kvs):=⟨z,hd,vs,rel,dd⟩
theorem zwd{H':Hp}{Q:Unit->wl->Prop}(hu:A.units+1<cLine)(I:Inv X pins σ H s)(g:mB H a y v H')(ry:aP y u)(rv:aP v r)(h:∀s',Inv X pins σ H' s'->Q () s') :
  wt (model X.prog X.w) A (setItem (.ref a) u r) Q E s:=by
 rcases g with⟨kvs,k,e,ey,l,eH⟩ | ⟨kvs,k,b,e,ey,eb,l,eH⟩
 ·subst ey eH
  obtain⟨z,hd,vs,rel,dd⟩:=ZS I.aA e;have hz:vs.length<=wZ:=by rw[<- rel.length];exact z
  have hl:(fV kvs k v).length<=wZ:=by have:=Bt kvs k v;lia
  refine wpAny_setItem_pairs (hsz:=hz) (zY ry) dd λh' dd' hs=>h _ ?_
  have he:∃q,h'.get? a=some q:=let ⟨q,_,_,hq,_⟩:=dd';⟨q,hq⟩
  exact N7 I (by rw[e];exact True.intro) hs he (zCx hl hd (rel.put k rv) dd')
 ·subst ey eH
  cases (show u=Value.ref b from ry);obtain⟨z,hd,xs,rel,dd⟩:=zDr I.aA e;have hz:xs.length<=wZ:=by rw[<- xn rel];exact z
  have hl:(fV kvs k v).length<=wZ:=by have:=Bt kvs k v;lia
  refine wpAny_setItem_heap (hsz:=hz) (tupleKind_room_in1 hu) (zp I.aA eb) dd λh' dd' hs=>h _ ?_
  obtain⟨q,es,ep,hq,h2,h3,h4,_,h5⟩:=dd';refine N7 I (by rw[e];exact True.intro) hs ⟨q,hq⟩ ⟨hl,hd,_,(rel.put k eb rv).keeps λc ys ec=>?_,q,es,ep,hq,h2,h3,h4,h5⟩;rw[dW (ED ec e (λz=>nomatch z))];exact ec
end
section
variable{X:Cx}{pins:List (wg × Obj)}{σ : St}{H:Hp}{s:wl}{a:wg}{kvs:List (Key × V)}{k:Key}{u:wf}{A:w5}{E:wf->wl->Prop}
end
def Mc(i:Expr):Prop:=∀ov iv,subscripted i false ov iv=operate [ov,iv] (getItem ov iv)
theorem zz0{prog:wE}{w:World}{A:w5}{E:wf->wl->Prop}{s:wl}{env:Env}{value slice:Expr}{pos:Pos}{T id:String}{Q:wf->wl->Prop}
  (hl:typeLookup (.type T) "__getitem__"=pure (some (.builtin id))) (hs:Mc slice)
  (h:wt (model prog w) A (eval value env) (λo s₁=>wt (model prog w) A (eval slice env) (λi s₂=>s₂.TypeIs o T/\wt (model prog w) A (getItem o i) Q E s₂) E s₁) E s) :
  wt (model prog w) A (eval (.Subscript value slice pos) env) Q E s:=by
 refine Subscript_ (WF h (λo s₁ h₁=>WF h₁ (λi s₂ h₂=>?_) λ_ _ x=>x) λ_ _ x=>x);obtain⟨hT,h₂⟩:=h₂;unfold subscriptTail;refine we ?_;rw[getitemInPython_of_ne hT.not_modules];refine we (qC hT hl ?_)
 have fin:wt (model prog w) A (subscripted slice false o i) (λr s₃=>wt (model prog w) A (letTemporaryGo value o r >>= λ_=>pure r) Q E s₃) E s₂:=by
  rw[hs o i];exact wpAny_operating (WF h₂ (λr s₃ h₃=>we (wpAny_letTemporaryGo (wp h₃))) λ_ _ x=>x)
 first
  | exact wp (we fin)
  | exact we (wp (we fin))
  | exact we fin
def OV(ty td:TE):TE:=λσ H Q=>ty σ H λy H1=>td σ H1 λx H2=>∃a o,x=.ref a/\jI H2 a y o/\Q (.bl o.isSome) H2
def Pj(ty td:TE):TE:=λσ H Q=>ty σ H λy H1=>td σ H1 λx H2=>∃a o,x=.ref a/\jI H2 a y o/\Q (.bl (!o.isSome)) H2
def Nx(td ty tv:TE):TS:=λD σ H=>tv σ H λv H1=>td σ H1 λx H2=>ty σ H2 λy H3=>∃a H4,x=.ref a/\mB H3 a y v H4/\D.nx σ H4
section
variable{X:Cx}{o i e value:Expr}{pos pos' tpos:Pos}{td ty tv:TE}
theorem zCN(hu:X.A.units+1<cLine)(hi:PE X i ty)(ho:PE X o td):PC X .In i o (OV ty td):=by
 intro pins s σ H Q I h;refine aD (hi pins s σ H _ I h) λiv s1 ⟨y,H1,I1,ry,q1⟩=>aD (ho pins s1 σ H1 _ I1 q1) λu s2 ⟨x,H2,I2,rx,a,ov,ex,g,q2⟩=>?_
 subst ex;obtain rfl:u=Value.ref a:=rx;exact zD9 hu I2 g ry λs3 I3=>⟨.bl ov.isSome,H2,I3,rfl,q2⟩
theorem zvM(hu:X.A.units+1<cLine)(hi:PE X i ty)(ho:PE X o td):PC X .NotIn i o (Pj ty td):=by
 intro pins s σ H Q I h;refine aD (hi pins s σ H _ I h) λiv s1 ⟨y,H1,I1,ry,q1⟩=>aD (ho pins s1 σ H1 _ I1 q1) λu s2 ⟨x,H2,I2,rx,a,ov,ex,g,q2⟩=>?_
 subst ex;obtain rfl:u=Value.ref a:=rx;exact zzK hu I2 g ry λs3 I3=>⟨.bl (!ov.isSome),H2,I3,rfl,q2⟩
theorem zAG(hu:X.A.units+1<cLine)(ho:PE X o td)(hi:PE X i ty)(hv:PE X value tv)(hs:swapsWith value (some (.Subscript o i pos')) pos.line X.env=pure false) :
  PS X (.Assign [.Subscript o i pos'] value pos) (Nx td ty tv):=by
 intro pins s σ H D I h;refine wpAny_Assign_Subscript (aD (hv pins s σ H _ I h) λr s1 ⟨v,H1,I1,rv,q1⟩=>aD (ho pins s1 σ H1 _ I1 q1) λu s2 ⟨x,H2,I2,rx,q2⟩=>aD (hi pins s2 σ H2 _ I2 q2) λiv s3 ⟨y,H3,I3,ry,a,H4,ex,g,q3⟩=>?_) hs;subst ex;obtain rfl:u=Value.ref a:=rx;exact zwd hu I3 g ry rv λs4 I4=>⟨σ,H4,I4,q3⟩
end
theorem zw6{P:wE}{w:World}{H:Hp}(h:wJ)(hb:Vb<h.objs.size):cw P w H (h.push {cls:=.type "dict",data:=.dict #[]}) h.objs.size (.dK []) :=
 ⟨Wy _,beq_eq_false_iff_ne.mpr (WI (wL hb)),[],.nil,Heap.DictOf.new h⟩
def Ld:TE:=λ_ H Q=>∀p,H p=none->Q (.ref p) (upd H p (.dK []))
section
variable{X:Cx}{pos:Pos}
theorem zw0:PE X (.Dict [] [] pos) Ld:=λpins s σ H Q I h =>
 wpAny_Dict_empty ⟨.ref s.heap.objs.size,_,I.laid (a:=s.heap.objs.size) (o:=.dK []) (t':=s.toks) (λ_ _ q=>wn _ q) (wo _) (zw6 s.heap I.big),rfl,h _ (I.aA.fresh (wo _))⟩
end
abbrev VV:List (V × V)->List (wf × wf)->Prop:=Paired λp q=>aP p.1 q.1/\aP p.2 q.2
section
variable{X:Cx}{pins:List (wg × Obj)}{σ : St}{H:Hp}{s:wl}{a:wg}{y d:V}{u r:wf}{o:Option V}{A:w5}{E:wf->wl->Prop}
end
section
variable{X:Cx}{o e f:Expr}{apos cpos:Pos}{td ty tx:TE}
end
section
variable{X:Cx}{pins:List (wg × Obj)}{σ : St}{H:Hp}{s:wl}{a:wg}{kvs:List (Key × V)}{A:w5}{E:wf->wl->Prop}
end
section
variable{X:Cx}{pins:List (wg × Obj)}{σ : St}{H:Hp}{s:wl}{a:wg}{y:V}{u:wf}{A:w5}{E:wf->wl->Prop}
end
end L2
namespace HT
open PySem PyProof.Rows
section
open PySem.SeqAt
open PySem.AutoSeq1 (wpAny_loadPart')
open PySem.MeetsSeq PySem.MeetsSeq2 PySem.MeetsSeq3
end
section
variable{prog:wE}{w:World}{A:w5}{E:wf->wl->Prop}{s:wl}
theorem YQ{t b:wg}{vs ws:List wf}{Q:wf->wl->Prop}(ht:IsTup s.heap t vs.toArray)(hb:IsTup s.heap b ws.toArray)(hv:vs≠[])
  (h1:ws=[]->Q (.ref t) s) (h2:ws≠[]->Q (.ref s.heap.objs.size) {s with heap:=s.heap.push {cls:=.type "tuple",data:=.seq (vs++ws).toArray}})
  (hsz:vs.length+ws.length<=wZ):wt (model prog w) A (Ve .Add (.ref t) (.ref b)) Q E s:=by
 obtain⟨⟨cls,dd,data,sl⟩,ho,hc,n,hd⟩:=id ht;obtain⟨⟨cls2,dd2,data2,sl2⟩,ho2,hc2,n2,hd2⟩:=id hb;simp only at hc hd hc2 hd2;subst hc hd hc2 hd2;have e:vs.toArray++ws.toArray=(vs++ws).toArray:=by simp
 by_cases hw:ws=[]
 ·exact concat_meets ⟨_,ho,rfl⟩ ⟨_,ho2,rfl⟩ noFill_tuple_add seq_tuple_add QJ Qy (Ql _ _)
   (tuple_addW1 t b vs.toArray ws.toArray n n2 dd dd2 sl sl2 (by simpa using hv) (by simp[hw])) ⟨ho,ho2,h1 hw⟩
 ·refine concat_meets ⟨_,ho,rfl⟩ ⟨_,ho2,rfl⟩ noFill_tuple_add seq_tuple_add QJ Qy (Ql _ _)
   (tuple_addW2 t b vs.toArray ws.toArray n n2 dd dd2 sl sl2 (by simpa using hv) (by simpa using hw) (by rw[wS,wS];exact hsz)) ⟨ho,ho2,?_⟩
  rw[e];exact h2 hw
def aU(n d:Nat):Option Int->Nat
 | none=>d
 | some v=>if v<0 then(v+(n:Int)).toNat else min v.toNat n
theorem YG(n d:Nat):aU n d none=d:=rfl
theorem YR(n d k:Nat):aU n d (some (k:Int))=min k n:=by
 show(if(k:Int)<0 then((k:Int)+(n:Int)).toNat else min (k:Int).toNat n)=min k n
 rw[if_neg (by lia),wY]
theorem zBX(n d:Nat)(hd:d<=n)(o:Option Int):aU n d o<=n:=by
 cases o with
 | none=>exact hd
 | some v =>
  show(if v<0 then(v+(n:Int)).toNat else min v.toNat n)<=n
  by_cases hv:v<0
  ·rw[if_pos hv];lia
  ·rw[if_neg hv];exact xI _ _
theorem M4(v:Int)(n d:Nat):(if v<0 then max (v+(n:Int)) 0 else min v (n:Int))=((aU n d (some v):Nat):Int):=by
 show(if v<0 then max (v+(n:Int)) 0 else min v (n:Int))=(((if v<0 then(v+(n:Int)).toNat else min v.toNat n):Nat):Int)
 by_cases hv:v<0
 ·simp only[if_pos hv];lia
 ·simp only[if_neg hv];lia
theorem ztl(lo hi:Option Int)(n:Nat):Qc lo hi 1 (n:Int)=(((aU n 0 lo:Nat):Int),((aU n n hi:Nat):Int)):=by
 have h1:¬ ((1:Int)<0):=by lia
 unfold Qc;simp only[h1,if_false];refine VT ?_ ?_
 ·cases lo with
  | none=>rfl
  | some v=>exact M4 v n 0
 ·cases hi with
  | none=>rfl
  | some v=>exact M4 v n n
theorem zsA(i j:Nat):V9 (i:Int) (j:Int) 1=j-i:=by
 unfold V9;have h1:(1:Int) > 0:=by lia
 simp only[h1,if_true,Int.ediv_one]
 split<;>lia
theorem MW{v:wf}{o:Option Int}{Q:Option Int->wl->Prop}(p:IsPart v o)(h:Q o s):wt (model prog w) A (Uw v) Q E s:=by
 cases p with
 | none=>exact slicePart_none h
 | int i t=>exact slicePart_int h
theorem zkF{sl:wg}{vl vu:wf}{lo hi:Option Int}{n:Nat}{Q:Int × Int × Nat->wl->Prop}(hs:s.heap.IsSliceOf sl vl vu .none)(pl:IsPart vl lo)(pu:IsPart vu hi)
  (h:Q (((aU n 0 lo:Nat):Int),1,aU n n hi-aU n 0 lo) s):wt (model prog w) A (xp (.ref sl) (pure (n:Int))) Q E s:=by
 obtain⟨os,hos,hcs,hds⟩:=id hs;unfold xp UQ;refine we (we (vt hos hds (x:=vl) rfl (we (vt hos hds (x:=vu) rfl (we (vt hos hds (x:=.none) rfl (wp ?_)))))));refine we (slicePart_none ?_)
 show wt _ _ (if((1:Int) == 0)=true then _ else _) _ _ s
 rw[if_neg (by decide)];refine we (MW pl (we (MW pu (we (wp ?_)))))
 show wt _ _ (match Qc lo hi 1 (n:Int)with | (lo,hi)=>pure (lo,(1:Int),V9 lo hi 1)) _ _ s
 rw[ztl lo hi n]
 show wt _ _ (pure (((aU n 0 lo:Nat):Int),(1:Int),V9 ((aU n 0 lo:Nat):Int) ((aU n n hi:Nat):Int) 1)) _ _ s
 rw[zsA];exact wp h
theorem zx3(xs:Array wf)(i k:Nat):((wq k).filterMap λ(m:Nat)=>xs[((i:Int)+(m:Int)*1).toNat]?).toArray=((xs.toList.drop i).take k).toArray:=by
 have e:(λ(m:Nat)=>xs[((i:Int)+(m:Int)*1).toNat]?)=λm=>xs[i+m]?:=by
  funext m
  have:((i:Int)+(m:Int)*1).toNat=i+m:=by lia
  rw[this]
 rw[e];have:=pick_run xs i k;rw[List.filterMap_map]at this;have e2:((λx=>xs[x]?) ∘ λx=>i+x)=λm=>xs[i+m]?:=rfl
 rw[e2]at this;rw[this]
theorem U6{t sl:wg}{items:Array wf}{vl vu:wf}{lo hi:Option Int}{Q:wf->wl->Prop}(ht:IsTup s.heap t items)(hs:s.heap.IsSliceOf sl vl vu .none)(pl:IsPart vl lo)(pu:IsPart vu hi)
  (hw:¬ (aU items.size 0 lo=0/\aU items.size items.size hi=items.size))
  (h:Q (.ref s.heap.objs.size) {s with heap:=s.heap.push {cls:=.type "tuple",data:=.seq ((items.toList.drop (aU items.size 0 lo)).take (aU items.size items.size hi-aU items.size 0 lo)).toArray}})
  (hsz:items.size<=wZ):wt (model prog w) A (getItem (.ref t) (.ref sl)) Q E s:=by
 have htake:sizeOk (.seq ((items.toList.drop (aU items.size 0 lo)).take (aU items.size items.size hi-aU items.size 0 lo)).toArray):=by
  show((items.toList.drop (aU items.size 0 lo)).take (aU items.size items.size hi-aU items.size 0 lo)).toArray.size<=wZ
  rw[wS,Wu,vW,wI]
  lia
 have hj:aU items.size items.size hi<=items.size:=zBX _ _ (wo _) hi;obtain⟨os,hos,hcs,hds⟩:=id hs;have hTs:s.TypeIs (.ref sl) "slice":=⟨os,hos,hcs⟩;unfold getItem
 try with_reducible refine vD ?_
 first | refine we (wp ?_) | skip
 refine we (wpAny_sequenceKey ht.typeIs (by decide) ?_)
 refine we (wpAny_callSpecial?_slot (name:=vT "__getitem__") ht.typeIs qr
  (vZ qr ht.typeIs entry_tuple_getitem ?_ (args_tuple_getitem _ _)))
 show wt _ _ (xq (.ref t) >>= _) _ _ s
 refine we (tupleItemsOf_ ht ?_);refine we (wpAny_typeOf hTs ?_);rw[if_pos (by decide)];refine we (zkF hs pl pu ?_)
 have hno:¬ ((((aU items.size 0 lo:Nat):Int) == 0&&(1:Int) == 1&&(aU items.size items.size hi-aU items.size 0 lo) == items.size)=true):=by
  intro q;rw[w9,w9]at q;have q1:((aU items.size 0 lo:Nat):Int)=0:=eq_of_beq q.1.1;have q2:aU items.size items.size hi-aU items.size 0 lo=items.size:=eq_of_beq q.2;exact hw ⟨by lia,by lia⟩
 show wt _ _ (if(((aU items.size 0 lo:Nat):Int) == 0&&(1:Int) == 1&&(aU items.size items.size hi-aU items.size 0 lo) == items.size)=true then _ else _) _ _ s
 rw[if_neg hno,zx3]
 first
  | exact we (m:=qj _) (WA (wp ⟨_,rfl,wp h⟩) htake)
  | exact we (m:=qj _) (WA (we (wp (wp ⟨_,rfl,wp h⟩))) htake)
  | exact we (we (m:=qj _) (WA (wp (wp ⟨_,rfl,wp h⟩)) htake))
  | exact we (we (m:=qj _) (WA (wp ⟨_,rfl,wp h⟩) htake))
end
end HT
namespace L2
open PySem PySem.Spec PyProof.Rows
abbrev TO:=St->Hp->(Option Int->Hp->Prop)->Prop
def PO(X:Cx)(e:Option Expr)(t:TO):Prop :=
 ∀(pins:List (wg × Obj))(s:wl)(σ : St)(H:Hp)(Q:Option Int->Hp->Prop),Inv X pins σ H s->t σ H Q ->
  wt (model X.prog X.w) X.A (evalPart e X.env) (λu s'=>∃o H',Inv X pins σ H' s'/\IsPart u o/\Q o H') X.xe s
def Jy:TO:=λ_ H Q=>Q none H
def Pz(t:TE):TO:=λσ H Q=>t σ H λx H1=>∃i,x=.int i/\Q (some i) H1
theorem zb{ns:List Int} : ∀{us:List wf},aM (ns.map V.int) us->IntsAre us ns:=by
 induction ns with
 | nil=>intro us r;rw[Qk]at r;cases r;exact .nil
 | cons n ns ih =>
  intro us r;rw[wV]at r;cases r with
  | cons r1 r2 =>
   obtain⟨t,e⟩:=r1;subst e;exact .cons n t (ih r2)
section
variable{X:Cx}{e:Expr}{te:TE}{lo hi:Option Expr}{tl th:TO}{pos p2:Pos}
theorem v_:PO X none Jy:=by
 intro pins s σ H Q I h;rw[evalPart_none];exact wp ⟨none,H,I,.none,h⟩
theorem yM(h:PE X e te):PO X (some e) (Pz te):=by
 intro pins s σ H Q I hw;rw[evalPart_some];refine aD (h pins s σ H _ I hw) λu s1 ⟨x,H1,I1,r1,q1⟩=>?_
 obtain⟨i,rfl,q⟩:=q1;obtain⟨t,rfl⟩:=r1;exact⟨some i,H1,I1,.int i t,q⟩
def kX(X:Cx)(r:V->Option Int->Option Int->Hp->VK->Prop):Prop :=
 ∀(pins:List (wg × Obj))(s:wl)(σ : St)(H:Hp)(x:V)(v vl vu:wf)(lo hi:Option Int)(sl:wg)(Q:VK),Inv X pins σ H s->aP x v->s.heap.IsSliceOf sl vl vu .none->IsPart vl lo->IsPart vu hi->r x lo hi H Q ->
  ∃T id,typeLookup (.type T) "__getitem__"=pure (some (.builtin id))/\s.TypeIs v T/\wt (model X.prog X.w) X.A (getItem v (.ref sl)) (EP X pins σ Q) X.xe s
theorem kX.or{r r':V->Option Int->Option Int->Hp->VK->Prop}(h:kX X r)(h':kX X r'):kX X (λx lo hi H Q=>r x lo hi H Q\/r' x lo hi H Q):=by
 intro pins s σ H x v vl vu lo hi sl Q I rx hs pl pu q;rcases q with q | q
 ·exact h pins s σ H x v vl vu lo hi sl Q I rx hs pl pu q
 ·exact h' pins s σ H x v vl vu lo hi sl Q I rx hs pl pu q
def Nb(r:V->Option Int->Option Int->Hp->VK->Prop)(te:TE)(tl th:TO):TE:=λσ H Q=>te σ H λx H1=>tl σ H1 λl H2=>th σ H2 λu H3=>r x l u H3 Q
theorem zB{r:V->Option Int->Option Int->Hp->VK->Prop}(hr:kX X r)(he:PE X e te)(hl:PO X lo tl)(hu:PO X hi th):PE X (.Subscript e (.Slice lo hi none p2) pos) (Nb r te tl th):=by
 intro pins s σ H Q I h;refine Subscript_ (aD (he pins s σ H _ I h) λv s1 ⟨x,H1,I1,r1,q1⟩=>?_);refine wpAny_Slice (aD (hl pins s1 σ H1 _ I1 q1) λvl s2 ⟨l,H2,I2,pl,q2⟩=>aD (hu pins s2 σ H2 _ I2 q2) λvu s3 ⟨u,H3,I3,pu,q3⟩=>?_);rw[evalPart_none];refine wp ?_;have I4:Inv X pins σ H3 {s3 with heap:=s3.heap.push {cls:=.type "slice",data:=.fields #[vl,vu,.none]}}:=I3.kept (t':=s3.toks) λb ob q=>wn _ q
 obtain⟨T,id,hT,ht,hg⟩:=hr pins {s3 with heap:=s3.heap.push {cls:=.type "slice",data:=.fields #[vl,vu,.none]}} σ H3 x v vl vu l u s3.heap.objs.size Q I4 r1 (U1 ..) pl pu q3
 show wt (model X.prog X.w) X.A (subscriptTail e (.Slice lo hi none p2) v (.ref s3.heap.objs.size)) (EP X pins σ Q) X.xe {s3 with heap:=s3.heap.push {cls:=.type "slice",data:=.fields #[vl,vu,.none]}}
 exact tail_any (ops:=[.ref s3.heap.objs.size,v]) ht hT hg (by with_unfolding_all rfl)
def kc(xs:List V)(lo hi:Option Int):List V:=(xs.drop (HT.aU xs.length 0 lo)).take (HT.aU xs.length xs.length hi-HT.aU xs.length 0 lo)
theorem SX(xs:List V)(lo hi:Option Int):(kc xs lo hi).length<=xs.length:=by
 unfold kc;rw[Wu,vW]
 lia
def My(K:wb):V->Option Int->Option Int->Hp->VK->Prop:=λx lo hi H Q=>∃a xs,x=.ref a/\aI K H a xs /\
 ¬ (HT.aU xs.length 0 lo=0/\HT.aU xs.length xs.length hi=xs.length) /\ ∀p,H p=none->Q (.ref p) (upd H p (.tup (kc xs lo hi)))
theorem ZY:kX X (My X.K):=by
 intro pins s σ H x v vl vu lo hi sl Q I rx hs pl pu h;obtain⟨a,xs,rfl,hx,hw,q⟩:=h;cases rx;obtain⟨its,r,ht,hz⟩:=I.tuple hx;have hlen:its.toArray.size=xs.length:=by rw[wS];exact r.length.symm
 refine⟨"tuple",_,qr.lookup,ht.typeIs,?_⟩;refine HT.U6 ht hs pl pu (by rw[hlen];exact hw) ?_ (by rw[hlen];exact hz);rw[hlen];refine⟨.ref s.heap.objs.size,_,I.laid (t':=s.toks) (o:=.tup (kc xs lo hi)) (λb ob q=>wn _ q) (wo _) ?_,rfl,q _ (I.aA.fresh (wo _))⟩;exact⟨Wb (SX xs lo hi) hz,_,(r.drop (HT.aU xs.length 0 lo)).take (HT.aU xs.length xs.length hi-HT.aU xs.length 0 lo),QN _ _⟩
def PK(K:wb):R2:=λx y H Q=>∃a b xs ys,x=.ref a/\y=.ref b/\aI K H a xs/\aI K H b ys/\xs≠[]/\xs.length+ys.length<=wZ /\
 (ys=[]->Q (.ref a) H)/\(ys≠[]->∀p,H p=none->Q (.ref p) (upd H p (.tup (xs++ys))))
theorem aM.A1{xs:List V}{us:List wf}(r:aM xs us):us=[] ↔ xs=[]:=by
 cases r with
 | nil=>simp
 | cons _ _=>simp
theorem zy4:bL X (Ve .Add) (PK X.K):=by
 intro pins s σ H x y v u Q I rx ry h;obtain⟨a,b,xs,ys,rfl,rfl,ha,hb,hx,hz,q1,q2⟩:=h;cases rx;cases ry;obtain⟨its,r1,p1,_⟩:=I.tuple ha;obtain⟨its2,r2,p2,_⟩:=I.tuple hb;refine HT.YQ p1 p2 (λz=>hx (r1.A1.mp z)) (λz=>⟨.ref a,H,I,rfl,q1 (r2.A1.mp z)⟩) (λz=>?_) (by rw[<- r1.length,<- r2.length];exact hz);refine⟨.ref s.heap.objs.size,_,I.laid (t':=s.toks) (o:=.tup (xs++ys)) (λb ob q=>wn _ q) (wo _) ?_,rfl,q2 (λw=>z (r2.A1.mpr w)) _ (I.aA.fresh (wo _))⟩;exact⟨by rw[wT];exact hz,_,r1.append r2,QN _ _⟩
end
def ja(n:Nat)(i:Int):Option Nat:=if 0<=i then(if i<n then some i.toNat else none)else if -(n:Int)<=i then some (i+n).toNat else none
def gq{α : Type}(xs:List α)(i:Int):Option α:=(ja xs.length i).bind λj=>xs[j]?
theorem Nj{n:Nat}{i:Int}{j:Nat}(h:ja n i=some j):seqIndex? i n=some j/\j<n /\ -(n:Int)<=i/\i<n:=by
 unfold ja at h
 by_cases h0:0<=i
 ·rw[if_pos h0]at h
  by_cases h1:i<n
  ·rw[if_pos h1]at h
   have e:i.toNat=j:=wN h;exact⟨by rw[seqIndex_of h0 h1,e],by lia,by lia,h1⟩
  ·rw[if_neg h1]at h;cases h
 ·rw[if_neg h0]at h
  by_cases h1 : -(n:Int)<=i
  ·rw[if_pos h1]at h
   have e:(i+n).toNat=j:=wN h;exact⟨by rw[seqIndex_neg (by lia) h1,e],by lia,h1,by lia⟩
  ·rw[if_neg h1]at h;cases h
theorem De{α : Type}{xs:List α}{i:Int}{v : α}(h:gq xs i=some v):∃j,seqIndex? i xs.length=some j/\xs[j]? = some v/\j<xs.length /\ -(xs.length:Int)<=i/\i<xs.length:=by
 unfold gq at h;cases e:ja xs.length i with
 | none=>rw[e]at h;cases h
 | some j =>
  rw[e]at h;obtain⟨h1,h2,h3,h4⟩:=Nj e;exact⟨j,h1,h,h2,h3,h4⟩
theorem mw{α : Type}{xs:List α}{j:Nat}{v : α}(h:xs[j]? = some v):gq xs (j:Int)=some v:=by
 have hj:j<xs.length:=(WJ.mp h).1
 have e:ja xs.length (j:Int)=some j:=by
  unfold ja;rw[if_pos (by lia),if_pos (by lia)];simp
 unfold gq;rw[e];exact h
def zAk(b:Expr):Prop:=∀o i,subscripted b false o i=operate [o,i] (getItem o i)
def fA(X:Cx)(r:R2):Prop :=
 ∀(value slice:Expr)(pins:List (wg × Obj))(s:wl)(σ : St)(H:Hp)(x y:V)(v u:wf)(Q:VK),Inv X pins σ H s->aP x v->aP y u->r x y H Q ->
  subscripted slice false v u=operate [v,u] (getItem v u)->wt (model X.prog X.w) X.A (subscriptTail value slice v u) (EP X pins σ Q) X.xe s
def NI(X:Cx)(id:String)(r:V->List V->Hp->VK->Prop):Prop :=
 ∀(pins:List (wg × Obj))(s:wl)(σ : St)(H:Hp)(x:V)(xs:List V)(v:wf)(us:List wf)(Q:VK),Inv X pins σ H s->aP x v->aM xs us->r x xs H Q ->
  wt (model X.prog X.w) X.A (call (.builtin id) (v::us)) (EP X pins σ Q) X.xe s
section
variable{X:Cx}{a b:Expr}{ta tb:TE}{pos:Pos}
variable{σ:St}{H:Hp}{x:V}
theorem fA.or{r r':R2}(h:fA X r)(h':fA X r'):fA X (λx y H Q=>r x y H Q\/r' x y H Q):=by
 intro value slice pins s σ H x y v u Q I rx ry q hs;rcases q with q | q
 ·exact h value slice pins s σ H x y v u Q I rx ry q hs
 ·exact h' value slice pins s σ H x y v u Q I rx ry q hs
theorem cT{r:R2}(hr:fA X r)(ha:PE X a ta)(hb:PE X b tb)(hs:zAk b):PE X (.Subscript a b pos) (iR r ta tb):=by
 intro pins s σ H Q I h;exact Subscript_ (DK ha hb I h λv u s2 x y H2 I2 rx ry q=>hr a b pins s2 σ H2 x y v u Q I2 rx ry q (hs _ _))
def Rr(K:wb):R2:=λx y H Q=>∃p xs i v,x=.ref p/\y=.int i/\aG K H p xs/\gq xs i=some v/\Q v H
def MG(K:wb):R2:=λx y H Q=>∃p xs i v,x=.ref p/\y=.int i/\aI K H p xs/\gq xs i=some v/\Q v H
def Pq:R2:=λx y H Q=>∃z i c,x=.str z/\y=.int i/\z.length<=wZ/\gq z.cps.toList i=some c/\Q (.str ⟨#[c]⟩) H
theorem zzO :fA X (Rr X.K):=by
 intro value slice pins s σ H x y v u Q I rx ry h hs;obtain⟨p,xs,i,z,rfl,rfl,hq,he,q⟩:=h;cases rx;obtain⟨t,rfl⟩:=ry;obtain⟨its,r,pl,hz⟩:=I.list hq;obtain⟨j,h1,h2,h3,h4,h5⟩:=De he;obtain⟨w,ew,rw'⟩:=r.get h2;have hl:=r.length;have hn:=mO;have fin:EP X pins σ Q w s:=⟨z,H,I,rw',q⟩
 by_cases h0:0<=i
 ·have hj:i.toNat=j:=by
   rw[seqIndex_of h0 h5]at h1;exact wN h1
  exact item_listR pl.isList h0 (by lia) (by rw[hj];simpa using ew) fin hs
 ·have hj:(i+(its.toArray.size:Int)).toNat=j:=by
   rw[seqIndex_neg (by lia) h4]at h1;rw[wS,<- hl];exact wN h1
  exact subscriptTail_builtinR (x:=w) pl.isList.typeIs slot_list_getitem.lookup
   (wpAny_getItem_list_neg (Q:=λr s'=>r=w/\EP X pins σ Q r s') pl.isList (by lia) (by rw[wS]<;>lia) (by lia) (by rw[hj];simpa using ew) ⟨rfl,fin⟩) hs
theorem zCX :fA X (MG X.K):=by
 intro value slice pins s σ H x y v u Q I rx ry h hs;obtain⟨p,xs,i,z,rfl,rfl,hq,he,q⟩:=h;cases rx;obtain⟨t,rfl⟩:=ry;obtain⟨its,r,pl,hz⟩:=I.tuple hq;obtain⟨j,h1,h2,h3,h4,h5⟩:=De he;obtain⟨w,ew,rw'⟩:=r.get h2;have hl:=r.length;have hn:=mO;have fin:EP X pins σ Q w s:=⟨z,H,I,rw',q⟩
 exact subscriptTail_builtinR (x:=w) pl.typeIs slot_tuple_getitem.lookup
  (getItem_tuple (j:=j) (Q:=λr s'=>r=w/\EP X pins σ Q r s') pl (by lia) (by lia) (by rw[wS,<- hl];exact h1) (by simpa using ew) ⟨rfl,fin⟩) hs
theorem zC2 :fA X Pq:=by
 intro value slice pins s σ H x y v u Q I rx ry h hs;obtain⟨z,i,c,rfl,rfl,hz,he,q⟩:=h;obtain⟨t,rfl⟩:=rx;obtain⟨t',rfl⟩:=ry;obtain⟨j,h1,h2,h3,h4,h5⟩:=De he;have hl:z.cps.toList.length=z.length:=by simp[Str.length]
 rw[hl]at h1 h4 h5;have hn:=mO
 exact tail_any (typeIs_str s z t) slot_str_getitem.lookup (getItem_str (c:=c) (by
  have e1:decide (i < -(2^63:Int))=false:=decide_eq_false (by lia);have e2:decide (i ≥ 2^63)=false:=decide_eq_false (by lia);rw[e1,e2,Bool.or_false]) (by rw[h1];simpa using h2) ⟨.str ⟨#[c]⟩,H,I.tok _,⟨_,rfl⟩,q⟩) hs
def cJ(K:wb):R2:=λx y H Q=>Rr K x y H Q\/MG K x y H Q\/Pq x y H Q
theorem cE :fA X (cJ X.K):=zzO.or (zCX.or zC2)
theorem zsh(its:List wf)(n j:Nat)(u:wf):xC (·.setIfInBounds j u) {cls:=.type "list",data:=.seq its.toArray n} = {cls:=.type "list",data:=.seq (its.set j u).toArray n}:=by
 simp[xC]
theorem Inv.lst{pins:List (wg × Obj)}{s:wl}{p:wg}{xs:List V}(I:Inv X pins σ H s)(h:H p=some (.lst xs)) :
  ∃(its:List wf)(n:Nat),aM xs its/\s.heap.get? p=some {cls:=.type "list",data:=.seq its.toArray n}/\xs.length<=wZ:=by
 obtain⟨z,its,n,r,e⟩:=I.aA p _ h;exact⟨its,n,r,e,z⟩
theorem Inv.YS{pins:List (wg × Obj)}{s:wl}{p:wg}{xs ys:List V}{its its':List wf}{n n':Nat}{f:Obj->Obj}(I:Inv X pins σ H s)(h:H p=some (.lst xs))
  (ho:s.heap.get? p=some {cls:=.type "list",data:=.seq its.toArray n}) (hf:f {cls:=.type "list",data:=.seq its.toArray n} = {cls:=.type "list",data:=.seq its'.toArray n'}) (r:aM ys its') (hz:ys.length<=wZ) (t:Nat) :
  Inv X pins σ (upd H p (.lst ys)) {s with heap:=s.heap.update p f,toks:=t}:=by
 have e:(s.heap.update p f).get? p=some {cls:=.type "list",data:=.seq its'.toArray n'}:=by
  rw[Vi f ho (by rw[hf]<;>rfl),hf]
 refine I.write (x:=p) (e:=p) (by rw[h];trivial) (.inl rfl) (λb u hb q=>(WG _ _ (WI hb)).trans q) ⟨_,e⟩ ?_;exact⟨hz,its',n',r,e⟩
def Rc:V->V->V->Hp->(Hp->Prop)->Prop:=λo i v H Q=>∃p xs k j,o=.ref p/\i=.int k/\H p=some (.lst xs)/\ja xs.length k=some j/\Q (upd H p (.lst (xs.set j v)))
theorem tm :RZ X Rc:=by
 intro pins s σ H o i v ov iv u Q I ro ri rv h;obtain⟨p,xs,k,j,rfl,rfl,hp,hj,q⟩:=h;cases ro;obtain⟨t,rfl⟩:=ri;obtain⟨its,n,r,ho,hz⟩:=I.lst hp;obtain⟨h1,h2,h3,h4⟩:=Nj hj;have hl:=r.length;have hn:=mO
 have I':Inv X pins σ (upd H p (.lst (xs.set j v))) {s with heap:=s.heap.update p (xC (·.setIfInBounds j u))} :=
  I.YS hp ho (zsh its n j u) (r.set rv j) (by rw[VP];exact hz) s.toks
 by_cases h0:0<=k
 ·have hk:k.toNat=j:=by
   rw[seqIndex_of h0 h4]at h1;exact wN h1
  exact PySem.W.ki_setAt ho h0 (by lia) (by rw[wS,<- hl];exact h4) (by rw[hk];exact⟨_,I',q⟩)
 ·have hk:(k+(its.toArray.size:Int)).toNat=j:=by
   rw[seqIndex_neg (by lia) h3]at h1;rw[wS,<- hl];exact wN h1
  exact PySem.W.ki_setBack ho (by lia) (by rw[wS,<- hl];exact h3) (by lia) (by rw[hk];exact⟨_,I',q⟩)
theorem zqd(lo hi:Option Int)(n:Nat):(qZ lo hi none n).1=((HT.aU n 0 lo:Nat):Int)/\(qZ lo hi none n).2.1=((HT.aU n n hi:Nat):Int)/\(qZ lo hi none n).2.2=1:=by
 refine⟨?_,?_,rfl⟩
 ·cases lo with
  | none=>simp[qZ,HT.aU]
  | some i =>
   simp only[qZ,HT.aU,uQ,show(1:Int) > 0 by decide,if_true]
   by_cases h:i<0
   ·simp only[h,if_true]<;>lia
   ·simp only[h,if_false]<;>lia
 ·cases hi with
  | none=>simp[qZ,HT.aU]
  | some i =>
   simp only[qZ,HT.aU,uQ,show(1:Int) > 0 by decide,if_true]
   by_cases h:i<0
   ·simp only[h,if_true]<;>lia
   ·simp only[h,if_false]<;>lia
theorem znz(its:List wf)(lo hi:Option Int):slicePick its.toArray lo hi none=((its.drop (HT.aU its.length 0 lo)).take (HT.aU its.length its.length hi-HT.aU its.length 0 lo)).toArray:=by
 obtain⟨h1,h2,h3⟩:=zqd lo hi its.toArray.size;unfold slicePick;rw[h1,h2,h3];simp only[sliceRange_one,pick_run,wS]<;>rfl
def Po(K:wb):V->Option Int->Option Int->Hp->VK->Prop:=λx lo hi H Q=>∃a xs,x=.ref a/\aG K H a xs /\ ∀p,H p=none->Q (.ref p) (upd H p (.lst (kc xs lo hi)))
theorem zyV :kX X (Po X.K):=by
 intro pins s σ H x v vl vu lo hi sl Q I rx hs pl pu h;obtain⟨a,xs,rfl,hx,q⟩:=h;cases rx;obtain⟨its,r,ht,hz⟩:=I.list hx;have hlen:=r.length;refine⟨"list",_,slot_list_getitem.lookup,ht.isList.typeIs,?_⟩;refine wpAny_getItem_list_slice ht.isList hs pl pu .none (by simp) ?_ (by rw[wS]<;>lia);rw[znz,<- hlen];refine⟨.ref s.heap.objs.size,_,I.laid (t':=s.toks) (o:=.lst (kc xs lo hi)) (λb ob q=>wn _ q) (wo _) ?_,rfl,q _ (I.aA.fresh (wo _))⟩;exact⟨Wb (SX xs lo hi) hz,_,0,(r.drop (HT.aU xs.length 0 lo)).take (HT.aU xs.length xs.length hi-HT.aU xs.length 0 lo),wO _ rfl⟩
def kn:V->Bool
 | .bC=>true
 | .bl _=>true
 | .int _=>true
 | .str _=>true
 | _=>false
def kC:V->V->Bool
 | .bC,.bC=>true
 | .bl a,.bl b=>a == b
 | .bl a,.int b=>(if a then 1 else 0) == b
 | .int a,.bl b=>a == (if b then 1 else 0)
 | .int a,.int b=>a == b
 | .str a,.str b=>a == b
 | _,_=>false
theorem zCV{A:w5}{s:wl}{y:V}{u v:wf}(ry:aP y u)(rx:aP x v)(fy:kn y=true)(fx:kn x=true):SeqAt.EqAt A s u v (kC y x):=by
 cases y with
 | bC =>
  cases ry;cases x with
  | bC=>cases rx;exact SeqAt.EqAt.same _
  | bl b=>cases rx;exact SeqAt.EqAt.none_bool b
  | int b=>obtain⟨t,rfl⟩:=rx;exact SeqAt.EqAt.none_int b t
  | str b=>obtain⟨t,rfl⟩:=rx;exact SeqAt.EqAt.none_str b t
  | _=>exact absurd (show false=true from fx) vI
 | bl a =>
  cases ry;cases x with
  | bC=>cases rx;exact SeqAt.EqAt.bool_none a
  | bl b=>cases rx;exact SeqAt.EqAt.bool_bool a b
  | int b=>obtain⟨t,rfl⟩:=rx;exact SeqAt.EqAt.bool_int a b t
  | str b=>obtain⟨t,rfl⟩:=rx;exact SeqAt.EqAt.bool_str a b t
  | _=>exact absurd (show false=true from fx) vI
 | int a =>
  obtain⟨t',rfl⟩:=ry;cases x with
  | bC=>cases rx;exact SeqAt.EqAt.int_none a t'
  | bl b=>cases rx;exact SeqAt.EqAt.int_bool a t' b
  | int b=>obtain⟨t,rfl⟩:=rx;exact SeqAt.EqAt.int_int a t' b t
  | str b=>obtain⟨t,rfl⟩:=rx;exact XU a t' b t
  | _=>exact absurd (show false=true from fx) vI
 | str a =>
  obtain⟨t',rfl⟩:=ry;cases x with
  | bC=>cases rx;exact SeqAt.EqAt.str_none a t'
  | bl b=>cases rx;exact SeqAt.EqAt.str_bool a t' b
  | int b=>obtain⟨t,rfl⟩:=rx;exact XV a t' b t
  | str b=>obtain⟨t,rfl⟩:=rx;exact SeqAt.EqAt.str_str a t' b t
  | _=>exact absurd (show false=true from fx) vI
 | _=>exact absurd (show false=true from fy) vI
def fF(x:V)(u:wf):Bool:=match u with
 | .none=>kC .bC x
 | .bool b=>kC (.bl b) x
 | .int i _=>kC (.int i) x
 | .str z _=>kC (.str z) x
 | _=>false
theorem P9{y:V}{u:wf}(r:aP y u)(f:kn y=true):fF x u=kC y x:=by
 cases y with
 | bC=>cases r;rfl
 | bl b=>cases r;rfl
 | int i=>obtain⟨t,rfl⟩:=r;rfl
 | str z=>obtain⟨t,rfl⟩:=r;rfl
 | _=>exact absurd (show false=true from f) vI
theorem pK{x:V} : ∀{xs:List V}{us:List wf},aM xs us->xs.all kn=true->us.any (fF x)=xs.any λy=>kC y x
 | _,_,.nil,_=>rfl
 | y::xs,u::us,.cons r t,f=>by
  rw[XF,w9]at f;rw[W7,W7,P9 r f.1,pK t f.2]
theorem oV{A:w5}{s:wl}{x:V}{v:wf}(rx:aP x v)(fx:kn x=true):∀{xs:List V}{us:List wf},aM xs us->xs.all kn=true->∀u∈us,SeqAt.EqAt A s u v (fF x u)
 | _,_,.nil,_=>λu hu=>by cases hu
 | y::xs,u::us,.cons r t,f=>λu' hu=>by
  rw[XF,w9]at f;rcases wK.mp hu with rfl | hu
  ·rw[P9 r f.1];exact zCV r rx f.1 fx
  ·exact oV rx fx t f.2 u' hu
def AE(x:V)(xs:List V):Bool:=xs.any λy=>kC y x
def kz(K:wb)(neg:Bool):R2:=λx y H Q=>∃p xs,y=.ref p/\(aG K H p xs\/aI K H p xs)/\kn x=true/\xs.all kn=true/\Q (.bl (if neg then !AE x xs else AE x xs)) H
theorem zu5 :bL X (vU .In) (kz X.K false):=by
 intro pins s σ H x y v u Q I rx ry h;obtain⟨p,xs,rfl,hq,fx,fs,q⟩:=h;cases ry;rcases hq with hq | hq
 ·obtain⟨its,r,pl,hz⟩:=I.list hq
  refine SeqAt.in_listAt (fF x) pl.isList (λw hw=>oV rx fx r fs w (by simpa using hw)) ⟨.bl _,H,I,rfl,?_⟩;rw[show its.toArray.any (fF x)=its.any (fF x) by simp,pK r fs];exact q
 ·obtain⟨its,r,pl,hz⟩:=I.tuple hq
  refine SeqAt.in_tupleAt (fF x) pl (λw hw=>oV rx fx r fs w (by simpa using hw)) ⟨.bl _,H,I,rfl,?_⟩;rw[show its.toArray.any (fF x)=its.any (fF x) by simp,pK r fs];exact q
theorem zpD :bL X (vU .NotIn) (kz X.K true):=by
 intro pins s σ H x y v u Q I rx ry h;obtain⟨p,xs,rfl,hq,fx,fs,q⟩:=h;cases ry;rcases hq with hq | hq
 ·obtain⟨its,r,pl,hz⟩:=I.list hq
  refine SeqAt.notIn_listAt (fF x) pl.isList (λw hw=>oV rx fx r fs w (by simpa using hw)) ⟨.bl _,H,I,rfl,?_⟩;rw[show its.toArray.any (fF x)=its.any (fF x) by simp,pK r fs];exact q
 ·obtain⟨its,r,pl,hz⟩:=I.tuple hq
  refine SeqAt.notIn_tupleAt (fF x) pl (λw hw=>oV rx fx r fs w (by simpa using hw)) ⟨.bl _,H,I,rfl,?_⟩;rw[show its.toArray.any (fF x)=its.any (fF x) by simp,pK r fs];exact q
theorem zqi :bK X (.builtin "len") (λxs H Q=>∃p ys,xs=[.ref p]/\(aG X.K H p ys\/aI X.K H p ys)/\Q (.int ys.length) H):=by
 intro pins s σ H xs us Q I r h;obtain⟨p,ys,rfl,hq,q⟩:=h;obtain⟨u,rfl,rx⟩:=ff r;cases rx;have hn:=mO;rcases hq with hq | hq
 ·obtain⟨its,r',pl,hz⟩:=I.list hq
  have hlen:=r'.length;exact Calls.call_len_list pl.isList (by simp only[wS]<;>lia) ⟨.int ys.length,H,I.tok _,⟨s.toks+1,by rw[wS,hlen]⟩,q⟩
 ·obtain⟨its,r',pl,hz⟩:=I.tuple hq
  have hlen:=r'.length;exact len_tuple pl (by simp only[wS]<;>lia) ⟨.int ys.length,H,I.tok _,⟨s.toks+1,by rw[wS,hlen]⟩,q⟩
theorem bK.or{f:wf}{r r':List V->Hp->VK->Prop}(h:bK X f r)(h':bK X f r'):bK X f (λxs H Q=>r xs H Q\/r' xs H Q):=by
 intro pins s σ H xs us Q I rs q;rcases q with q | q
 ·exact h pins s σ H xs us Q I rs q
 ·exact h' pins s σ H xs us Q I rs q
theorem zo3 :bK X (.type "list") (λxs H Q=>∃p ys,xs=[.ref p]/\(aG X.K H p ys\/aI X.K H p ys) /\ ∀l,H l=none->Q (.ref l) (upd H l (.lst ys))):=by
 intro pins s σ H xs us Q I r h;obtain⟨p,ys,rfl,hq,q⟩:=h;obtain⟨u,rfl,rx⟩:=ff r;cases rx
 have fin:∀(its:List wf),aM ys its->ys.length<=wZ->∀(h':wJ)(c':Nat),(∀b o',s.heap.get? b=some o'->h'.get? b=some o') ->
     h'.get? s.heap.objs.size=some {cls:=.type "list",dict:=none,data:=.seq its.toArray c',slots:=#[]}->EP X pins σ Q (.ref s.heap.objs.size) {s with heap:=h'}:=λits r' hz h' c' kp e =>
   ⟨.ref s.heap.objs.size,_,I.laid (t':=s.toks) kp (wo _) (show cw X.prog X.w _ h' _ (.lst ys)from⟨hz,its,c',r',e⟩),rfl,q _ (I.aA.fresh (wo _))⟩
 rcases hq with hq | hq
 . obtain⟨its,r',pl,hz⟩:=I.list hq
   have hlen:=r'.length;obtain⟨o,ho,hc,n,hd⟩:=pl.isList;exact call_list_seq p (.inl rfl) ho hc hd (λh' c' kp e=>fin its r' hz h' c' kp e) (by simp only[wS]<;>lia)
 . obtain⟨its,r',pl,hz⟩:=I.tuple hq
   have hlen:=r'.length;obtain⟨o,ho,hc,n,hd⟩:=pl;exact call_list_seq p (.inr rfl) ho hc hd (λh' c' kp e=>fin its r' hz h' c' kp e) (by simp only[wS]<;>lia)
theorem zns :bK X (.type "tuple") (λxs H Q=>∃p ys,xs=[.ref p]/\((aG X.K H p ys /\ ∀l,H l=none->Q (.ref l) (upd H l (.tup ys)))\/(aI X.K H p ys/\Q (.ref p) H))):=by
 intro pins s σ H xs us Q I r h;obtain⟨p,ys,rfl,h⟩:=h;obtain⟨u,rfl,rx⟩:=ff r;cases rx;rcases h with⟨hq,q⟩ | ⟨hq,q⟩
 ·obtain⟨its,r',pl,hz⟩:=I.list hq
  have hlen:=r'.length;refine call_tuple_list pl.isList (λh' kp=>?_) (by simp only[wS]<;>lia);have I1:Inv X pins σ H {s with heap:=h'}:=I.kept (t':=s.toks) kp
  have I2:Inv X pins σ (upd H h'.objs.size (.tup ys)) {s with heap:=h'.push {cls:=.type "tuple",data:=.seq its.toArray}} :=
   I1.laid (t':=s.toks) (λb o e=>wn _ e) (wo _) (show cw X.prog X.w _ _ _ (.tup ys)from⟨hz,its,r',QN _ _⟩)
  exact⟨.ref h'.objs.size,_,I2,rfl,q _ (I1.aA.fresh (wo _))⟩
 ·obtain⟨its,r',pl,hz⟩:=I.tuple hq
  exact call_tuple_same pl ⟨.ref p,H,I,rfl,q⟩
def zW(K:wb)(T:String)(x:V)(H:Hp):Prop:=match x with
 | .str _=>T="str"
 | .int _=>T="int"
 | .ref p=>(T="list" /\ ∃xs,aG K H p xs)\/(T="tuple" /\ ∃o,K.lookup p=some o/\o.cls=.type "tuple"/\o.dict=none) \/
     (T="dict"/\((∃kvs,H p=some (.dK kvs)) \/ ∃kvs,H p=some (.dT kvs)))\/(T="set" /\ ∃S n,H p=some (.set S n))
 | _=>False
theorem zCM{pins:List (wg × Obj)}{s:wl}{T:String}{v:wf}(I:Inv X pins σ H s)(r:aP x v)(ty:zW X.K T x H) :
  s.TypeIs v T /\ ∀a,v=.ref a->∃ob,s.heap.get? a=some ob/\ob.dict=none:=by
 cases x with
 | str z =>
  obtain⟨t,rfl⟩:=r;cases (show T="str" from ty);exact⟨typeIs_str s z t,λ_ e=>nomatch e⟩
 | int i =>
  obtain⟨t,rfl⟩:=r;cases (show T="int" from ty);exact⟨typeIs_int s i t,λ_ e=>nomatch e⟩
 | ref p =>
  cases r;rcases ty with⟨rfl,xs,hq⟩ | ⟨rfl,o,hk,hc,hd⟩ | ⟨rfl,hk⟩ | ⟨rfl,S,n,hk⟩
  ·obtain⟨its,_,pl,_⟩:=I.list hq
   refine⟨pl.isList.typeIs,λa e=>?_⟩;cases e;obtain⟨o,n,e,c,hd,_⟩:=pl;exact⟨o,e,hd⟩
  ·refine⟨⟨o,I.cU p o hk,hc⟩,λa e=>?_⟩
   cases e;exact⟨o,I.cU _ o hk,hd⟩
  ·have z:∃o,s.heap.get? p=some o/\o.ExactDict:=by
    rcases hk with⟨kvs,hk⟩ | ⟨kvs,hk⟩
    ·obtain⟨_,_,_,_,o,_,_,e,ex,_⟩:=I.aA p _ hk
     exact⟨o,e,ex⟩
    ·obtain⟨_,_,_,_,o,_,_,e,ex,_⟩:=I.aA p _ hk
     exact⟨o,e,ex⟩
   obtain⟨o,e,ex⟩:=z;refine⟨⟨o,e,ex.1⟩,λa e2=>?_⟩;cases e2;exact⟨o,e,ex.2.1⟩
  ·obtain⟨o,_,_,_,e,ex,_⟩:=I.aA p _ hk
   refine⟨⟨o,e,ex.1⟩,λa e2=>?_⟩;cases e2;exact⟨o,e,ex.2.1⟩
 | _=>exact WB ty
def OH(K:wb)(T:String)(r:V->List V->Hp->VK->Prop)(to:TE)(t:TA):TE:=λσ H Q=>to σ H λx H1=>zW K T x H1/\t σ H1 λxs H2=>r x xs H2 Q
variable{o e:Expr}{es:List Expr}{to:TE}{t:TA}{name:Str}{apos cpos:Pos}{T id:String}{r:V->List V->Hp->VK->Prop}
theorem jS(pa:PlainAttrs T)(slot:Slot T name id)(hty:typeOf (.builtin id)=pure (.type "method_descriptor"))(hm:NI X id r)(ho:PE X o to)(ha:PA X (e::es) t)
  (hbase:attributeBase o name X.env (eval o X.env)=eval o X.env:=by rfl)
  (hfew:((VN cpos (wX (e::es) X.env)).all (λx=>!x.1)&&(backToKw cpos (keywordEach [] X.env)).all (λx=>x.1.isSome)
   && decide ((e::es).length+([]:List Keyword).length+(if([]:List Keyword).isEmpty then 0 else 1)<30))=true:=by rfl)
  (hline:(apos.endLine == cpos.line)=true:=by rfl) (hs:wX (e::es) X.env=(false,eval e X.env)::wX es X.env:=by rfl) (hplain:(VN cpos (wX es X.env)).any (·.1)=false:=by rfl) :
  PE X (.Call (.Attribute o name apos) (e::es) [] cpos) (OH X.K T r to t):=by
 intro pins s σ H Q I h;refine wpAny_Call_method_late hbase hfew hline rfl (aD (ho pins s σ H _ I h) λv s1 ⟨x,H1,I1,r1,ty,q1⟩=>?_);obtain⟨h1,h2⟩:=zCM I1 r1 ty;refine⟨T,id,pa,slot,hty,h1,h2,?_⟩;have hA:=ha cpos pins s1 σ H1 _ I1 q1;rw[hs]at hA ⊢;refine Calls.callWith_builtin (by show(false || (VN cpos (wX es X.env)).any (·.1))=false;rw[hplain]<;>rfl) (Xx ?_);exact aD hA λus s2 ⟨vs,H2,I2,r2,q2⟩=>hm pins s2 σ H2 x vs v us Q I2 r1 r2 q2
end
def MtM(X:Cx)(id:String)(r:V->List V->Hp->VK->Prop):Prop :=
 ∀(pins:List (wg × Obj))(s:wl)(σ : St)(H:Hp)(x:V)(xs:List V)(v:wf)(us:List wf)(Q:VK),Inv X pins σ H s->aP x v->aM xs us->r x xs H Q ->
  wt (model X.prog X.w) X.A (call (.builtin id) (v::us)) (EP X pins σ Q) X.xe s
theorem aM.one:∀{x:V}{us:List wf},aM [x] us->∃u,us=[u]/\aP x u
 | _,_,.cons r .nil=>⟨_,rfl,r⟩
section
variable{X:Cx}{pins:List (wg × Obj)}{σ : St}{H:Hp}{s:wl}{l b:wg}{xs ys zs:List V}
theorem Inv.Y9{its its':List wf}{n:Nat}{f:Array wf->Array wf}{t':Nat}(I:Inv X pins σ H s)(hH:H l=some (.lst xs))
  (e:s.heap.get? l=some {cls:=.type "list",data:=.seq its.toArray n}) (hf:f its.toArray=its'.toArray) (hv:aM ys its') (hz:ys.length<=wZ) :
  Inv X pins σ (upd H l (.lst ys)) {s with heap:=s.heap.update l (xC f),toks:=t'}:=by
 have q:=PySem.IsL.update e f;rw[hf]at q;refine I.write (x:=l) (e:=l) (by rw[hH];exact trivial) (.inl rfl) (λb' u hb hu=>(WG s.heap (xC f) (WI hb)).trans hu) ⟨_,q⟩ ?_;exact⟨hz,its',_,hv,q⟩
theorem Inv.Js{its:List wf}{t':Nat}(I:Inv X pins σ H s)(hv:aM ys its)(hz:ys.length<=wZ) :
  Inv X pins σ (upd H s.heap.objs.size (.lst ys)) {s with heap:=s.heap.push {cls:=.type "list",data:=.seq its.toArray},toks:=t'} :=
 I.laid (λ_ _ q=>wn _ q) (wo _) ⟨hz,its,0,hv,wO _ rfl⟩
theorem Inv.fresh(I:Inv X pins σ H s):H s.heap.objs.size=none:=I.aA.fresh (wo _)
theorem Inv.A5(I:Inv X pins σ H s)(hH:H l=some (.lst xs)):xs.length<=wZ /\ ∃(its:List wf)(n:Nat),aM xs its/\xs.length=its.length/\s.heap.get? l=some {cls:=.type "list",data:=.seq its.toArray n}:=by
 obtain⟨z,its,n,r,e⟩:=I.aA l _ hH;exact⟨z,its,n,r,r.length,e⟩
end
section
variable{X:Cx}
def SY:V->List V->Hp->VK->Prop:=λx vs H Q=>∃l xs y,x=.ref l/\vs=[y]/\H l=some (.lst xs)/\xs.length<wZ/\Q .bC (upd H l (.lst (xs++[y])))
theorem jE:MtM X "list.append" SY:=by
 intro pins s σ H x vs v us Q I rx rv h;obtain⟨l,xs,y,rfl,rfl,hH,hz,q⟩:=h;cases rx;obtain⟨u,rfl,ru⟩:=rv.one;obtain⟨z,its,n,r,hl,e⟩:=I.A5 hH;refine call_meets F.slot_list_append ⟨_,e,rfl⟩ F.entry_list_append (F.args_list_append_2 _ _) (PySem.list_append l its.toArray n u (by rw[wS];lia)) ⟨e,?_⟩;refine⟨.bC,_,I.Y9 (its':=its++[u]) hH e (by simp) (r.append (.cons ru .nil)) ?_,rfl,q⟩;rw[wT,Wi]
 lia
def EZ:R2:=λx y H Q=>∃l b xs zs,x=.ref l/\y=.ref b/\H l=some (.lst xs)/\H b=some (.lst zs)/\xs.length+zs.length<=wZ /\ ∀p,H p=none->Q (.ref p) (upd H p (.lst (xs++zs)))
theorem zCj:bL X (Ve .Add) EZ:=by
 intro pins s σ H x y v u Q I rx ry h;obtain⟨l,b,xs,zs,rfl,rfl,hH,hB,hz,q⟩:=h;cases rx;cases ry;obtain⟨z,its,n,r,hl,e⟩:=I.A5 hH;obtain⟨z2,its2,n2,r2,hl2,e2⟩:=I.A5 hB;refine PySem.P.add_list e e2 ?_ (by rw[wS,wS];lia);have ea:its.toArray++its2.toArray=(its++its2).toArray:=by simp
 rw[ea];exact⟨.ref _,_,I.Js (t':=s.toks) (r.append r2) (by rw[wT];lia),rfl,q _ I.fresh⟩
end
section
variable{prog:wE}{w:World}{A:w5}{E:wf->wl->Prop}{s:wl}
end
section
variable{X:Cx}
end
end L2
namespace Att
open PySem PySem.W PySem.Calls PyProof.Rows
theorem zlv{P:Params}{h:wJ} : ∀(ns:List Int)(vs:List wf),WellAll P h vs (ns.map WData.int)->IntsAre vs ns:=by
 intro ns
 induction ns with
 | nil =>
  intro vs w;rw[Qk]at w;cases w;exact .nil
 | cons n ns ih =>
  intro vs w;rw[wV]at w;cases w with
  | cons a b =>
   cases a;exact .cons _ _ (ih _ b)
theorem zvi{l:OpenLaw}{n:Nat}(hn:l.most=some n){P:Params}{h:wJ}{args:List WData}{vals:List wf}
  (hpre:l.row.toRowW.claim.pre args=true) (hwl:WellAll P h vals args) :
  ∃a vs ns,vals=[Value.ref a]/\args=[WData.list (ns.map WData.int)]/\h.get? a=some {cls:=.type "list",data:=.seq vs.toArray}/\IntsAre vs ns/\ns.length<=n:=by
 have hsh:WShape.hasAll [] args [.list .int]=true:=(pre_splitW hpre).1;have hc:l.pre.holds [] {args:=args}=true:=(pre_splitW hpre).2;obtain⟨d,r,rfl,h1,h2⟩:=hasAllW_cons hsh;obtain rfl:=hasAllW_nil h2;obtain⟨xs,rfl,h3⟩:=hasW_list h1;obtain⟨ns,rfl⟩:=items_int h3
 have hlen:ns.length<=n:=by
  unfold OpenLaw.pre at hc
  have h4:(WTm.not (.lt (.lit (.int (n:Int))) (.len (.arg 0)))).holds [] {args:=[.list (ns.map .int)]}=true:=by
   have h4:=(holds_andW hc).1;rw[hn]at h4;exact h4
  have h5:=condW_of h4 (w_not (w_lt w_lit (w_len_list (w_arg rfl))));rw[wm]at h5;refine Nat.le_of_not_lt λq=>?_
  have q':(n:Int)<((ns.length:Nat):Int):=by lia
  first
   | (rw[decide_eq_true q']at h5;exact absurd h5 (by decide))
   | (simp at h5;lia)
 cases hwl with
 | cons w1 w2 =>
  cases w2;cases w1 with
  | list ho hall=>exact⟨_,_,ns,rfl,rfl,ho,zlv ns _ hall,hlen⟩
theorem zvr(l:OpenLaw)(args:List WData):l.row.toRowW.claim.post args (.bool true) args=true :=
 postW_of (r:=l.row.toRowW) (X:=(true == true))
  (show WShape.has [] (.bool true) .bool=true by first | rfl | decide | simp[WShape.has,WShape.arms,WShape.armsAll])
  (show(WTm.eq .res (.lit (.bool true))).value [] {args:=args,res:=some (.bool true),after:=args}=some (.bool (true == true))from w_eq_bool (w_res rfl) w_lit) rfl
theorem Yr{l:OpenLaw}{n:Nat}{q:wE}{loose:List Str}{XP:(Str->Option wf)->wJ->Prop}{YP:World->wJ->Prop}{d:DefRec}
  (hn:l.most=some n) (hdf:d.params.defaults=[])
  (call:∀(w:World)(s₀ s₁ : wl)(mg mb:Str->Option wf)(fa:wg)(o:Obj)(pm cd doc:wf)(a:wg)(vs:List wf)(ns:List Int),
   Ground q loose [] XP w s₀ mg mb s₁.heap->YP w s₁.heap ->
   s₁.heap.get? fa=some o->o.data=.func (docDef d.name d.params d.body d.scope pm cd doc)->s₁.heap.CodeRec cd d.name->mg d.name=some (.ref fa) ->
   s₁.heap.get? a=some {cls:=.type "list",data:=.seq vs.toArray}->IntsAre vs ns->ns.length<=n->s₁.gens = #[] ->
   codeAny (model l.prog w) callerA (.call (.ref fa) ⟨[.ref a],[]⟩) (λr s'=>r=.ok (.ret (.bool true))/\OldK s₁.heap s'.heap/\s'.os=s₁.os/\AllBare s'.gens) s₁) :
  WalkO q loose XP YP l.row.toRowW d [] (λf vs=>Ud f vs):=by
 intro w s₀ s₁ mg mb G Y fa o pm cd doc dV kV ho hd hcd hD hmg hg args vals as hpre hlay hrd hwl hlo;obtain rfl:dV=.none:=Dflts.none hD hdf;obtain rfl:kV=.none:=Dflts.noKw hD;obtain⟨a,vs,ns,rfl,rfl,hobj,hints,hlen⟩:=zvi hn hpre hwl;refine enter_call (VO (call w s₀ s₁ mg mb fa o pm cd doc a vs ns G Y ho (fd_plain hd) hcd hmg hobj hints hlen hg) λr s' hq=>?_);obtain⟨rfl,h2,h3,h4⟩:=hq;exact⟨.inl ⟨.bool true,.bool true,[],rfl,λ_=>rfl,.bool true,zvr l _,λ_=>⟨xr.nil,λ_ hm=>(nomatch hm)⟩⟩,h2,h3,h4⟩
section
variable{prog:wE}{w:World}{A:w5}{E:wf->wl->Prop}{s:wl}{K:Frag}
def zEf(h:wJ)(L d:wg):List (wg × Obj):=(wq h.objs.size).filterMap λa=>if a=L\/a=d then none else(h.get? a).map λo=>(a,o)
end
end Att
namespace L2
open PySem PySem.Spec PyProof.Rows
theorem SJ:∀{vs:List wf}{ns:List Int},IntsAre vs ns->aM (ns.map V.int) vs
 | _,_,.nil=>.nil
 | _,_,.cons n t h=>.cons ⟨t,rfl⟩ (SJ h)
def Al(H:Hp):Prop:=∀b,H b=none \/ ∃o xs,H b=some (.gn o (.lst xs))
theorem zwG{P:wE}{w:World}{K:wb}{mg mb:Str->Option wf}{CX:fL}{k:Nat}{fa a:wg}{fd:wM}{x:Str}{sp:Sp}{s₁ : wl}{vs:List wf}{ns:List Int}
   (KX:K.In s₁.heap) (hns:s₁.heap.Ns wP mg) (hb:s₁.heap.Ns builtinsNs mb) (hbb:∀x:Str,x≠"__name__" -> mb x=vJ x) (hlim:s₁.heap.NoLimit) (hseer:s₁.heap.NoSeer) (hg:s₁.gens = #[])
   (ha:s₁.heap.get? a=some {cls:=.type "list",data:=.seq vs.toArray}) (hi:IntsAre vs ns) (hl:ns.length<=wZ) (hr:cZ k callerA)
   (F:∀base:wJ,K.In base->base.Ns wP mg->aJ P w K mg base CX k fa fd [x] sp) (hbind:∀(s:wl)(u:wf),BindsTo s fd ⟨[u],[]⟩ [(x,u)])
   (hsp:∀H:Hp,Al H->aG K H a (ns.map V.int)->sp [.ref a] H (λv _=>v=.bl true) λ_ _ _=>False)
   (hCX:∀H e s',CX [] H s₁ (λ_ _ _=>False) e s'->False) :
   codeAny (model P w) callerA (.call (.ref fa) ⟨[.ref a],[]⟩) (λr s'=>r=.ok (.ret (.bool true))/\OldK s₁.heap s'.heap/\s'.os=s₁.os/\AllBare s'.gens) s₁:=by
 have rv:=SJ hi;have lenV:=hi.length
 have core:∀H:Hp,Al H->aG K H a (ns.map V.int)->ck P w H s₁.heap->(∀b,H b≠none->b=a)->(H a≠none->K.lookup a=none) ->
     codeAny (model P w) callerA (.call (.ref fa) ⟨[.ref a],[]⟩) (λr s'=>r=.ok (.ret (.bool true))/\OldK s₁.heap s'.heap/\s'.os=s₁.os/\AllBare s'.gens) s₁:=by
   intro H hO hS aA hA hK;have base_of:∀{b:wg}{o:Obj},s₁.heap.get? b=some o->H b=none->(kj s₁.heap H).get? b=some o:=λe n=>zwZ e n
   have noA:∀{b:wg}{o:Obj}{es:Array DictEntry}{ep:Nat},s₁.heap.get? b=some o->o.data=.dict es ep->H b=none:=λ{b o es ep} e d=>by
     cases q:H b with
     | none=>rfl
     | some u =>
       have e':b=a:=hA b (by rw[q];simp);subst e';rw[ha]at e;cases e;have d':Data.seq vs.toArray _=Data.dict es ep:=d;cases d'
   have nsK:∀{b:wg}{m:Str->Option wf},s₁.heap.Ns b m->(kj s₁.heap H).Ns b m:=λ{b m} ⟨o,es,ep,e,d,r⟩=>⟨o,es,ep,base_of e (noA e d),d,r⟩
   have hKb:K.In (kj s₁.heap H):=λb o e=>base_of (KX b o e) (by
     cases q:H b with
     | none=>rfl
     | some u =>
       have e':b=a:=hA b (by rw[q];simp);subst e';rw[hK (by rw[q];simp)]at e;cases e)
   have hM:Mod K mg (kj s₁.heap H):=⟨hKb,nsK hns,⟨mb,nsK hb,hbb⟩,let ⟨mc,h1,h2⟩:=hlim;⟨mc,nsK h1,h2⟩,let ⟨mc,a,b⟩:=hseer.statics;⟨mc,nsK a,b⟩,let ⟨mm,a,b⟩:=hseer.mods;⟨mm,nsK a,b⟩,let ⟨mb,a,b⟩:=hseer.imp;⟨mb,nsK a,b⟩,let ⟨mg,bm,ob,a,b,c,d,e⟩:=hseer.main;⟨mg,bm,ob,nsK a,b,base_of c (by
     cases q:H bm with
     | none=>rfl
     | some u =>
       obtain rfl:=hA bm (by rw[q];simp);rw[ha]at c;cases c;exact absurd (show(Value.type "list" : wf)=.type "module" from d) (by decide)),d,e⟩⟩
   have e0:rE P w K mg (kj s₁.heap H) callerA [] s₁ H:=⟨rfl,hM,λb o e=>zAa e,Nat.le_of_eq (zvg _ _),trivial,λb hb=>absurd (show b∈([]:List wg)from hb) (by simp),aA,.of_eq hg⟩;refine VO ((F _ hKb (nsK hns)).run callerA [] s₁ H ⟨[.ref a],[]⟩ [.ref a] [.ref a] _ _ hr e0 (hbind s₁ (.ref a)) (.cons rfl .nil) (hsp H hO hS)) λr s' h=>?_
   cases r with
   | error e=>exact(hCX H e s' h).elim
   | ok fl =>
     cases fl with
     | next=>exact WB h
     | brk=>exact WB h
     | cont=>exact WB h
     | ret u =>
       obtain⟨v,H',os,bare,un,hok',r',q⟩:=h;have q':v=.bl true:=q;subst q';obtain rfl:u=Value.bool true:=r';refine⟨rfl,OldK.of_keep λb o e=>?_,os,bare⟩;cases q:H b with
       | none=>exact un.keep b o e q (by intro z;exact absurd (show b∈([]:List wg)from z) (by simp)) (by simp)
       | some u =>
         rcases hO b with z | ⟨ob,xs,z⟩
         . rw[q]at z;cases z
         . have z2:=un.gv b ob _ z
           obtain⟨e1,_⟩:=aA b _ z;obtain⟨e2,_⟩:=hok' b _ z2;rw[e]at e1;cases e1;exact e2
 cases hk:K.lookup a with
 | some o =>
   have e:=KX a o hk;rw[ha]at e;cases e;refine core (λ_=>none) (λ_=>.inl rfl) (.inr ⟨_,vs.toArray,_,hk,rfl,rfl,rfl,by rw[wS,lenV];exact hl,by simpa using rv⟩) (λb u z=>by have z':(none:Option HO)=some u:=z;cases z') (λb z=>absurd rfl z) λz=>absurd rfl z
 | none =>
   refine core (λb=>if b=a then some (.gn {cls:=.type "list",data:=.seq vs.toArray} (.lst (ns.map V.int)))else none) (λb=>?_) (.inl (.inr ⟨{cls:=.type "list",data:=.seq vs.toArray},if_pos rfl⟩)) (λb u z=>?_) (λb z=>?_) λ_=>hk
   . by_cases hb:b=a
     . exact .inr ⟨_,_,if_pos hb⟩
     . exact .inl (if_neg hb)
   . by_cases hb:b=a
     . have z':=(if_pos hb).symm.trans z
       cases z';subst hb;exact⟨ha,by rw[wm];exact hl,vs,_,rv,ha⟩
     . have z':=(if_neg hb).symm.trans z
       cases z'
   . by_cases hb:b=a
     . exact hb
     . exact absurd (if_neg hb) z
abbrev KOf{K:wb}{h:wJ}(_:K.In h):wb:=K
theorem YM{l:xV}{n k:Nat}{q:wE}{loose:List Str}{XP:(Str->Option wf)->wJ->Prop}{YP:World->wJ->Prop}{d:DefRec}{K:Params->wb}{CX:World->fL}{sp:World->Sp}{x:Str}
  (hn:l.most=some n) (hn2:n<=wZ) (himp:importsNone q=true) (hdf:d.params.defaults=[]) (hr:cZ k callerA)
  (hY:∀(w:World)(h:wJ),YP w h->(K w.params).In h)
  (F:∀(w:World)(mg:Str->Option wf)(fa:wg)(h:wJ),(K w.params).In h->h.Ns wP mg->mg d.name=some (.ref fa) ->
   ∃fd:wM,(∀(s:wl)(u:wf),BindsTo s fd ⟨[u],[]⟩ [(x,u)]) /\
    ∀base:wJ,(K w.params).In base->base.Ns wP mg->aJ l.prog w (K w.params) mg base (CX w) k fa fd [x] (sp w))
  (hsp:∀(w:World)(H:Hp)(a:wg)(ns:List Int),ns.length<=n->Al H->aG (K w.params) H a (ns.map V.int)->sp w [.ref a] H (λv _=>v=.bl true) λ_ _ _=>False)
  (hCX:∀(w:World)(H:Hp)(s:wl)(e:wf)(s':wl),CX w [] H s (λ_ _ _=>False) e s'->False) :
  UG q loose XP YP l.row.toRowW d [] (λf vs=>Ud f vs):=by
 refine Att.Yr hn hdf λw s₀ s₁ mg mb fa o pm cd doc a vs ns G Y ho hd hcd hmg hobj hints hlen hg=>?_
 have KX:=hY w _ Y;obtain⟨fd,hb,hF⟩:=F w mg fa _ KX G.T.g hmg;exact zwG KX G.T.g G.T.b G.T.builtins G.T.nolimit (G.T.seer himp) hg hobj hints (Wb hlen hn2) hr hF hb (λH hO hS=>hsp w H a ns hlen hO hS) λH e s'=>hCX w H s₁ e s'
def nB(s:vo):Arguments:=match s with
 | .FunctionDef _ a _ _ _ _ _ _ _ _=>a
 | _=>{posonlyargs:=[],args:=[],vararg:=none,kwonlyargs:=[],kw_defaults:=[],kwarg:=none,defaults:=[]}
def kg(s:vo):List vo:=match s with
 | .FunctionDef _ _ b _ _ _ _ _ _ _=>b
 | _=>[]
def aH(s:vo):Scope:=match s with
 | .FunctionDef _ _ _ _ _ _ sc _ _ _=>sc
 | _=>{kind:=.function,names:=[],isGenerator:=false,isCoroutine:=false}
abbrev aR:fL:=λ_ _ _ _ _ _=>False
abbrev E0:XK:=λ_ _ _=>False
theorem zDo{X:Cx} : nk aR X E0:=λ_ _ _ _ _ _ _ h=>h.elim
structure jJ(K:wb)(x qual:Str)(st:vo)(f:wg)(fd:wM):Prop where
 ex:∃(oc:wf)(od:Option wg)(kV doc pm:wf)(an:Option wg)(cdv ct:wf)(osl:Array (Option wf)),
   fd=qh x qual (nB st) (kg st) (aH st) .none kV doc pm an cdv ct/\K.lookup f=some ⟨oc,od,.func fd,osl⟩/\Q3 K cdv qual=true
 kp:qI K (.ref f)=true
section
variable{P:wE}{w:World}{K:wb}{mg:Str->Option wf}{base:wJ}
variable{qual x:Str}{st:vo}{f:wg}
theorem jJ.ok{fd:wM}{N ps:List Str}{k:Nat}{sp:Sp}(F:jJ K x qual st f fd)(S:aQ N ps (aH st))(len:∀vs H Q E,sp vs H Q E->vs.length=ps.length)
  (hbody:∀(cdv:wf)(A:w5)(outer:List Env)(s:wl)(H:Hp)(vs:List V)(Q:VK)(E:XK),cZ k (A.deeper (envOfC qual (aH st) s.heap.objs.size f cdv))->sp vs H Q E ->
   ∃t,e_ (gy aR P w K mg base N qual (aH st) f cdv A outer s H E).tE (kg st) t/\t {nx:=λ_ H'=>Q .bC H',rt:=Q} (start N vs) H):aJ P w K mg base aR (k+1) f fd ps sp:=by
 obtain⟨oc,od,kV,doc,pm,an,cdv,ct,osl,rfl,lk,hcd⟩:=F.ex;refine Rj lk hcd S len λA outer s H vs Q E hr hsp=>?_
 obtain⟨t,h,q⟩:=hbody cdv A outer s H vs Q E hr hsp;exact⟨t,h.tE,q⟩
theorem jJ.binds{fd:wM}{ps:List Str}(F:jJ K x qual st f fd)
  (h:∀(kV doc pm:wf)(an:Option wg)(cdv ct:wf)(us:List wf),us.length=ps.length->bindArgs (qh x qual (nB st) (kg st) (aH st) .none kV doc pm an cdv ct) ⟨us,[]⟩=pure (ps.zip us)):kZ K fd ps []:=by
 obtain⟨oc,od,kV,doc,pm,an,cdv,ct,osl,rfl,lk,hcd⟩:=F.ex;exact .all (h kV doc pm an cdv ct)
theorem Ng{oc:wf}{od an:Option wg}{osl:Array (Option wf)}{kV doc pm cdv ct:wf}(l:K.lookup f=some ⟨oc,od,.func (qh x qual (nB st) (kg st) (aH st) .none kV doc pm an cdv ct),osl⟩)
  (c:Q3 K cdv qual=true) (k:qI K (.ref f)=true):jJ K x qual st f (qh x qual (nB st) (kg st) (aH st) .none kV doc pm an cdv ct):=⟨⟨oc,od,kV,doc,pm,an,cdv,ct,osl,rfl,l,c⟩,k⟩
end
theorem kS{n:Nat}(h:n<=1000):n<wZ:=WC h (by decide)
section
variable{X:Cx}
theorem pv(i:Nat){x:Str}{pos:Pos}(hN:X.N[i]? = some x:=by rfl)(hv:pf X.env.scope x:=by first | exact Or.inl rfl | exact Or.inr (Or.inl rfl) | exact Or.inr (Or.inr rfl))(hd:(x == ("__debug__" : Str))=false:=by decide)
  (hcd:(x == ("__classdict__" : Str))=false:=by decide):PE X (.Name x pos) (fO i):=MT hN hv hd hcd
end
theorem lQ{A B:Prop}(h:B):if false=true then A else B:=by
 rw[if_neg vI];exact h
theorem lV{A B:Prop}(h:A):if true=true then A else B:=by
 rw[if_pos rfl];exact h
def aj(H H':Hp):Prop:=∀b o,H b=some o->H' b=some o
theorem aj.refl(H:Hp):aj H H:=λ_ _ h=>h
theorem aj.trans{H H1 H2:Hp}(a:aj H H1)(b:aj H1 H2):aj H H2:=λc o h=>b c o (a c o h)
theorem aj.seq{K:wb}{H H':Hp}{a:wg}{xs:List V}(e:aj H H')(h:aG K H a xs):aG K H' a xs:=by
 rcases h with(h | ⟨o,h⟩) | h
 ·exact .inl (.inl (e _ _ h))
 ·exact .inl (.inr ⟨o,e _ _ h⟩)
 ·exact .inr h
end L2
namespace GM
variable{B d t u:Int}{a b h x y:Rat}{c i j m n w:Nat}{l ps xs ys:List Rat}{ns ts:List Int}{left:List Nat}{fl:Nat->Nat}
def dv(t b:Int):Int:=if b<0 then -((vy t b:Nat):Int)else((vy t b:Nat):Int)
theorem BU{b:Int}(hb:b≠0):0<vy t b:=qJ t hb
theorem Fc{b:Int}(hb:b≠0):dv t b≠0:=by
 have:=BU (t:=t) hb;unfold dv
 split<;>lia
theorem ft{a:Int}(h:d ∣ a)(hd:d≠0):a.fdiv d=a / d:=by
 obtain⟨k,rfl⟩:=h;rw[Int.mul_fdiv_cancel_left _ hd,qk _ hd]
theorem BB{b:Int}(hb:b≠0):t.fdiv (dv t b)=(wy t b).num:=by
 have hg:=BU (t:=t) hb;have h1:((vy t b:Nat):Int) ∣ t:=qN ..;rw[Rat.num_divInt,X2 b t];unfold dv
 by_cases h:b<0
 ·rw[if_pos h,xt h,ft (uF.mpr h1) (by lia),Int.ediv_neg]
  obtain⟨k,hk⟩:=h1;have:(-1:Int)*t=((vy t b:Nat):Int)*(-k):=by rw[Ue,uG,<- hk]
  rw[this,qk _ (by lia)];have e:t / ((vy t b:Nat):Int)=k:=xg (by lia) hk;rw[e]
 ·rw[if_neg h,Xc (by lia),Int.one_mul,ft h1 (by lia)]
theorem OJ{b:Int}(hb:b≠0):b.fdiv (dv t b)=((wy t b).den:Int):=by
 have hg:=BU (t:=t) hb;have h1:((vy t b:Nat):Int) ∣ b:=QD ..;rw[Ux,if_neg hb,X2 b t];unfold dv
 by_cases h:b<0
 ·rw[if_pos h,ft (uF.mpr h1) (by lia),Int.ediv_neg,ql]
  obtain⟨k,hk⟩:=h1;have:(b.natAbs:Int)=((vy t b:Nat):Int)*(-k):=by rw[uG,<- hk];lia
  rw[this,qk _ (by lia)];have e:b / ((vy t b:Nat):Int)=k:=xg (by lia) hk;rw[e]
 ·rw[if_neg h,ft h1 (by lia),ql]
  have:(b.natAbs:Int)=b:=by lia
  rw[this]
def gD(p q:Int):Bool:=decide (1<=q)&&decide (vy p q=1)
theorem Mp(r:Rat):gD r.num r.den=true:=by
 have h:=r.reduced;have hd:=r.den_pos;simp only[gD,w9,decide_eq_true_eq];refine⟨by lia,?_⟩;have:Nat.gcd r.num.natAbs r.den=1:=h
 simpa [vy] using this
theorem zp5{p q:Int}(h:gD p q=true):∃r:Rat,p=r.num/\q=(r.den:Int):=by
 simp only[gD,w9,decide_eq_true_eq]at h;obtain⟨h1,h2⟩:=h;refine⟨⟨p,q.toNat,by lia,?_⟩,rfl,by show q=((q.toNat:Nat):Int);lia⟩;have e:q.toNat=q.natAbs:=by lia
 rw[e];exact h2
theorem Mt{a b:Int}(hb:0<b)(ha:0<=a):vy b (a % b)=vy a b:=by
 rw[X2 a b];have e:a=a % b+b*(a / b):=(Int.emod_add_mul_ediv a b).symm
 conv=>rhs;rw[e]
 rw[Int.gcd_add_mul_left_right]
structure Bd(n:Nat)(x:Int):Prop where
 lt:x.natAbs<2^n
theorem Bd.mono{x:Int}(h:Bd m x)(e:m<=n):Bd n x:=⟨wW h.lt (Xy (by decide) e)⟩
theorem Bd.mul{x y:Int}(h:Bd m x)(k:Bd n y):Bd (m+n) (x*y):=by
 refine⟨?_⟩;rw[Xl,xb];exact Nat.mul_lt_mul'' h.lt k.lt
theorem Bd.add{x y:Int}(h:Bd m x)(k:Bd n y):Bd (max m n+1) (x+y):=by
 have h1:=(h.mono (Uf m n)).lt;have h2:=(k.mono (uR m n)).lt;refine⟨?_⟩;rw[W4]
 lia
theorem Bd.sub{x y:Int}(h:Bd m x)(k:Bd n y):Bd (max m n+1) (x-y):=by
 have h1:=(h.mono (Uf m n)).lt;have h2:=(k.mono (uR m n)).lt;refine⟨?_⟩;rw[W4]
 lia
theorem Bd.neg{x:Int}(h:Bd n x):Bd n (-x):=⟨by rw[Int.natAbs_neg];exact h.lt⟩
theorem Bd.le{x y:Int}(h:Bd n x)(e:y.natAbs<=x.natAbs):Bd n y:=⟨WC e h.lt⟩
theorem Bd.log{x:Int}(h:Bd n x)(hn:0<n):x.natAbs.log2<n:=by
 by_cases e:x.natAbs=0
 ·rw[e];exact hn
 ·exact(Nat.log2_lt e).mpr h.lt
theorem zCy(t b:Int)(hb:b≠0):(wy t b).num.natAbs<=t.natAbs:=by
 rw[<- BB hb]
 have h1:dv t b ∣ t:=by
  have:((vy t b:Nat):Int) ∣ t:=qN ..;unfold dv;split
  ·exact uF.mpr this
  ·exact this
 rw[ft h1 (Fc hb)];exact xD t _
theorem DF(t b:Int)(hb:b≠0):(wy t b).den<=b.natAbs:=by
 rw[Ux,if_neg hb];exact Nat.div_le_self _ _
structure af(n:Nat)(x:Rat):Prop where
 t:Bd n x.num
 b:Bd n (x.den:Int)
theorem af.mono(h:af m x)(e:m<=n):af n x:=⟨h.t.mono e,h.b.mono e⟩
theorem af.divInt{b:Int}(hb:b≠0)(h1:Bd n t)(h2:Bd n b):af n (wy t b) :=
 ⟨h1.le (zCy t b hb),h2.le (by have:=DF t b hb;simpa using this)⟩
theorem Bd.mG{m:Int}(h1 : -100000000000000000000000000000000000000<=m)(h2:m<=100000000000000000000000000000000000000):Bd 128 m:=⟨by
 have e:(2:Nat)^128=340282366920938463463374607431768211456:=by decide
 rw[e]
 lia⟩
theorem fh(x:Rat):(x.den:Int)≠0:=by have:=x.den_pos;lia
theorem den_pos(x:Rat):(0:Int)<(x.den:Int):=by have:=x.den_pos;lia
theorem Fu(x y:Rat):(x.den:Int)*(y.den:Int)≠0:=xW (fh x) (fh y)
theorem PV(x y:Rat):wy (x.num*(y.den:Int)+y.num*(x.den:Int)) ((x.den:Int)*(y.den:Int))=x+y:=by
 rw[<- VQ,xJ,Rat.add_def']
theorem zCl(x y:Rat):wy (x.num*(y.den:Int)-y.num*(x.den:Int)) ((x.den:Int)*(y.den:Int))=x-y:=by
 rw[<- VQ,xJ,Rat.sub_def']
theorem zCs(x y:Rat):wy (x.num*y.num) ((x.den:Int)*(y.den:Int))=x*y:=by
 rw[<- VQ,xJ,Rat.mul_def']
theorem zDy(x y:Rat):decide (x.num*(y.den:Int)<y.num*(x.den:Int))=decide (x<y):=by
 rw[vL,decide_eq_true_eq,decide_eq_true_eq,Rat.lt_iff]
theorem BC(h:y≠0):y.num≠0:=λe=>h (Rat.num_eq_zero.mp e)
theorem af.add(h:af m x)(k:af n y):af (m+n+1) (x+y):=by
 rw[<- PV];refine af.divInt (Fu x y) ?_ ((h.b.mul k.b).mono (by lia));exact((h.t.mul k.b).add (k.t.mul h.b)).mono (by lia)
theorem af.sub(h:af m x)(k:af n y):af (m+n+1) (x-y):=by
 rw[<- zCl];refine af.divInt (Fu x y) ?_ ((h.b.mul k.b).mono (by lia));exact((h.t.mul k.b).sub (k.t.mul h.b)).mono (by lia)
theorem af.mul(h:af m x)(k:af n y):af (m+n) (x*y):=by
 rw[<- zCs];exact af.divInt (Fu x y) (h.t.mul k.t) (h.b.mul k.b)
theorem af.zero :af 1 0:=⟨⟨by decide⟩,⟨by decide⟩⟩
theorem af.one :af 1 1:=⟨⟨by decide⟩,⟨by decide⟩⟩
def aC(a b:Rat):Nat->Rat
 | 0=>0
 | n+1=>a*aC a b n+b
def push(a b:Rat):Nat->Rat->Rat
 | 0,x=>x
 | n+1,x=>a*push a b n x+b
theorem gY(a b:Rat)(n:Nat)(x:Rat):push a b n x=a^n*x+aC a b n:=by
 induction n with
 | zero=>simp[push,aC,xK,Qm]
 | succ n ih=>rw[push,ih,aC,Vs];grind
theorem zyD(a b:Rat)(m n:Nat)(x:Rat):push a b (m+n) x=push a b n (push a b m x):=by
 induction n with
 | zero=>rfl
 | succ n ih=>rw[<- VW,push,push,ih]
theorem af.pow{k:Nat}(h:af k a)(n:Nat):af (k*n+1) (a^n):=by
 induction n with
 | zero=>rw[Qm];exact af.one.mono (by lia)
 | succ n ih=>rw[Vs];exact(ih.mul h).mono (by rw[Qn];lia)
theorem af.aC{k:Nat}(h:af k a)(hb:af k b)(n:Nat):af ((2*k+1)*n+1) (aC a b n):=by
 induction n with
 | zero=>exact af.zero.mono (by lia)
 | succ n ih=>exact((h.mul ih).add hb).mono (by rw[Qn];lia)
theorem bY(t:Int)(hu:u≠0):(wy t u)*(u:Rat)=(t:Rat):=by
 rw[Rat.divInt_eq_div];exact Vj λz=>hu (Vz.mp z)
theorem iQ(x:Rat):x*((x.den:Int):Rat)=(x.num:Rat):=by
 have:=bY x.num (fh x)
 rwa[xh]at this
theorem fk(hu:u≠0)(h:x*(u:Rat)=(t:Rat)):wy t u=x:=by
 have h1:=bY t hu;have h2:(wy t u-x)*(u:Rat)=0:=by grind
 have h3:(u:Rat)≠0:=by
  intro z;exact hu (Vz.mp z)
 have:=xX.mp h2
 grind
theorem JX(a b:Rat)(t u:Int)(hu:u≠0):wy (a.num*b.den*t+b.num*a.den*u) (u*a.den*b.den)=a*wy t u+b:=by
 refine fk (xW (xW hu (fh a)) (fh b)) ?_;have h1:=bY t hu;have h2:=iQ a;have h3:=iQ b;simp only[Wj,Qd]
 grind
theorem KL(a b:Rat)(n:Nat)(x y:Rat):push a b n y-push a b n x=a^n*(y-x):=by
 rw[gY,gY];grind
theorem o_(h:0<a)(n:Nat):0<a^n:=Rat.pow_pos h
theorem ztm(h:1<a)(n:Nat):1<a^(n+1):=by
 induction n with
 | zero=>simpa using h
 | succ n ih =>
  rw[Vs];have:=qX (show 0<a^(n+1)-1 by grind) (show 0<a-1 by grind)
  grind
theorem ZD(h0:0<a)(h:a<1)(n:Nat):a^(n+1)<1:=by
 induction n with
 | zero=>simpa using h
 | succ n ih =>
  rw[Vs];have:=qX (show 0<1-a^(n+1) by grind) h0
  grind
theorem one_pow'(n:Nat):(1:Rat)^n=1:=by
 induction n with
 | zero=>rfl
 | succ n ih=>rw[Vs,ih,QK]
theorem lK(h:0<u):(0:Rat)<(u:Rat):=Ug.mpr h
theorem zr2(hu:0<u)(ht:0<t):0<wy t u:=by
 have e:=bY t (show u≠0 by lia);have:=lK ht;rw[<- e]at this;exact(Rat.mul_pos_iff_of_pos_right (lK hu)).mp this
theorem Lb{c:Int}(hu:0<u)(h:t<=c*u):wy t u<=(c:Rat):=by
 have e:=bY t (show u≠0 by lia);refine xu (c:=(u:Rat)) ?_ (lK hu);rw[e,<- Wj];exact WQ.mpr h
theorem ztt{c:Int}(hu:0<u)(h:t<c*u):wy t u<(c:Rat):=by
 have e:=bY t (show u≠0 by lia);refine qR (c:=(u:Rat)) ?_ (vX (lK hu));rw[e,<- Wj];exact VF.mpr h
theorem EW(hu:0<u):((wy t u).den:Int)<=u:=by
 have:=DF t u (by lia)
 lia
theorem Tc(x:Rat):wy ((x.den:Int)-x.num) x.den=1-x:=by
 refine fk (fh x) ?_;have:=iQ x;rw[Rat.intCast_sub]
 grind
theorem NU(x y:Rat):x.num*(y.den:Int)+y.num*(x.den:Int)<(x.den:Int)*(y.den:Int) ↔ x+y<1:=by
 have e:(x+y)*(((x.den:Int)*(y.den:Int):Int):Rat)=((x.num*(y.den:Int)+y.num*(x.den:Int):Int):Rat):=by
  have h1:=iQ x;have h2:=iQ y;simp only[Wj,Qd]
  grind
 have p:(0:Rat)<(((x.den:Int)*(y.den:Int):Int):Rat):=lK (vV (den_pos x) (den_pos y))
 constructor
 ·intro h
  refine qR (c:=(((x.den:Int)*(y.den:Int):Int):Rat)) ?_ (vX p);rw[e,QK];exact VF.mpr h
 ·intro h
  have:=xi h p;rw[e,QK]at this;exact VF.mp this
theorem zvR{c:Int}(h:x<=(c:Rat)):x.num<=c*x.den:=by
 have:=(Xz x c).mp h
 simpa using this
theorem zCF(h:0<=x):0<=x.num:=Qv.mpr h
theorem af.small{d:Nat}(h0:0<=x)(hc:x<=((c:Int):Rat))(hd:x.den<=d)(z:c*d<1024)(hd2:d<1024):af 10 x:=by
 have h1:=zvR hc;have h2:=zCF h0;have h3:(c:Int)*(x.den:Int)<=(c:Int)*(d:Int):=Int.mul_le_mul_of_nonneg_left (by lia) (by lia);have h4:(c:Int)*(d:Int)<1024:=by rw[<- VQ];lia
 refine⟨⟨?_⟩,⟨?_⟩⟩
 ·show _<1024
  lia
 ·show _<1024
  lia
theorem Aw{z:Int}(e:x=wy z u)(h1:1<=u)(h2:u<=8)(h3:1<=z)(h4:z<=4*u):0<x/\x<=4/\x.den<=8:=by
 subst e;refine⟨zr2 (by lia) (by lia),Lb (c:=4) (by lia) h4,?_⟩;have:=EW (t:=z) (show 0<u by lia)
 lia
theorem Av{r:Int}(e:y=wy r u)(h1:1<=u)(h2:u<=12)(h3:0<=r)(h4:r<=u):0<=y/\y<=1/\y.den<=12:=by
 subst e;refine⟨uh h3 (by lia),Lb (c:=1) (by lia) (by lia),?_⟩;have:=EW (t:=r) (show 0<u by lia)
 lia
theorem zq8(x:Rat):(1-x).den<=x.den:=by
 rw[<- Tc];have:=EW (t:=(x.den:Int)-x.num) (den_pos x)
 lia
theorem af.four :af 3 4:=⟨⟨by decide +kernel⟩,⟨by decide +kernel⟩⟩
theorem zrB{a b:Int}(hB:0<B)(h:a<=b):wy a B<=wy b B:=by
 have h1:=bY a (show B≠0 by lia);have h2:=bY b (show B≠0 by lia);have hb:=lK hB;have h3:(a:Rat)<=(b:Rat):=WQ.mpr h;rw[<- h1,<- h2]at h3;exact xu h3 hb
theorem Sd{f:Rat->Rat}(h:i<xs.length):(xs.map f).getD i 0=f (xs.getD i 0):=by
 rw[wa,wa,wx,wc h]
 rfl
theorem zAf(ha:0<a)(n:Nat)(x y:Rat):push a b n x<push a b n y ↔ x<y:=by
 have e:=KL a b n x y;have p:=o_ ha n
 constructor
 ·intro h
  have:0<a^n*(y-x):=by rw[<- e];grind
  have h2:=(Rat.mul_pos_iff_of_pos_left p).mp this
  grind
 ·intro h
  have:0<a^n*(y-x):=qX p (by grind)
  grind
def cX(a b:Rat)(n:Nat)(xs:List Rat)(i:Nat):List Rat:=(xs.map λx=>push a b n (x+(1-xs.getD i 0))).set i 0
def aN(a b:Rat)(ns:List Int)(xs:List Rat):Nat->List Rat
 | 0=>xs
 | k+1=>cX a b (ns.getD k 0).toNat (aN a b ns xs k) k
theorem iV(a b:Rat)(n:Nat)(xs:List Rat)(i:Nat):(cX a b n xs i).length=xs.length:=by simp[cX]
theorem cS(a b:Rat)(ns:List Int)(xs:List Rat):∀k,(aN a b ns xs k).length=xs.length
 | 0=>rfl
 | k+1=>by rw[aN,iV,cS a b ns xs k]
theorem fo(a b:Rat)(n:Nat)(xs:List Rat)(i j:Nat)(hj:j<xs.length):(cX a b n xs i).getD j 0=if j=i then 0 else push a b n (xs.getD j 0+(1-xs.getD i 0)):=by
 unfold cX;rw[wa,V0]
 by_cases h:i=j
 ·subst h
  simp[hj]
 ·rw[if_neg h,if_neg (WI h),wx,wc hj]
  simp[wa,hj]
def Cm(m:Nat)(xs:List Rat):Prop:=∃B:Int,0<B/\Bd m B /\ ∀x∈xs,∃t:Int,x=wy t B/\Bd m t
theorem Cm.mono(h:Cm m xs)(e:m<=n):Cm n xs:=by
 obtain⟨B,h0,h1,h2⟩:=h;exact⟨B,h0,h1.mono e,λx hx=>let ⟨t,e1,e2⟩:=h2 x hx;⟨t,e1,e2.mono e⟩⟩
theorem Cm.f_(h:Cm m xs)(hx:x∈xs):af m x:=by
 obtain⟨B,h0,h1,h2⟩:=h;obtain⟨t,rfl,ht⟩:=h2 x hx;exact af.divInt (by lia) ht h1
theorem Cm.pos(h:Cm m xs):1<=m:=by
 obtain⟨B,h0,h1,_⟩:=h;cases m with
 | zero=>have:=h1.lt;simp at this;lia
 | succ m=>lia
theorem Cm.get(h:Cm m xs)(i:Nat):af m (xs.getD i 0):=by
 rcases wB i xs.length with z | z
 ·rw[wa,wc z]
  exact h.f_ (vY z)
 ·rw[wa,wQ z]
  exact af.zero.mono h.pos
theorem rR{a b:Rat}(ba:af 10 a)(bb:af 10 b){m:Nat}{t u:Int}(hu:0<u)(bt:Bd m t)(bu:Bd m u):∀n:Nat,0<u*((a.den:Int)*(b.den:Int))^n/\Bd (m+21*n) (u*((a.den:Int)*(b.den:Int))^n) /\
  ∃T:Int,push a b n (wy t u)=wy T (u*((a.den:Int)*(b.den:Int))^n)/\Bd (m+21*n) T
 | 0=>⟨by simpa using hu,by simpa using bu,t,by simp[push],by simpa using bt⟩
 | n+1=>by
  obtain⟨h1,h2,T,e,hT⟩:=rR ba bb hu bt bu n;have eb:u*((a.den:Int)*(b.den:Int))^(n+1)=u*((a.den:Int)*(b.den:Int))^n*(a.den:Int)*(b.den:Int):=by rw[QW,<- qt,qt (u*_)]
  rw[eb];refine⟨vV (vV h1 (den_pos a)) (den_pos b),((h2.mul ba.b).mul bb.b).mono (by lia),a.num*(b.den:Int)*T+b.num*(a.den:Int)*(u*((a.den:Int)*(b.den:Int))^n),?_,(((ba.t.mul bb.b).mul hT).add ((bb.t.mul ba.b).mul h2)).mono (by lia)⟩;rw[push,e];exact(JX a b T _ (by lia)).symm
theorem Cm.mH(h:Cm m xs)(ba:af 10 a)(bb:af 10 b)(n i:Nat):Cm (m+2+21*n) (cX a b n xs i):=by
 obtain⟨B,h0,h1,h2⟩:=h
 have hz:∃z:Int,xs.getD i 0=wy z B/\Bd m z:=by
  rcases wB i xs.length with q | q
  ·rw[wa,wc q]
   exact h2 _ (vY q)
  ·rw[wa,wQ q]
   exact⟨0,by simp,⟨by simp;exact Wt m⟩⟩
 obtain⟨z,ez,hz⟩:=hz;have key:=λ(t:Int)(ht:Bd m t)=>rR ba bb h0 (show Bd (m+2) (t+B-z)from((ht.add h1).sub hz).mono (by lia)) (h1.mono (by lia)) n
 obtain⟨p1,p2,_⟩:=key 0 ⟨by simp;exact Wt m⟩;refine⟨_,p1,p2,λx hx=>?_⟩
 have hx':x=0 \/ ∃y∈xs,x=push a b n (y+(1-xs.getD i 0)):=by
  unfold cX at hx;rcases xE hx with q | q
  ·obtain⟨y,hy,rfl⟩:=wU.mp q
   exact .inr ⟨y,hy,rfl⟩
  ·exact .inl q
 rcases hx' with rfl | ⟨y,hy,rfl⟩
 ·exact⟨0,by simp,⟨by simp;exact Wt _⟩⟩
 ·obtain⟨t,rfl,ht⟩:=h2 y hy
  obtain⟨_,_,T,e,hT⟩:=key t ht
  have e2:wy t B+(1-xs.getD i 0)=wy (t+B-z) B:=by
   rw[ez]
   symm
   refine fk (by lia) ?_;have q1:=bY t (show B≠0 by lia);have q2:=bY z (show B≠0 by lia);have q3:((t+B-z:Int):Rat)=(t:Rat)+(B:Rat)-(z:Rat):=by push_cast;rfl
   rw[q3,<- q1,<- q2]
   grind
  rw[e2];exact⟨T,e,hT⟩
theorem Cm.snoc(h:Cm m xs):Cm m (xs++[0]):=by
 obtain⟨B,h0,h1,h2⟩:=h;refine⟨B,h0,h1,λx hx=>?_⟩;rcases Ws.mp hx with q | q
 ·exact h2 x q
 ·rw[vi.mp q]
  exact⟨0,by simp,⟨by simp;exact Wt m⟩⟩
def upTo(ns:List Int)(k:Nat):Nat:=((ns.take k).map xY).sum
theorem oM{k:Nat}(h:k<ns.length):upTo ns (k+1)=upTo ns k+(ns.getD k 0).toNat:=by
 unfold upTo;rw[qF,wc h,wa,wc h,vQ,List.sum_append]
 show _+([ns[k].toNat]:List Nat).sum=_
 rw[List.sum_singleton]
 rfl
theorem Cm.rows{m:Nat}{xs:List Rat}{a b:Rat}{ns:List Int}(h:Cm m xs)(ba:af 10 a)(bb:af 10 b):∀k,k<=ns.length->Cm (m+2*k+21*upTo ns k) (aN a b ns xs k)
 | 0,_=>h.mono (by lia)
 | k+1,hk=>by
  have:=(Cm.rows h ba bb (ns:=ns) k (by lia)).mH ba bb (ns.getD k 0).toNat k;rw[aN];refine this.mono ?_;rw[oM (by lia)]
  lia
theorem LO(a:Rat)(m:Nat):∀n:Nat,a^(m+n)=a^m*a^n
 | 0=>by rw[X3,Qm,Rat.mul_one]
 | n+1=>by rw[<- VW,Vs,LO a m n,Vs,UH]
theorem ZV(a b:Rat)(n:Nat)(xs ys:List Rat)(i j:Nat)(hx:xs.length=ys.length)(hj:j<xs.length) :
  (cX a b n xs i).getD j 0-(cX a b n ys i).getD j 0=a^n*((xs.getD j 0-ys.getD j 0)-(xs.getD i 0-ys.getD i 0)):=by
 rw[fo a b n xs i j hj,fo a b n ys i j (by lia)]
 by_cases h:j=i
 ·subst h
  rw[if_pos rfl,if_pos rfl]
  grind
 ·rw[if_neg h,if_neg h,KL]
  grind
theorem CQ(a b:Rat)(ns:List Int)(xs ys:List Rat)(hx:xs.length=ys.length)(hn:ns.length=xs.length)(l:Nat)(hl:l+1=xs.length)(h0:xs.getD l 0=ys.getD l 0) :
  ∀k,k<=ns.length->∀j,j<xs.length->(aN a b ns xs k).getD j 0-(aN a b ns ys k).getD j 0=a^upTo ns k*((xs.getD j 0-ys.getD j 0)-(if k=0 then 0 else xs.getD (k-1) 0-ys.getD (k-1) 0))
 | 0,_,j,hj=>by simp[aN,upTo];grind
 | k+1,hk,j,hj=>by
  rw[aN,aN,ZV _ _ _ _ _ _ _ (by rw[cS,cS,hx]) (by rw[cS];exact hj),CQ a b ns xs ys hx hn l hl h0 k (by lia) j hj,CQ a b ns xs ys hx hn l hl h0 k (by lia) k (by lia),oM (by lia),LO];simp only[Qo];rw[if_neg (show ¬ k+1=0 by lia)]
  grind
def mi(a b:Rat)(n:Nat)(xs:List Rat):List Rat:=(xs.tail.map λy=>push a b n (y+(1-xs.headD 0)))++[0]
def turned(a b:Rat)(ns:List Int)(xs:List Rat):Nat->List Rat
 | 0=>xs
 | k+1=>mi a b (ns.getD k 0).toNat (turned a b ns xs k)
theorem nP(a b:Rat)(ns:List Int)(xs:List Rat):∀k,k<=xs.length->turned a b ns xs k=(aN a b ns xs k).drop k++(aN a b ns xs k).take k
 | 0,_=>by simp[turned,aN]
 | k+1,hk=>by
  have hl:(aN a b ns xs k).length=xs.length:=cS a b ns xs k;have hk':k<(aN a b ns xs k).length:=by lia
  rw[turned,nP a b ns xs k (by lia),aN];generalize aN a b ns xs k=r at *;generalize (ns.getD k 0).toNat=n;have e1:r.drop k=r[k]::r.drop (k+1):=Qe hk';have e2:r.getD k 0=r[k]:=by rw[wa,wc hk'];rfl
  unfold mi cX;rw[e1,e2,QL,Uy,List.headD_cons,List.drop_set_of_lt (by lia),vQ,XG,V1]
  congr 1
  have hm:k<(r.map λx=>push a b n (x+(1-r[k]))).length:=by rw[wm];exact hk'
  rw[UI];generalize (r.map λx=>push a b n (x+(1-r[k])))=s at hm ⊢;rw[List.take_set,qF,wc hm]
  show _=(s.take k++[s[k]]).set k 0
  have hlk:(s.take k).length=k:=by rw[Wu];lia
  rw[List.set_append_right _ _ (by lia),hlk,Vt]
  rfl
theorem zsR(a b:Rat)(ns:List Int)(xs:List Rat)(h:ns.length=xs.length):turned a b ns xs ns.length=aN a b ns xs ns.length:=by
 rw[nP a b ns xs _ (by lia)];have hl:(aN a b ns xs ns.length).length=xs.length:=cS a b ns xs _;rw[Xd (by lia),W5 (by lia),Qf]
def jW(xs:List Rat):Nat->Int
 | 0=>1
 | k+1=>jW xs k*((xs.getD k 0).den:Int)
theorem C8(xs:List Rat):∀k,0<jW xs k
 | 0=>by show(0:Int)<1;decide
 | k+1=>vV (C8 xs k) (den_pos _)
theorem Dq(xs:List Rat):∀k j,j<k->((xs.getD j 0).den:Int) ∣ jW xs k
 | 0,j,h=>by lia
 | k+1,j,h=>by
  rcases wB j k with z | z
  ·exact qS (Dq xs k j z) (V2 ..)
  ·have:j=k:=by lia
   subst this;exact uS ..
theorem EM{xs:List Rat}{m:Nat}(h:∀i,af m (xs.getD i 0)):∀k,Bd (m*k+1) (jW xs k)
 | 0=>⟨by show(1:Int).natAbs<_;simp⟩
 | k+1=>by
  rw[jW];refine((EM h k).mul (h k).b).mono ?_;rw[Xe];lia
theorem N0(hB:0<B)(h:(x.den:Int) ∣ B):wy (x.num*B.fdiv x.den) B=x:=by
 obtain⟨c,rfl⟩:=h;rw[ft (V2 ..) (fh x),qk _ (fh x)];refine fk (by lia) ?_;have:=iQ x;rw[Wj,Wj,<- this]
 grind
theorem Eu(hd:0<d)(hB:0<B)(h:Bd m B):Bd m (B.fdiv d):=by
 refine h.le ?_;rw[qT _ (by lia)];have h1:0<=B / d:=Uh (by lia) (by lia);have h2:B / d<=B:=uT _ (by lia)
 lia
def d5(B:Int)(ts:List Int):List Rat:=ts.map λt=>wy t B
theorem zsZ{x:Int}(hB:0<B):d5 B (ts.map λt=>t+(B-x))=(d5 B ts).map λy=>y+(1-wy x B):=by
 unfold d5;rw[WD,WD];refine qp λt _=>?_
 show wy (t+(B-x)) B=wy t B+(1-wy x B)
 refine fk (by lia) ?_;have q1:=bY t (show B≠0 by lia);have q2:=bY x (show B≠0 by lia);have q3:((t+(B-x):Int):Rat)=(t:Rat)+((B:Rat)-(x:Rat)):=by push_cast;rfl
 rw[q3,<- q1,<- q2]
 grind
theorem Z5(hB:0<B):d5 (B*a.den*b.den) (ts.map λt=>a.num*b.den*t+b.num*a.den*B)=(d5 B ts).map λy=>a*y+b:=by
 unfold d5;rw[WD,WD];refine qp λt _=>?_
 exact JX a b t B (by lia)
theorem Fo(a b:Rat)(ns:List Int)(xs:List Rat){k:Nat}(hk:k<xs.length):(turned a b ns xs k).headD 0=(aN a b ns xs k).getD k 0:=by
 have hl:=cS a b ns xs k;rw[nP a b ns xs k (by lia),Qe (by lia),wa,wc (by lia)]
 rfl
theorem A8(a b:Rat)(ns:List Int)(xs:List Rat)(hx:0<xs.length):∀k,(turned a b ns xs k).length=xs.length
 | 0=>rfl
 | k+1=>by
  have:=A8 a b ns xs hx k;rw[turned,mi,wT,wm,uU,this];simp;lia
theorem Nf(x y:Rat):((x*y).num=x.num / (x.num.natAbs.gcd y.den:Nat)*(y.num / (y.num.natAbs.gcd x.den:Nat)))/\((x*y).den=x.den / (y.num.natAbs.gcd x.den)*(y.den / (x.num.natAbs.gcd y.den))):=by
 show(Rat.mul x y).num=_/\(Rat.mul x y).den=_
 unfold Rat.mul;simp only[Int.divExact_eq_ediv,Nat.divExact_eq_div]
 constructor<;>trivial
theorem R4(x y:Rat):((x+y).num=(x.num*((y.den / x.den.gcd y.den:Nat):Int)+y.num*((x.den / x.den.gcd y.den:Nat):Int)) / (((x.num*((y.den / x.den.gcd y.den:Nat):Int)+y.num*((x.den / x.den.gcd y.den:Nat):Int)).natAbs.gcd (x.den.gcd y.den):Nat):Int))/\((x+y).den=x.den / (x.den.gcd y.den)*(y.den / ((x.num*((y.den / x.den.gcd y.den:Nat):Int)+y.num*((x.den / x.den.gcd y.den:Nat):Int)).natAbs.gcd (x.den.gcd y.den)))):=by
 show(Rat.add x y).num=_/\(Rat.add x y).den=_
 unfold Rat.add
 by_cases hg:x.den.gcd y.den=1
 ·simp[hg]
 ·simp only[hg,dite_false,Rat.maybeNormalize_eq]
  refine⟨by simp,?_⟩;simp;have:(x.num*((y.den / x.den.gcd y.den:Nat):Int)+y.num*((x.den / x.den.gcd y.den:Nat):Int)).natAbs.gcd (x.den.gcd y.den) ∣ y.den:=Nat.dvd_trans (ui _ _) (ui _ _);simp at this;rw[Nat.mul_div_assoc _ this]
def eZ(x y:Rat):Int:=((vy (x.den:Int) (y.den:Int):Nat):Int)
def kN(x y:Rat):Int:=x.num*(y.den:Int).fdiv (eZ x y)+y.num*(x.den:Int).fdiv (eZ x y)
def jz(x y:Rat):Int:=((vy (kN x y) (eZ x y):Nat):Int)
theorem zC(x y:Rat):0<eZ x y:=by
 have:0<vy (x.den:Int) (y.den:Int):=Int.gcd_pos_of_ne_zero_left _ (by have:=x.den_pos;lia);unfold eZ;lia
theorem C5(x y:Rat):0<jz x y:=by
 have:0<vy (kN x y) (eZ x y):=qJ _ (by have:=zC x y;lia);unfold jz;lia
theorem EL(x y:Rat):eZ x y=((x.den.gcd y.den:Nat):Int):=by simp[eZ,vy]
theorem oX(x y:Rat):eZ x y ∣ (x.den:Int):=qN ..
theorem yR(x y:Rat):eZ x y ∣ (y.den:Int):=QD ..
theorem zBv(x y:Rat):jz x y ∣ kN x y:=qN ..
theorem Br(x y:Rat):jz x y ∣ eZ x y:=QD ..
theorem KZ(x y:Rat):kN x y=x.num*((y.den / x.den.gcd y.den:Nat):Int)+y.num*((x.den / x.den.gcd y.den:Nat):Int):=by
 have h:=zC x y;rw[kN,ft (yR x y) (by lia),ft (oX x y) (by lia),EL,ql,ql]
theorem NP(x y:Rat):jz x y=(((x.num*((y.den / x.den.gcd y.den:Nat):Int)+y.num*((x.den / x.den.gcd y.den:Nat):Int)).natAbs.gcd (x.den.gcd y.den):Nat):Int):=by
 rw[jz,KZ,EL];simp[vy]
theorem ZK(x y:Rat):(kN x y).fdiv (jz x y)=(x+y).num:=by
 have h:=C5 x y;rw[ft (zBv x y) (by lia),(R4 x y).1,NP,KZ]
theorem ZW(x y:Rat):(x.den:Int).fdiv (eZ x y)*(y.den:Int).fdiv (jz x y)=((x+y).den:Int):=by
 have h:=C5 x y;have h2:=zC x y;rw[ft (qS (Br x y) (yR x y)) (by lia),ft (oX x y) (by lia),(R4 x y).2,NP,EL];simp only[VQ,ql]
def gk(x y:Rat):Int:=((vy x.num (y.den:Int):Nat):Int)
theorem mQ(x y:Rat):0<gk x y:=by
 have:0<vy x.num (y.den:Int):=qJ _ (by have:=y.den_pos;lia);unfold gk;lia
theorem z8(x y:Rat):gk x y ∣ x.num:=qN ..
theorem nY(x y:Rat):gk x y ∣ (y.den:Int):=QD ..
theorem sX(x y:Rat):gk x y=((x.num.natAbs.gcd y.den:Nat):Int):=by simp[gk,vy]
theorem zzE(x y:Rat):x.num.fdiv (gk x y)*y.num.fdiv (gk y x)=(x*y).num:=by
 have h:=mQ x y;have h2:=mQ y x;rw[ft (z8 x y) (by lia),ft (z8 y x) (by lia),(Nf x y).1,sX,sX]
theorem zzz(x y:Rat):(x.den:Int).fdiv (gk y x)*(y.den:Int).fdiv (gk x y)=((x*y).den:Int):=by
 have h:=mQ x y;have h2:=mQ y x;rw[ft (nY x y) (by lia),ft (nY y x) (by lia),(Nf x y).2,sX,sX];simp only[VQ,ql]
theorem lY{a:Int}(h:Bd n a)(hd:d ∣ a)(hp:0<d):Bd n (a.fdiv d):=by
 rw[ft hd (by lia)];exact h.le (xD a d)
theorem rD{a:Int}(h:Bd n a)(hd:d ∣ a)(ha:0<a):Bd n d :=
 h.le (UJ (by lia) (Int.natAbs_dvd_natAbs.mpr hd))
theorem DS(t b:Int):vy (if t<0 then -t else t) b=vy t b:=by split<;>simp
theorem zzZ(h:af n y):af n (-y):=⟨by simpa using h.t.neg,by simpa using h.b⟩
theorem zs0(x y:Rat):x + -y=x-y:=(Rat.sub_eq_add_neg x y).symm
theorem ye(h:0<y.num):(y⁻¹).num=(y.den:Int)/\((y⁻¹).den:Int)=y.num:=by
 have:¬ y.num<0:=by lia
 constructor
 ·rw[Rat.num_inv,Xc h,Int.one_mul]
 ·rw[Rat.den_inv];split<;>lia
theorem tL(h:y.num<0):(y⁻¹).num = -(y.den:Int)/\((y⁻¹).den:Int) = -y.num:=by
 constructor
 ·rw[Rat.num_inv,xt h,Ue]
 ·rw[Rat.den_inv];split<;>lia
theorem Sw(h:af n y)(hy:y≠0):af n y⁻¹:=by
 have:=BC hy
 by_cases p:0<y.num
 ·exact⟨by rw[(ye p).1];exact h.b,by rw[(ye p).2];exact h.t⟩
 ·have p:y.num<0:=by lia
  exact⟨by rw[(tL p).1];exact h.b.neg,by rw[(tL p).2];exact h.t.neg⟩
theorem getD_mem{α : Type}{xs:List α}{d : α}(h:i<xs.length):xs.getD i d∈xs:=by
 rw[wa,wc h];exact vY h
def j8(x:Rat):Bool:=(!decide (x<0))&&(decide (x<1)&&decide ((x.den:Int)<=60))
structure fD(x:Rat):Prop where
 nn:0<=x
 lt:x<1
 den:x.den<=60
theorem fD.is(h:fD x):j8 x=true:=by
 have h1:=h.nn;have h2:=h.lt;have h3:=h.den;have h4:¬ x<0:=qa.mpr h1;have h5:(x.den:Int)<=60:=by lia
 simp[j8,h4,h2,h5]
theorem fD.f_(h:fD x):af 6 x:=by
 have h1:=h.nn;have h2:=h.lt;have h3:=h.den;have n0:0<=x.num:=Qv.mpr h1
 have n1:x.num<x.den:=by
   have:=Rat.lt_iff x 1 |>.mp h2
   simpa using this
 exact ⟨⟨by have : (2 : Nat) ^ 6 = 64 := by decide
            omega⟩, ⟨by have : (2 : Nat) ^ 6 = 64 := by decide
                        omega⟩⟩
def mx(m:Rat)(l:List Rat):Rat:=l.foldl (λm x=>if m<x then x else m) m
theorem Pk:∀(l:List Rat)(m:Rat),m<=mx m l /\ ∀y∈l,y<=mx m l
 | [],m=>⟨WZ,λy h=>by cases h⟩
 | x::l,m=>by
  have h:=Pk l (if m<x then x else m);have e:mx m (x::l)=mx (if m<x then x else m) l:=rfl;rw[e]
  have h1:m<=(if m<x then x else m)/\x<=(if m<x then x else m):=by
   split
   ·rename_i z;exact⟨vX z,WZ⟩
   ·rename_i z;exact⟨WZ,qa.mp z⟩
  refine⟨xL h1.1 h.1,λy hy=>?_⟩;rcases wK.mp hy with rfl | hy
  ·exact xL h1.2 h.1
  ·exact h.2 y hy
theorem Cu:∀(l:List Rat)(m:Rat),mx m l=m\/mx m l∈l
 | [],m=>.inl rfl
 | x::l,m=>by
  have e:mx m (x::l)=mx (if m<x then x else m) l:=rfl;rw[e];rcases Cu l (if m<x then x else m)with h | h
  ·rw[h]
   split
   ·exact .inr (wD ..)
   ·exact .inl rfl
  ·exact .inr (wA _ h)
theorem yf(m x:Rat)(l:List Rat):mx m (l++[x])=if mx m l<x then x else mx m l:=by
 unfold mx;rw[uj];rfl
def bG(xs:List Rat):Rat:=mx (xs.getD 0 0) xs
theorem Fs : ∀y∈xs,y<=bG xs:=(Pk xs _).2
theorem gH(h:1<=xs.length):bG xs∈xs:=by
 rcases Cu xs (xs.getD 0 0)with e | e
 ·unfold bG
  rw[e,wa,wc (by lia)];exact vY _
 ·exact e
theorem nZ(h:i<xs.length):xs.take (i+1)=xs.take i++[xs.getD i 0]:=by
 rw[qF,wa,wc h];rfl
theorem RJ(b:∀i,af n (xs.getD i 0))(h1:1<=xs.length)(i:Nat):af n (mx (xs.getD 0 0) (xs.take i)):=by
 rcases Cu (xs.take i) (xs.getD 0 0)with e | e
 ·rw[e];exact b 0
 ·have e:=uV _ _ e
  obtain⟨j,hj,ej⟩:=w6 e;rw[<- ej];have:=b j;rw[wa,wc hj]at this;exact this
theorem Ly{r:Int}(h0:0<=r)(h1:r<u)(h2:u<=60):fD (wy r u):=by
 refine⟨uh h0 (by lia),ztt (c:=1) (by lia) (by lia),?_⟩;have:=DF r u (by lia)
 lia
def az(ps:List Rat)(left:List Nat):List Nat:=left.filter λw=>!decide (ps.getD w 0<1)
def aW(left wave:List Nat):List Nat:=left.filter λw=>!decide (w∈wave)
def cc(f g:Rat)(ps:List Rat)(l:List Nat):List Rat:=l.foldl (λps w=>ps.set w (f*ps.getD w 0+g)) ps
def b_(a b:Rat):Nat->List Rat->List Nat->List (List Nat) × (List Nat × List Rat)
 | 0,ps,left=>([],left,ps)
 | n+1,ps,left=>match az ps left with
  | []=>([],left,ps)
  | w::ws=>((w::ws)::(b_ a b n (cc (a^(w::ws).length) (aC a b (w::ws).length) ps (aW left (w::ws))) (aW left (w::ws))).1,(b_ a b n (cc (a^(w::ws).length) (aC a b (w::ws).length) ps (aW left (w::ws))) (aW left (w::ws))).2)
def fH(left:List Nat)(ps:List Rat):List Rat:=(wq ps.length).map λi=>if i∈left then ps.getD i 0 else 0
def aZ(xs:List Rat):List Rat:=xs.map (· + (1-bG xs))
def dD(a b:Rat)(xs:List Rat):List (List Nat) × (List Nat × List Rat):=b_ a b xs.length (aZ xs) (wq xs.length)
def bS(a b:Rat)(xs:List Rat):List (List Nat):=(dD a b xs).1
def cz(a b:Rat)(xs:List Rat):List Rat:=fH (dD a b xs).2.1 (dD a b xs).2.2
theorem lI(h:az ps left=[]):b_ a b n ps left=([],left,ps):=by
 cases n with
 | zero=>rfl
 | succ n=>rw[b_,h]
theorem iO(h:az ps left≠[]):b_ a b (n+1) ps left=(az ps left::(b_ a b n (cc (a^(az ps left).length) (aC a b (az ps left).length) ps (aW left (az ps left))) (aW left (az ps left))).1,(b_ a b n (cc (a^(az ps left).length) (aC a b (az ps left).length) ps (aW left (az ps left))) (aW left (az ps left))).2):=by
 rw[b_];cases e:az ps left with
 | nil=>exact absurd e h
 | cons w ws=>rfl
theorem zrF(f g:Rat)(ps:List Rat)(l:List Nat)(w:Nat):cc f g ps (l++[w])=(cc f g ps l).set w (f*(cc f g ps l).getD w 0+g):=by
 unfold cc;rw[uj];rfl
theorem gX(f g:Rat):∀(l:List Nat)(ps:List Rat),(cc f g ps l).length=ps.length
 | [],ps=>rfl
 | w::l,ps=>by
  show(cc f g (ps.set w _) l).length=_
  rw[gX f g l,VP]
theorem RK(h:w≠j):(ps.set w y).getD j 0=ps.getD j 0:=by
 rw[wa,V0,if_neg h,wa]
theorem LP(h:w<ps.length):(ps.set w y).getD w 0=y:=by
 rw[wa,V0,if_pos rfl,if_pos h];rfl
theorem iW(f g:Rat):∀(l:List Nat)(ps:List Rat),l.Nodup->(∀w∈l,w<ps.length)->∀j,(cc f g ps l).getD j 0=if j∈l then f*ps.getD j 0+g else ps.getD j 0
 | [],ps,_,_,j=>by simp[cc]
 | w::l,ps,nd,hl,j=>by
  have nd':=W2.mp nd
  show(cc f g (ps.set w _) l).getD j 0=_
  rw[iW f g l _ nd'.2 (λv hv=>by rw[VP];exact hl v (wA _ hv)) j]
  by_cases hj:j=w
  ·subst hj
   rw[if_neg nd'.1,if_pos (wD ..),LP (hl j (wD ..))]
  ·rw[RK (WI hj)]
   by_cases hm:j∈l
   ·rw[if_pos hm,if_pos (wA _ hm)]
   ·rw[if_neg hm,if_neg (λz=>by rcases wK.mp z with z | z;(exact hj z);exact hm z)]
theorem ztr(ps:List Rat)(left:List Nat):aW left (az ps left)=left.filter λw=>decide (ps.getD w 0<1):=by
 unfold aW;refine vH λw hw=>?_
 have e:(w∈az ps left)=(¬ ps.getD w 0<1):=by
  unfold az;rw[vj];simp[hw]
 simp only[e];simp
theorem As(ps:List Rat)(left:List Nat):(az ps left).length+(aW left (az ps left)).length=left.length:=by
 rw[ztr];unfold az
 induction left with
 | nil=>rfl
 | cons w l ih=>by_cases h:ps.getD w 0<1<;>simp only[WT,h,decide_true,decide_false,WK,Q4,if_true,if_false,w8,vx]<;>lia
theorem m8{wave:List Nat}(h:left.Nodup):(aW left wave).Nodup:=h.filter _
theorem nJ{wave:List Nat}(h:∀w∈left,w<n):∀w∈aW left wave,w<n:=λw hw=>h w (vj.mp hw).1
theorem B0(left:List Nat)(ps:List Rat):(fH left ps).length=ps.length:=by simp[fH]
theorem kM(h:j<ps.length):(fH left ps).getD j 0=if j∈left then ps.getD j 0 else 0:=by
 unfold fH;rw[wa,wx,Wm h]
 rfl
theorem eS(xs:List Rat):(aZ xs).length=xs.length:=by simp[aZ]
theorem rN{a b:Rat} : ∀(n:Nat)(ps:List Rat)(left:List Nat),(b_ a b n ps left).2.2.length=ps.length
 | 0,ps,left=>rfl
 | n+1,ps,left=>by
  by_cases h:az ps left=[]
  ·rw[lI h]
  ·rw[iO h]
   show(b_ a b n _ _).2.2.length=_
   rw[rN n,gX]
theorem jF(a b:Rat)(xs:List Rat):(cz a b xs).length=xs.length:=by
 unfold cz dD;rw[B0,rN,eS]
theorem Cm.Jd(h0:0<B)(h1:Bd m B)(h:∀j,j<ps.length->∃t:Int,ps.getD j 0=wy t B/\Bd m t):∀x∈ps,∃t:Int,x=wy t B/\Bd m t:=λx hx=>by
 obtain⟨j,hj,e⟩:=w6 hx;have:=h j hj;rw[wa,wc hj]at this;rw[<- e];exact this
theorem Ay{a b:Rat}(ba:af 10 a)(bb:af 10 b){m:Nat}{t:Int}(h:Bd m t):∀n:Nat,Bd (m+21*n) (t*((a.den:Int)*(b.den:Int))^n)
 | 0=>by simpa using h
 | n+1=>by
  rw[QW,<- qt];exact((Ay ba bb h n).mul (ba.b.mul bb.b)).mono (by lia)
theorem pX(h0:0<B)(hd:0<d):wy t B=wy (t*d) (B*d):=by
 symm
 refine fk (by have:=vV h0 hd;lia) ?_;have q1:=bY t (show B≠0 by lia);rw[Wj,Wj,<- UH,q1]
theorem Cm.wave(c:Cm m (h::ps))(ba:af 10 a)(bb:af 10 b)(n:Nat){l:List Nat}(nd:l.Nodup)(hl:∀w∈l,w<ps.length):Cm (m+21*n) (h::cc (a^n) (aC a b n) ps l):=by
 obtain⟨B,h0,h1,h2⟩:=c;have hz:Bd m (0:Int):=⟨by simp;exact Wt m⟩;obtain⟨p1,p2,_⟩:=rR ba bb h0 hz h1 n;have hd:0<((a.den:Int)*(b.den:Int))^n:=uH (vV (den_pos a) (den_pos b));refine⟨_,p1,p2,λx hx=>?_⟩;rcases wK.mp hx with rfl | hx
 ·obtain⟨t,rfl,ht⟩:=h2 x (wD ..)
  exact⟨_,pX h0 hd,Ay ba bb ht n⟩
 ·refine Cm.Jd p1 p2 (λj hj=>?_) x hx
  rw[gX]at hj;obtain⟨t,e,ht⟩:=h2 (ps.getD j 0) (wA _ (getD_mem hj));rw[iW _ _ _ _ nd hl]
  split
  ·obtain⟨_,_,T,e2,hT⟩:=rR ba bb h0 ht h1 n
   exact⟨T,by rw[<- gY,e,e2],hT⟩
  ·exact⟨_,by rw[e];exact pX h0 hd,Ay ba bb ht n⟩
theorem Cm.rise{M:Rat}(c:Cm m (h::xs))(hM:M∈xs):Cm (m+2) ((h+(1-M))::xs.map (· + (1-M))):=by
 obtain⟨B,h0,h1,h2⟩:=c;obtain⟨z,ez,hz⟩:=h2 M (wA _ hM)
 have key:∀t:Int,Bd m t->wy t B+(1-M)=wy (t+B-z) B/\Bd (m+2) (t+B-z):=λt ht=>by
  refine⟨?_,((ht.add h1).sub hz).mono (by lia)⟩;rw[ez]
  symm
  refine fk (by lia) ?_;have q1:=bY t (show B≠0 by lia);have q2:=bY z (show B≠0 by lia);have q3:((t+B-z:Int):Rat)=(t:Rat)+(B:Rat)-(z:Rat):=by push_cast;rfl
  rw[q3,<- q1,<- q2]
  grind
 refine⟨B,h0,h1.mono (by lia),λx hx=>?_⟩;rcases wK.mp hx with rfl | hx
 ·obtain⟨t,e,ht⟩:=h2 h (wD ..)
  rw[e];exact⟨_,(key t ht).1,(key t ht).2⟩
 ·obtain⟨y,hy,rfl⟩:=wU.mp hx
  obtain⟨t,e,ht⟩:=h2 y (wA _ hy)
  show ∃t:Int,y+(1-M)=_/\_
  rw[e];exact⟨_,(key t ht).1,(key t ht).2⟩
theorem Cm.lA(c:Cm m xs)(h:∀y∈ys,y∈xs\/y=0):Cm m ys:=by
 obtain⟨B,h0,h1,h2⟩:=c;refine⟨B,h0,h1,λy hy=>?_⟩;rcases h y hy with z | rfl
 ·exact h2 y z
 ·exact⟨0,by simp,⟨by simp;exact Wt m⟩⟩
theorem zyE : ∀y∈fH left ps,y∈ps\/y=0:=λy hy=>by
 unfold fH at hy;obtain⟨i,hi,e⟩:=wU.mp hy;rw[<- e]
 split
 ·exact .inl (getD_mem (wF.mp hi))
 ·exact .inr rfl
theorem Cm.YU{k:Nat}(h:∀i,af k (xs.getD i 0)):Cm (k*xs.length+1+k) xs:=by
 have h0:=C8 xs xs.length;have h1:=EM h xs.length;refine⟨jW xs xs.length,h0,h1.mono (by lia),Cm.Jd h0 (h1.mono (by lia)) λj hj=>?_⟩;exact⟨_,(N0 h0 (Dq xs _ j hj)).symm,((h j).t.mul (Eu (den_pos _) h0 h1)).mono (by lia)⟩
def ai(a b:Rat)(xs:List Rat):Nat->List Rat
 | 0=>xs
 | k+1=>cz a b (ai a b xs k)
def aT(a b:Rat)(xs:List Rat):Nat->Rat
 | 0=>0
 | k+1=>aT a b xs k+(1-bG (ai a b xs k))
theorem a_(a b:Rat)(xs:List Rat):∀k,(ai a b xs k).length=xs.length
 | 0=>rfl
 | k+1=>by rw[ai,jF,a_ a b xs k]
def Rg(n:Nat)(left:List Nat):Prop:=left=(wq n).filter λw=>decide (w∈left)
theorem Rg.range(n:Nat):Rg n (wq n):=by
 unfold Rg;rw[XM.mpr];intro w hw;exact decide_eq_true hw
theorem Rg.filter(h:Rg n left)(p:Nat->Bool):Rg n (left.filter p):=by
 have e:((wq n).filter λw=>decide (w∈left.filter p))=((wq n).filter λw=>decide (w∈left)).filter p:=by
  rw[VJ];refine vH λw _=>?_
  by_cases h1:w∈left<;>cases h2:p w<;>simp[h1,h2]
 unfold Rg;rw[e];exact congrArg (List.filter p) h
theorem Rg.aW(h:Rg n left)(wave:List Nat):Rg n (aW left wave):=h.filter _
theorem Rg.lt(h:Rg n left):∀w∈left,w<n:=λw hw=>by
 rw[h]at hw;exact wF.mp (vj.mp hw).1
theorem Rg.nodup(h:Rg n left):left.Nodup:=by
 rw[h];exact WU.filter _
theorem Rg.ends(h:Rg n left)(ps:List Rat):az ps left=(wq n).filter λw=>decide (w∈left) && !decide (ps.getD w 0<1):=by
 have e:az ps left=((wq n).filter λw=>decide (w∈left)).filter λw=>!decide (ps.getD w 0<1):=congrArg (List.filter λw=>!decide (ps.getD w 0<1)) h
 rw[e,VJ];refine vH λw _=>?_
 rw[Bool.and_comm]
theorem Ak(h:0<B):wy t B<1 ↔ t<B:=by
 have hB:(0:Rat)<(B:Rat):=lK h;have q:=bY t (show B≠0 by lia)
 constructor
 ·intro z
  have:=xi z hB;rw[q,QK]at this;exact VF.mp this
 ·intro z
  refine qR (c:=(B:Rat)) ?_ (vX hB);rw[q,QK];exact VF.mpr z
theorem zv5{M:Int}(h:0<B)(hM:M∈ts)(hle:∀t∈ts,t<=M):bG (d5 B ts)=wy M B:=by
 have h1:1<=(d5 B ts).length:=by
  unfold d5;rw[wm];exact VG hM
 refine Ui ?_ ?_
 ·obtain⟨t,ht,e⟩:=wU.mp (gH h1)
  have e':wy t B=bG (d5 B ts):=e;rw[<- e'];exact zrB h (hle t ht)
 ·exact Fs _ (wU.mpr ⟨M,hM,rfl⟩)
theorem zvS{M:Int}(h:0<B):wy (B-M) B=1-wy M B:=by
 refine fk (by lia) ?_;have q:=bY M (show B≠0 by lia);have q3:((B-M:Int):Rat)=(B:Rat)-(M:Rat):=by push_cast;rfl
 rw[q3,<- q]
 grind
theorem zvz(B:Int)(ts:List Int):(d5 B ts).length=ts.length:=wm ..
theorem C_(h:w<ts.length):(d5 B ts).getD w 0=wy (ts.getD w 0) B:=by
 unfold d5;rw[wa,wx,wc h,wa,wc h];rfl
theorem ZQ(hB:0<B)(hdv:∀j,j<xs.length->((xs.getD j 0).den:Int) ∣ B):d5 B (xs.map λx=>x.num*B.fdiv (x.den:Int))=xs:=by
 unfold d5;rw[WD];refine WV (by simp) λj h1 h2=>?_
 have hd:=hdv j h2;rw[wa,wc h2]at hd;rw[Vc];exact N0 hB hd
theorem zxT(a b:Rat)(n:Nat)(xs:List Rat):(xs.map (push a b n)).map (λy=>a*y+b)=xs.map (push a b (n+1)):=by
 rw[WD];rfl
theorem zvT(a b:Rat)(xs:List Rat):xs.map (push a b 0)=xs:=by
 have:push a b 0=id:=by funext x;rfl
 rw[this,List.map_id]
theorem oJ{f:Rat->Rat}(h:w<xs.length):(xs.map f).getD w 0=f (xs.getD w 0):=by
 rw[wa,wx,wc h,wa,wc h];rfl
def mf(d:Int)(m:Nat)(xs:List Rat):Prop:=∃B:Int,0<B/\d ∣ B/\Bd m B /\ ∀x∈xs,∃t:Int,x=wy t B/\Bd m t
theorem mf.of(h:Cm m xs)(hd:0<d)(b:Bd 4 d):mf d (m+4) xs:=by
 obtain⟨B,h0,h1,h2⟩:=h;refine⟨B*d,vV h0 hd,uS ..,(h1.mul b),λx hx=>?_⟩;obtain⟨t,e,ht⟩:=h2 x hx;exact⟨t*d,by rw[e];exact pX h0 hd,ht.mul b⟩
theorem RT{a b:Rat}(ta:Bd 6 a.num)(da:Bd 4 (a.den:Int))(tb:Bd 4 b.num){m:Nat}{t u:Int}(hu:0<u)(hd:(b.den:Int) ∣ u)(bt:Bd m t)(bu:Bd m u):∀n:Nat,0<u*(a.den:Int)^n/\(b.den:Int) ∣ u*(a.den:Int)^n/\Bd (m+9*n) (u*(a.den:Int)^n) /\
  ∃T:Int,push a b n (wy t u)=wy T (u*(a.den:Int)^n)/\Bd (m+9*n) T
 | 0=>⟨by simpa using hu,by simpa using hd,by simpa using bu,t,by simp[push],by simpa using bt⟩
 | n+1=>by
  obtain⟨h1,hdv,h2,T,e,hT⟩:=RT ta da tb hu hd bt bu n;have eb:u*(a.den:Int)^(n+1)=u*(a.den:Int)^n*(a.den:Int):=by rw[QW,<- qt]
  rw[eb];generalize u*(a.den:Int)^n=U at *;obtain⟨c,rfl⟩:=hdv
  have hc:0<c:=by
   have hb:=den_pos b;rcases Int.lt_or_le 0 c with z | z
   ·exact z
   ·have:=Int.mul_nonpos_of_nonneg_of_nonpos (Int.le_of_lt hb) z
    lia
  have bc:Bd (m+9*n) c:=h2.le (by
   rw[Xl];exact Nat.le_mul_of_pos_left _ (by have:=den_pos b;lia))
  refine⟨vV h1 (den_pos a),qS (V2 ..) (V2 ..),(h2.mul da).mono (by lia),a.num*T+b.num*(a.den:Int)*c,?_,((ta.mul hT).add ((tb.mul da).mul bc)).mono (by lia)⟩;rw[push,e]
  symm
  have hU:((b.den:Int)*c)*(a.den:Int)≠0:=by have:=vV h1 (den_pos a);lia
  refine fk hU ?_;have q1:=bY T (show(b.den:Int)*c≠0 by lia);have q2:=iQ a;have q3:=iQ b;have q4:((a.num*T+b.num*(a.den:Int)*c:Int):Rat)=(a.num:Rat)*(T:Rat)+(b.num:Rat)*((a.den:Int):Rat)*(c:Rat):=by push_cast;rfl
  have q5:(((b.den:Int)*c*(a.den:Int):Int):Rat)=((b.den:Int):Rat)*(c:Rat)*((a.den:Int):Rat):=by push_cast;rfl
  have q6:(((b.den:Int)*c:Int):Rat)=((b.den:Int):Rat)*(c:Rat):=by push_cast;rfl
  rw[q6]at q1;rw[q4,q5,<- q1,<- q2,<- q3]
  grind
theorem fb(a b:Rat)(xs:List Rat)(m:Nat):∀k,ai a b (ai a b xs m) k=ai a b xs (m+k)
 | 0=>rfl
 | k+1=>by rw[ai,fb a b xs m k];rfl
theorem nz(a b:Rat)(xs:List Rat)(m:Nat):∀k,aT a b xs m+aT a b (ai a b xs m) k=aT a b xs (m+k)
 | 0=>by show aT a b xs m+0=aT a b xs m;grind
 | k+1=>by
  have:=nz a b xs m k
  show aT a b xs m+(aT a b (ai a b xs m) k+(1-bG (ai a b (ai a b xs m) k)))=aT a b xs (m+k)+(1-bG (ai a b xs (m+k)))
  rw[fb,<- this]
  grind
theorem JD{a b:Rat}(a0:0<a)(b0:0<=b){x:Rat}(h:0<x):∀n:Nat,0<push a b n x
 | 0=>h
 | n+1=>by
  have h1:=JD a0 b0 h n;have h2:=qX a0 h1
  show 0<a*push a b n x+b
  grind
structure gT(l:List Rat):Prop where
 pw:l.Pairwise (· > ·)
 nn:∀y∈l,0<=y
theorem gT.step(a0:0<a)(b0:0<=b)(h:gT (x::l))(x1:x<1):gT (mi a b n (x::l)):=by
 have hp:=Vk.mp h.pw;have pos:∀y∈l,0<push a b n (y+(1-x)):=λy hy=>JD a0 b0 (by have:=h.nn y (wA _ hy);grind) n
 unfold mi;refine⟨qO.mpr ⟨?_,xR _ _,?_⟩,λy hy=>?_⟩
 ·show(l.map λy=>push a b n (y+(1-x))).Pairwise (· > ·)
  rw[V3];refine hp.2.imp λ{y z} hyz=>?_
  show push a b n (z+(1-x))<push a b n (y+(1-x))
  have hyz:z<y:=hyz;exact(zAf a0 n _ _).mpr (by grind)
 ·intro y hy z hz
  obtain⟨w,hw,rfl⟩:=wU.mp hy;rw[vi.mp hz];exact pos w hw
 ·rcases Ws.mp hy with hy | hy
  ·obtain⟨w,hw,rfl⟩:=wU.mp hy
   exact vX (pos w hw)
  ·rw[vi.mp hy];exact WZ
structure gz(xs row:List Rat)(fl:Nat->Nat):Prop where
 at':∀w,w<xs.length->xs.getD w 0=row.getD (fl w) 0
 lt:∀w,w<xs.length->fl w<row.length
def bj(n:Nat)(fl:Nat->Nat)(c:Nat):List Nat:=(wq n).filter λw=>decide (fl w=c)
theorem rF{row:List Rat}(h:gz xs row fl)(some:∃w,w<xs.length/\fl w=c)(top:∀j,j<row.length->j≠c->row.getD j 0<row.getD c 0):bG xs=row.getD c 0:=by
 obtain⟨w,hw,rfl⟩:=some;have h1:1<=xs.length:=by lia
 refine Ui ?_ ?_
 ·obtain⟨j,hj,e⟩:=w6 (gH h1)
  have ea:=h.at' j hj;rw[wa,wc hj]at ea;have ea:xs[j]=row.getD (fl j) 0:=ea;rw[<- e,ea]
  by_cases z:fl j=fl w
  ·rw[z];exact WZ
  ·exact vX (top _ (h.lt j hj) z)
 ·rw[<- h.at' w hw]
  exact Fs _ (getD_mem hw)
theorem Cf{row:List Rat}(h:gz xs row fl)(some:∃w,w<xs.length/\fl w=c)(top:∀j,j<row.length->j≠c->row.getD j 0<row.getD c 0):az (aZ xs) (wq xs.length)=bj xs.length fl c:=by
 unfold az bj;refine vH λw hw=>?_
 have hw:=wF.mp hw;have hm:=rF h some top
 have e:(aZ xs).getD w 0=row.getD (fl w) 0+(1-row.getD c 0):=by
  unfold aZ;rw[wa,wx,wc hw,hm];have ea:=h.at' w hw;rw[wa,wc hw]at ea;have ea:xs[w]=row.getD (fl w) 0:=ea
  show xs[w]+(1-row.getD c 0)=_
  rw[ea]
 rw[e]
 by_cases z:fl w=c
 ·rw[z,decide_eq_true rfl,decide_eq_false (by grind)];rfl
 ·have:=top _ (h.lt w hw) z
  rw[decide_eq_false z,decide_eq_true (by grind)];rfl
theorem JI{row:List Rat}(h:gz xs row fl)(hm:bG xs=row.getD c 0)(hw:w<xs.length):(aZ xs).getD w 0=row.getD (fl w) 0+(1-row.getD c 0):=by
 unfold aZ;rw[wa,wx,wc hw,hm];have ea:=h.at' w hw;rw[wa,wc hw]at ea;have ea:xs[w]=row.getD (fl w) 0:=ea
 show xs[w]+(1-row.getD c 0)=_
 rw[ea]
theorem zq7{row:List Rat}(h:gz xs row fl)(some:∃w,w<xs.length/\fl w=c)(top:∀j,j<row.length->j≠c->row.getD j 0<row.getD c 0)
  (low:∀j,j<row.length->j≠c->(∃w,w<xs.length/\fl w=j)->push a b (bj xs.length fl c).length (row.getD j 0+(1-row.getD c 0))<1) :
  bS a b xs=[bj xs.length fl c]/\gz (cz a b xs) (cX a b (bj xs.length fl c).length row c) fl:=by
 have hm:=rF h some top;have he:=Cf h some top;obtain⟨w0,hw0,hf0⟩:=some
 have hne:bj xs.length fl c≠[]:=λe=>by
  have:w0∈bj xs.length fl c:=vj.mpr ⟨wF.mpr hw0,decide_eq_true hf0⟩;rw[e]at this;cases this
 have hlen:xs.length=(xs.length-1)+1:=by lia
 have hcl:c<row.length:=by rw[<- hf0];exact h.lt w0 hw0
 have nd:=WU (n:=xs.length)
 have hmemL:∀w,w∈aW (wq xs.length) (bj xs.length fl c) ↔ w<xs.length/\fl w≠c:=λw=>by
  unfold aW bj;rw[vj,wF]
  constructor
  ·rintro ⟨h1,h2⟩
   refine⟨h1,λz=>?_⟩;have:w∈(wq xs.length).filter λw=>decide (fl w=c):=vj.mpr ⟨wF.mpr h1,decide_eq_true z⟩
   simp[this]at h2
  ·rintro ⟨h1,h2⟩
   exact⟨h1,by simp[h2]⟩
 have hps:∀w,w<xs.length->fl w≠c->(cc (a^(bj xs.length fl c).length) (aC a b (bj xs.length fl c).length) (aZ xs) (aW (wq xs.length) (bj xs.length fl c))).getD w 0=push a b (bj xs.length fl c).length (row.getD (fl w) 0+(1-row.getD c 0)):=λw hw hf=>by
  rw[iW _ _ _ _ (m8 nd) (λv hv=>by rw[eS];exact((hmemL v).mp hv).1),if_pos ((hmemL w).mpr ⟨hw,hf⟩),JI h hm hw,gY]
 have hend:az (cc (a^(bj xs.length fl c).length) (aC a b (bj xs.length fl c).length) (aZ xs) (aW (wq xs.length) (bj xs.length fl c))) (aW (wq xs.length) (bj xs.length fl c))=[]:=by
  unfold az;rw[Xf];intro w hw;have hw':=(hmemL w).mp hw;rw[hps w hw'.1 hw'.2];have:=low (fl w) (h.lt w hw'.1) hw'.2 ⟨w,hw'.1,rfl⟩;rw[decide_eq_true this]
  decide
 have hR:dD a b xs=([bj xs.length fl c],aW (wq xs.length) (bj xs.length fl c),cc (a^(bj xs.length fl c).length) (aC a b (bj xs.length fl c).length) (aZ xs) (aW (wq xs.length) (bj xs.length fl c))):=by
  unfold dD;generalize hN:b_ a b xs.length (aZ xs) (wq xs.length)=r;rw[show b_ a b xs.length (aZ xs) (wq xs.length)=b_ a b ((xs.length-1)+1) (aZ xs) (wq xs.length) by rw[<- hlen],iO (by rw[he];exact hne),he,lI hend]at hN;exact hN.symm
 refine⟨by unfold bS;rw[hR],λw hw=>?_,λw hw=>by rw[iV];exact h.lt w (by rw[jF]at hw;exact hw)⟩;rw[jF]at hw;have hfw:=h.lt w hw;unfold cz;rw[hR,kM (by rw[gX,eS];exact hw),fo _ _ _ _ _ _ hfw]
 by_cases z:fl w=c
 ·rw[if_neg (λy=>((hmemL w).mp y).2 z),if_pos z]
 ·rw[if_pos ((hmemL w).mpr ⟨hw,z⟩),if_neg z,hps w hw z]
theorem zsa{row:List Rat}(h:gz xs row fl)(some:∃w,w<xs.length/\fl w=c)(top:∀j,j<row.length->j≠c->row.getD j 0<row.getD c 0)
  {w1:Nat} (hw1:w1<xs.length) (hf1:fl w1≠c) (up:¬ push a b (bj xs.length fl c).length (row.getD (fl w1) 0+(1-row.getD c 0))<1):1<(bS a b xs).length:=by
 have hm:=rF h some top;have he:=Cf h some top;obtain⟨w0,hw0,hf0⟩:=some
 have hne:bj xs.length fl c≠[]:=λe=>by
  have:w0∈bj xs.length fl c:=vj.mpr ⟨wF.mpr hw0,decide_eq_true hf0⟩;rw[e]at this;cases this
 have hw01:w0≠w1:=λe=>hf1 (by rw[<- e];exact hf0)
 have hlen:xs.length=(xs.length-2)+1+1:=by lia
 have nd:=WU (n:=xs.length)
 have hmem:w1∈aW (wq xs.length) (bj xs.length fl c):=by
  unfold aW bj;rw[vj,wF];exact⟨hw1,by simp[hf1]⟩
 have hend:az (cc (a^(bj xs.length fl c).length) (aC a b (bj xs.length fl c).length) (aZ xs) (aW (wq xs.length) (bj xs.length fl c))) (aW (wq xs.length) (bj xs.length fl c))≠[]:=λe=>by
  have:w1∈az (cc (a^(bj xs.length fl c).length) (aC a b (bj xs.length fl c).length) (aZ xs) (aW (wq xs.length) (bj xs.length fl c))) (aW (wq xs.length) (bj xs.length fl c)):=by
   unfold az;refine vj.mpr ⟨hmem,?_⟩;rw[iW _ _ _ _ (m8 nd) (λv hv=>by rw[eS];exact wF.mp (vj.mp hv).1),if_pos hmem,JI h hm hw1,<- gY,decide_eq_false up]
   rfl
  rw[e]at this;cases this
 unfold bS dD;rw[show b_ a b xs.length (aZ xs) (wq xs.length)=b_ a b ((xs.length-2)+1+1) (aZ xs) (wq xs.length) by rw[<- hlen],iO (by rw[he];exact hne),he,iO hend]
 show 1<(_::_::_:List (List Nat)).length
 simp
theorem Kf{row:List Rat}(hi:i<=row.length)(hj:j<row.length):(aN a b ns row i).getD j 0∈turned a b ns row i:=by
 have hl:=cS a b ns row i;rw[nP a b ns row i hi];have hm:(aN a b ns row i).getD j 0∈aN a b ns row i:=getD_mem (by lia);generalize (aN a b ns row i).getD j 0=y at hm;have hm2:y∈(aN a b ns row i).take i++(aN a b ns row i).drop i:=by rw[Xm];exact hm
 rcases Ws.mp hm2 with z | z
 ·exact Ws.mpr (.inr z)
 ·exact Ws.mpr (.inl z)
theorem Cc{row:List Rat}(h:gT (turned a b ns row i))(hi:i<row.length)(hj:j<row.length)(hne:j≠i):(aN a b ns row i).getD j 0<(aN a b ns row i).getD i 0:=by
 have hl:=cS a b ns row i;have hpw:=h.pw;rw[nP a b ns row i (by lia),Qe (by lia),QL]at hpw;have hp:=(Vk.mp hpw).1;have e:(aN a b ns row i).getD i 0=(aN a b ns row i)[i]'(by lia):=by rw[wa,wc (by lia)];rfl
 rw[e];refine hp _ ?_;rw[Ws];have ej:(aN a b ns row i).getD j 0=(aN a b ns row i)[j]'(by lia):=by rw[wa,wc (by lia)];rfl
 rw[ej];rcases wB j i with z | z
 ·refine .inr (XA.mpr ⟨j,by rw[Wu];lia,?_⟩)
  rw[uk]
 ·refine .inl (XA.mpr ⟨j-(i+1),by rw[vW];lia,?_⟩)
  rw[ul]
  congr 1
  lia
def cY(a b:Rat)(ns:List Int)(row:List Rat)(i:Nat):Rat:=(aN a b ns row (i+1)).getD ((i+1) % row.length) 0
structure fi(xs row:List Rat)(fl:Nat->Nat)(ns:List Int):Prop where
 pl:gz xs row fl
 sQ:gT row
 one:row.getD 0 0<1
 len:ns.length=row.length
 some:∀c,c<row.length->∃w,w<xs.length/\fl w=c
 size:∀c,c<row.length->(ns.getD c 0).toNat=(bj xs.length fl c).length
theorem pI{a b:Rat}(a0:0<a)(b0:0<=b){xs row:List Rat}{fl:Nat->Nat}{ns:List Int}(h:fi xs row fl ns):∀i,i<=row.length->(∀t,t<i->cY a b ns row t<1)->gz (ai a b xs i) (aN a b ns row i) fl/\gT (turned a b ns row i)/\(i<row.length->(aN a b ns row i).getD i 0<1) /\ ∀t,t<i->bS a b (ai a b xs t)=[bj xs.length fl t]
 | 0,_,_=>⟨h.pl,h.sQ,λ_=>h.one,λt ht=>by lia⟩
 | i+1,hi,ht=>by
  obtain⟨P,F,o,W⟩:=pI a0 b0 h i (by lia) (λt ht'=>ht t (by lia));have hl:=cS a b ns row i;have hpl:=a_ a b xs i;have hi':i<row.length:=by lia
  have oi:=o hi';have ti:=ht i (by lia)
  have hne:turned a b ns row i≠[]:=λe=>by
   have:=A8 a b ns row (by lia) i;rw[e]at this;simp at this;lia
  obtain⟨x,l,ex⟩:∃x l,turned a b ns row i=x::l:=by
   cases e:turned a b ns row i with
   | nil=>exact absurd e hne
   | cons x l=>exact⟨x,l,rfl⟩
  have hx:x=(aN a b ns row i).getD i 0:=by
   have:=Fo a b ns row hi';rw[ex]at this;exact this
  have F1:gT (turned a b ns row (i+1)):=by
   show gT (mi a b (ns.getD i 0).toNat (turned a b ns row i))
   rw[ex]at F ⊢;exact F.step a0 b0 (by rw[hx];exact oi)
  have hsz:(ns.getD i 0).toNat=(bj (ai a b xs i).length fl i).length:=by rw[hpl];exact h.size i hi'
  have hrow:aN a b ns row (i+1)=cX a b (bj (ai a b xs i).length fl i).length (aN a b ns row i) i:=by rw[<- hsz];rfl
  have headTop:(turned a b ns row (i+1)).headD 0=cY a b ns row i:=by
   unfold cY;rcases wB (i+1) row.length with z | z
   ·rw[Fo a b ns row z,QM z]
   ·have e:i+1=row.length:=by lia
    rw[e,Nat.mod_self,nP a b ns row _ (wo _)];have hl1:=cS a b ns row row.length;rw[Xd (by lia),W5 (by lia),Qf];cases e2:aN a b ns row row.length with
    | nil=>rw[e2]at hl1;simp at hl1;lia
    | cons y m=>rfl
  have below:∀y∈turned a b ns row (i+1),y<1:=λy hy=>by
   have hpw:=F1.pw;cases e2:turned a b ns row (i+1)with
   | nil=>rw[e2]at hy;cases hy
   | cons z m =>
    rw[e2]at hy hpw headTop
    have hz:z<1:=by
     have:z=cY a b ns row i:=headTop;rw[this];exact ti
    rcases wK.mp hy with rfl | hy
    ·exact hz
    ·have:=(Vk.mp hpw).1 y hy
     have:y<z:=this
     grind
  have G:=zq7 (a:=a) (b:=b) (c:=i) P (by obtain⟨w,h1,h2⟩:=h.some i hi';exact⟨w,by lia,h2⟩) (λj hj hji=>Cc F hi' (by lia) hji) (λj hj hji _=>by
   have hm:=Kf (a:=a) (b:=b) (ns:=ns) (row:=row) (i:=i+1) (j:=j) hi (by lia);have:=below _ hm;rw[hrow,fo _ _ _ _ _ _ hj,if_neg hji]at this;exact this)
  refine⟨by rw[hrow];exact G.2,F1,λhlt=>?_,λt ht'=>?_⟩
  ·have:=below _ (Kf (a:=a) (b:=b) (ns:=ns) (row:=row) (i:=i+1) (j:=i+1) hi hlt)
   exact this
  ·rcases wB t i with z | z
   ·exact W t z
   ·have:t=i:=by lia
    subst this;have:=G.1;rw[hpl]at this;exact this
def fQ(xs:List Rat)(v:Rat):List Nat:=(wq xs.length).filter λw=>decide (xs.getD w 0=v)
def jc:Nat->List Rat->List Rat
 | 0,_=>[]
 | _+1,[]=>[]
 | n+1,x::l=>bG (x::l)::jc n ((x::l).filter λy=>!decide (y=bG (x::l)))
def ag(xs:List Rat):List Rat:=jc xs.length xs
theorem DE(n:Nat):jc n []=[]:=by cases n<;>rfl
theorem mR(h:l≠[]):jc (n+1) l=bG l::jc n (l.filter λy=>!decide (y=bG l)):=by
 cases l with
 | nil=>exact absurd rfl h
 | cons x l=>rfl
theorem LY(h:l≠[]):(l.filter λy=>!decide (y=bG l)).length<l.length:=by
 have hm:bG l∈l:=gH (VB.mpr h);rcases wB (l.filter λy=>!decide (y=bG l)).length l.length with z | z
 ·exact z
 ·have:=List.length_filter_eq_length_iff.mp (Uj (Wk _ _) z) (bG l) hm
  simp at this
theorem DO:∀(n:Nat)(l:List Rat),∀y∈jc n l,y∈l
 | 0,l,y,h=>by cases h
 | n+1,[],y,h=>by cases h
 | n+1,x::l,y,h=>by
  rw[mR (by simp)]at h;rcases wK.mp h with rfl | h
  ·exact gH (by simp)
  ·exact(vj.mp (DO n _ y h)).1
theorem iM:∀(n:Nat)(l:List Rat),(jc n l).Pairwise (· > ·)
 | 0,l=>xr.nil
 | n+1,[]=>xr.nil
 | n+1,x::l=>by
  rw[mR (by simp)];refine Vk.mpr ⟨λy hy=>?_,iM n _⟩;have hf:=vj.mp (DO n _ y hy);have h1:=Fs y hf.1;have h2:¬ y=bG (x::l):=by simpa using hf.2
  show y<bG (x::l)
  exact Qp h1 h2
theorem MD:∀(n:Nat)(l:List Rat),l.length<=n->∀y∈l,y∈jc n l
 | 0,l,h,y,hy=>by
  have:l=[]:=Qz.mp (by lia);rw[this]at hy;cases hy
 | n+1,[],h,y,hy=>by cases hy
 | n+1,x::l,h,y,hy=>by
  rw[mR (by simp)]
  by_cases z:y=bG (x::l)
  ·rw[z];exact wD ..
  ·have hl:=LY (l:=x::l) (by simp)
   refine wA _ (MD n _ (by lia) y (vj.mpr ⟨hy,by simp[z]⟩))
def aK(xs:List Rat)(w:Nat):Nat:=(ag xs).idxOf (xs.getD w 0)
theorem rK(h:y∈xs):y∈ag xs:=MD _ _ (wo _) y h
theorem iI(h:y∈ag xs):y∈xs:=DO _ _ y h
theorem kA(xs:List Rat):gz xs (ag xs) (aK xs):=by
 have key:∀w,w<xs.length->aK xs w<(ag xs).length:=λw hw=>List.idxOf_lt_length_of_mem (rK (getD_mem hw))
 refine⟨λw hw=>?_,key⟩;rw[wa (l:=ag xs),wc (key w hw)];exact(List.getElem_idxOf (key w hw)).symm
theorem Dx(hw:w<xs.length)(hc:c<(ag xs).length):aK xs w=c ↔ xs.getD w 0=(ag xs).getD c 0:=by
 have P:=kA xs;have e:=P.at' w hw;have hl:=P.lt w hw
 constructor
 ·rintro rfl;exact e
 ·intro h
  rw[e]at h;rcases W1 (aK xs w) c with z | z | z
  ·have:=(Wq.mp (iM xs.length xs)) (aK xs w) c hl hc z
   rw[wa,wc hl,wa,wc hc]at h;have h:(ag xs)[aK xs w]=(ag xs)[c]:=h;have this:(ag xs)[c]<(ag xs)[aK xs w]:=this;rw[h]at this;exact absurd this (by grind)
  ·exact z
  ·have:=(Wq.mp (iM xs.length xs)) c (aK xs w) hc hl z
   rw[wa,wc hl,wa,wc hc]at h;have h:(ag xs)[aK xs w]=(ag xs)[c]:=h;have this:(ag xs)[aK xs w]<(ag xs)[c]:=this;rw[h]at this;exact absurd this (by grind)
theorem zvU(hc:c<(ag xs).length):bj xs.length (aK xs) c=fQ xs ((ag xs).getD c 0):=by
 unfold bj fQ;refine vH λw hw=>?_
 exact decide_eq_decide.mpr (Dx (wF.mp hw) hc)
def aX(xs:List Rat):List Int:=(ag xs).map λv=>((fQ xs v).length:Int)
theorem Ce(nn:∀x∈xs,0<=x)(lt:∀x∈xs,x<1):fi xs (ag xs) (aK xs) (aX xs) where
 pl:=kA xs
 sQ:=⟨iM _ _,λy hy=>nn y (iI hy)⟩
 one:=by
  rcases wB 0 (ag xs).length with z | z
  ·exact lt _ (iI (getD_mem z))
  ·rw[wa,wQ z];decide
 len:=by unfold aX;rw[wm]
 some:=λc hc=>by
  obtain⟨w,hw,e⟩:=w6 (iI (getD_mem (d:=0) hc));refine⟨w,hw,(Dx hw hc).mpr ?_⟩;rw[wa,wc hw];exact e
 size:=λc hc=>by
  rw[zvU hc];unfold aX;rw[wa,wx,wc hc,wa,wc hc]
  rfl
theorem OF:∀{l m:List Rat},l.Pairwise (· > ·)->m.Pairwise (· > ·)->(∀y,y∈l ↔ y∈m)->l=m
 | [],[],_,_,_=>rfl
 | [],y::m,_,_,h=>by have:=(h y).mpr (wD ..);cases this
 | x::l,[],_,_,h=>by have:=(h x).mp (wD ..);cases this
 | x::l,y::m,hl,hm,h=>by
  have pl:=Vk.mp hl;have pm:=Vk.mp hm
  have e:x=y:=by
   rcases wK.mp ((h x).mp (wD ..))with z | z
   ·exact z
   ·rcases wK.mp ((h y).mpr (wD ..))with z2 | z2
    ·exact z2.symm
    ·have a1:x<y:=pm.1 x z
     have a2:y<x:=pl.1 y z2
     grind
  subst e;rw[OF pl.2 pm.2 λz=>⟨λhz=>?_,λhz=>?_⟩]
  ·rcases wK.mp ((h z).mp (wA _ hz))with e | e
   ·have:z<x:=pl.1 z hz
    rw[e]at this;exact absurd this (by grind)
   ·exact e
  ·rcases wK.mp ((h z).mpr (wA _ hz))with e | e
   ·have:z<x:=pm.1 z hz
    rw[e]at this;exact absurd this (by grind)
   ·exact e
theorem Sr{row:List Rat}(P:gz ys row fl)(F:row.Pairwise (· > ·))(some:∀c,c<row.length->∃w,w<ys.length/\fl w=c):ag ys=row:=by
 refine OF (iM _ _) F λy=>⟨λh=>?_,λh=>?_⟩
 ·obtain⟨w,hw,e⟩:=w6 (iI h)
  have ea:=P.at' w hw;rw[wa,wc hw]at ea;have ea:ys[w]=row.getD (fl w) 0:=ea;rw[<- e,ea];exact getD_mem (P.lt w hw)
 ·obtain⟨c,hc,e⟩:=w6 h
  obtain⟨w,hw,hf⟩:=some c hc;have ea:=P.at' w hw;rw[hf,wa (l:=row),wc hc]at ea;have ea:ys.getD w 0=row[c]:=ea;rw[<- e,<- ea];exact rK (getD_mem hw)
def fm(a b:Rat)(ns:List Int)(row:List Rat):Nat->Rat
 | 0=>0
 | k+1=>fm a b ns row k+(1-(aN a b ns row k).getD k 0)
theorem O9{a b:Rat}(a0:0<a)(b0:0<=b){xs row:List Rat}{fl:Nat->Nat}{ns:List Int}(h:fi xs row fl ns):∀i,i<=row.length->(∀t,t<i->cY a b ns row t<1)->aT a b xs i=fm a b ns row i
 | 0,_,_=>rfl
 | i+1,hi,ht=>by
  have ht':∀t,t<i->cY a b ns row t<1:=λt z=>ht t (by lia)
  obtain⟨P,F,_,_⟩:=pI a0 b0 h i (by lia) ht';have hpl:=a_ a b xs i;have hl:=cS a b ns row i;have hm:=rF (c:=i) P (by obtain⟨w,h1,h2⟩:=h.some i (by lia);exact⟨w,by lia,h2⟩) (λj hj hji=>Cc F (by lia) (by lia) hji);rw[aT,fm,O9 a0 b0 h i (by lia) ht',hm]
theorem JQ(a0:0<a)(b0:0<=b){row:List Rat}(h:fi xs row fl ns){t:Nat}(ht:t<row.length)(free:∀s,s<t->cY a b ns row s<1)(up:¬ cY a b ns row t<1):1<(bS a b (ai a b xs t)).length:=by
 obtain⟨P,F,o,_⟩:=pI a0 b0 h t (by lia) free;have hpl:=a_ a b xs t;have hl:=cS a b ns row t;have hsz:(ns.getD t 0).toNat=(bj (ai a b xs t).length fl t).length:=by rw[hpl];exact h.size t ht
 have hrow:aN a b ns row (t+1)=cX a b (bj (ai a b xs t).length fl t).length (aN a b ns row t) t:=by rw[<- hsz];rfl
 have hj:(t+1) % row.length<row.length:=Qw _ (by lia)
 have hne:(t+1) % row.length≠t:=λe=>by
  apply up
  unfold cY;rw[hrow,e,fo _ _ _ _ _ _ (by lia),if_pos rfl]
  decide
 obtain⟨w1,hw1,hf1⟩:=h.some _ hj;refine zsa (c:=t) P (by obtain⟨w,h1,h2⟩:=h.some t ht;exact⟨w,by lia,h2⟩) (λj hj hji=>Cc F ht (by lia) hji) (w1:=w1) (by lia) (by rw[hf1];exact hne) ?_;intro z
 apply up
 unfold cY;rw[hrow,fo _ _ _ _ _ _ (by lia),if_neg hne,<- hf1];exact z
theorem oZ{a b:Rat}(a0:0<a)(b0:0<=b):∀n:Nat,0<=aC a b n
 | 0=>WZ
 | n+1=>by
  have h1:=oZ a0 b0 n;have h2:=Qx (vX a0) h1
  show 0<=a*aC a b n+b
  grind
theorem BN{a b:Rat}(a0:0<a)(b0:0<=b):∀(n:Nat)(ps:List Rat)(left:List Nat),left.length<=n->left.Nodup->(∀w∈left,w<ps.length)->(∀w∈left,0<=ps.getD w 0) ->
  ∀w∈(b_ a b n ps left).2.1,w∈left/\0<=(b_ a b n ps left).2.2.getD w 0/\(b_ a b n ps left).2.2.getD w 0<1
 | 0,ps,left,hn,_,_,_=>by
  have:left=[]:=Qz.mp (by lia);subst this;intro w hw;cases (show w∈([]:List Nat)from hw)
 | n+1,ps,left,hn,nd,hlt,nn=>by
  by_cases e:az ps left=[]
  ·rw[lI e]
   intro w hw;have hw:w∈left:=hw;refine⟨hw,nn w hw,?_⟩;have:¬ w∈az ps left:=by rw[e];simp
   unfold az at this;rw[vj]at this
   show ps.getD w 0<1
   by_cases z:ps.getD w 0<1
   ·exact z
   ·exact absurd ⟨hw,by simp only[z,decide_false,Q4]⟩ this
  ·rw[iO e]
   have hl:=As ps left;have hp:=VB.mpr e;have nd':(aW left (az ps left)).Nodup:=m8 nd;have lt':∀w∈aW left (az ps left),w<(cc (a^(az ps left).length) (aC a b (az ps left).length) ps (aW left (az ps left))).length:=λw hw=>by rw[gX];exact nJ hlt w hw
   have ih:=BN a0 b0 n (cc (a^(az ps left).length) (aC a b (az ps left).length) ps (aW left (az ps left))) (aW left (az ps left)) (by lia) nd' lt' (λw hw=>by
    rw[iW _ _ _ _ nd' (nJ hlt),if_pos hw];have h1:=nn w (vj.mp hw).1;have h2:=Qx (vX (o_ a0 (az ps left).length)) h1;have h3:=oZ a0 b0 (az ps left).length
    grind)
   intro w hw;have:=ih w hw;exact⟨(vj.mp this.1).1,this.2⟩
theorem R5(nn:∀x∈xs,0<=x)(lt:∀x∈xs,x<1)(hw:w<xs.length):0<=(aZ xs).getD w 0:=by
 have h1:=gH (xs:=xs) (by lia);have h2:=lt _ h1;have h3:=nn _ (getD_mem (d:=0) hw);unfold aZ;rw[oJ hw]
 grind
theorem R9(a0:0<a)(b0:0<=b)(nn:∀x∈xs,0<=x)(lt:∀x∈xs,x<1):∀y∈cz a b xs,0<=y/\y<1:=λy hy=>by
 obtain⟨j,hj,e⟩:=w6 hy;have hlen:=jF a b xs;have hjx:j<xs.length:=by lia
 have hpl:(dD a b xs).2.2.length=xs.length:=by
  unfold dD;rw[rN,eS]
 have e2:(cz a b xs).getD j 0=y:=by rw[wa,wc hj];exact e
 unfold cz at e2;rw[kM (by lia)]at e2
 split at e2
 ·rename_i hm
  have:=BN a0 b0 xs.length (aZ xs) (wq xs.length) (by simp) WU (λw hw=>by rw[eS];exact wF.mp hw) (λw hw=>R5 nn lt (wF.mp hw)) j hm;rw[<- e2];exact this.2
 ·rw[<- e2];exact⟨WZ,by decide⟩
theorem zqW(a0:0<a)(b0:0<=b)(h1:1<=xs.length)(nn:∀x∈xs,0<=x)(lt:∀x∈xs,x<1):0∈cz a b xs:=by
 obtain⟨j,hj,e⟩:=w6 (gH h1)
 have hr:(aZ xs).getD j 0=1:=by
  unfold aZ;rw[oJ hj,wa,wc hj]
  show xs[j]+(1-bG xs)=1
  rw[e];grind
 have hend:j∈az (aZ xs) (wq xs.length):=by
  unfold az;rw[vj];refine⟨wF.mpr hj,?_⟩;rw[hr];decide
 have hne:az (aZ xs) (wq xs.length)≠[]:=λz=>by rw[z]at hend;cases hend
 have hpl:(dD a b xs).2.2.length=xs.length:=by
  unfold dD;rw[rN,eS]
 have hnot:¬ j∈(dD a b xs).2.1:=λz=>by
  unfold dD at z;obtain⟨n,hn⟩:∃n,xs.length=n+1:=⟨xs.length-1,by lia⟩;have hl:=As (aZ xs) (wq xs.length);rw[ve]at hl;have hp:=VB.mpr hne;have z':j∈(b_ a b (n+1) (aZ xs) (wq xs.length)).2.1:=by rw[<- hn];exact z
  rw[iO hne]at z';have nd':(aW (wq xs.length) (az (aZ xs) (wq xs.length))).Nodup:=m8 WU;have ltr:∀w∈wq xs.length,w<(aZ xs).length:=λw hw=>by rw[eS];exact wF.mp hw
  have:=BN a0 b0 n _ _ (by lia) nd' (λw hw=>by rw[gX];exact nJ ltr w hw) (λw hw=>by
   rw[iW _ _ _ _ nd' (nJ ltr),if_pos hw];have h1:=R5 nn lt (wF.mp (vj.mp hw).1);have h2:=Qx (vX (o_ a0 (az (aZ xs) (wq xs.length)).length)) h1;have h3:=oZ a0 b0 (az (aZ xs) (wq xs.length)).length
   grind) j z'
  have:=(vj.mp this.1).2;simp only[hend,decide_true,WK]at this;cases this
 have hlen:=jF a b xs
 have hg:(cz a b xs).getD j 0=0:=by
  unfold cz;rw[kM (by lia),if_neg hnot]
 rw[<- hg];exact getD_mem (by lia)
structure cn(xs:List Rat):Prop where
 nn:∀x∈xs,0<=x
 lt:∀x∈xs,x<1
theorem cn.mH(a0:0<a)(b0:0<=b)(h:cn xs):cn (cz a b xs):=⟨λy hy=>(R9 a0 b0 h.nn h.lt y hy).1,λy hy=>(R9 a0 b0 h.nn h.lt y hy).2⟩
theorem cn.at{a b:Rat}(a0:0<a)(b0:0<=b){xs:List Rat}(h:cn xs):∀k,cn (ai a b xs k)
 | 0=>h
 | k+1=>(cn.at a0 b0 h k).mH a0 b0
theorem cn.zero(a0:0<a)(b0:0<=b)(h:cn xs)(h1:1<=xs.length){k:Nat}(hk:1<=k):0∈ai a b xs k:=by
 obtain⟨j,rfl⟩:∃j,k=j+1:=⟨k-1,by lia⟩;have:=h.at a0 b0 j;exact zqW a0 b0 (by rw[a_];exact h1) this.nn this.lt
theorem FE(h:cn xs)(h0:0∈xs):(ag xs).dropLast++[0]=ag xs:=by
 have hm:=rK h0;have hne:ag xs≠[]:=λe=>by rw[e]at hm;cases hm
 have hpw:(ag xs).Pairwise (· > ·):=iM _ _
 have hl:(ag xs).getLast hne=0:=by
  have h1:=h.nn _ (iI (List.getLast_mem hne))
  have h2:(ag xs).getLast hne<=0:=by
   have e:=Q5 hne;rw[<- e]at hm hpw;rcases Ws.mp hm with z | z
   ·have:=(qO.mp hpw).2.2 0 z _ (vi.mpr rfl)
    exact vX this
   ·rw[<- vi.mp z];exact WZ
  grind
 have:=Q5 hne;rw[hl]at this;exact this
theorem ly(h1:1<=xs.length):1<=(ag xs).length:=by
 have:=rK (getD_mem (d:=0) (show 0<xs.length by lia));exact VG this
theorem yF(xs:List Rat):(aX xs).length=(ag xs).length:=by unfold aX;rw[wm]
theorem zq(xs:List Rat):∀n∈aX xs,0<=n:=λn hn=>by
 obtain⟨v,_,rfl⟩:=wU.mp hn
 lia
theorem J9{α : Type}(g h : α -> Nat):∀l:List α,(l.map λv=>g v+h v).sum=(l.map g).sum+(l.map h).sum
 | []=>rfl
 | x::l=>by
  simp only[wV,Vx,J9 g h l]
  lia
theorem RY(x:Rat):∀vs:List Rat,vs.Nodup->(vs.map λv=>if x=v then 1 else 0).sum<=1
 | [],_=>by simp
 | v::vs,nd=>by
  have⟨h1,h2⟩:=W2.mp nd;rw[wV,Vx]
  by_cases e:x=v
  ·have z:(vs.map λv=>if x=v then 1 else 0).sum=0:=by
    have:∀ws:List Rat,(∀y∈ws,x≠y)->(ws.map λv=>if x=v then 1 else 0).sum=0:=by
     intro ws
     induction ws with
     | nil=>intro _;rfl
     | cons y ws ih =>
      intro hy;rw[wV,Vx,if_neg (hy y (wD ..)),ih λz hz=>hy z (wA _ hz)]
    exact this vs λy hy z=>h1 (by rw[<- e,z];exact hy)
   rw[z,if_pos e]
   lia
  ·have:=RY x vs h2
   rw[if_neg e];lia
theorem RE(f:Nat->Rat)(vs:List Rat)(nd:vs.Nodup):∀l:List Nat,(vs.map λv=>(l.filter λw=>decide (f w=v)).length).sum<=l.length
 | []=>by
  have:∀ws:List Rat,(ws.map λv=>(([]:List Nat).filter λw=>decide (f w=v)).length).sum=0:=by
   intro ws
   induction ws with
   | nil=>rfl
   | cons y ws ih=>rw[wV,Vx,ih];rfl
  rw[this];exact wo _
 | w::l=>by
  have ih:=RE f vs nd l
  have e:(vs.map λv=>((w::l).filter λw=>decide (f w=v)).length)=vs.map λv=>(if f w=v then 1 else 0)+(l.filter λw=>decide (f w=v)).length:=by
   refine qp λv _=>?_
   rw[WT]
   by_cases z:f w=v
   ·rw[if_pos (by simp[z]),if_pos z,vx];lia
   ·rw[if_neg (by simp[z]),if_neg z];lia
  rw[e,J9,vx];have:=RY (f w) vs nd
  lia
theorem DT(xs:List Rat):(ag xs).Nodup:=(iM xs.length xs).imp λ{x y} h=>by
 have h:y<x:=h;intro e;rw[e]at h;exact absurd h (by grind)
theorem LM(xs:List Rat):((aX xs).map xY).sum<=xs.length:=by
 have:=RE (λw=>xs.getD w 0) (ag xs) (DT xs) (wq xs.length);rw[ve]at this
 have e:(aX xs).map xY=(ag xs).map λv=>((wq xs.length).filter λw=>decide (xs.getD w 0=v)).length:=by
  unfold aX;rw[WD];refine qp λv _=>?_
  show((fQ xs v).length:Int).toNat=_
  rw[wY];rfl
 rw[e];exact this
theorem OQ(xs:List Rat):upTo (aX xs) (aX xs).length<=xs.length:=by
 unfold upTo;rw[Wv];exact LM xs
theorem zsj(xs:List Rat):∀n∈aX xs,0<=n/\n<=xs.length:=λn hn=>by
 obtain⟨v,_,rfl⟩:=wU.mp hn
 have:(fQ xs v).length<=xs.length:=by
  have:=Wk (λw=>decide (xs.getD w 0=v)) (wq xs.length);rw[ve]at this;exact this
 lia
theorem jZ(xs:List Rat):(ag xs).length<=xs.length:=by
 have h:∀(n:Nat)(l:List Rat),(jc n l).length<=n:=by
  intro n
  induction n with
  | zero=>intro l;exact wo _
  | succ n ih =>
   intro l
   by_cases e:l=[]
   ·rw[e,DE];simp
   ·rw[mR e,vx]
    have:=ih (l.filter λy=>!decide (y=bG l))
    lia
 exact h _ _
theorem og(c:Cm m xs)(h:∀y∈ys,y∈xs):Cm m ys:=c.lA λy hy=>.inl (h y hy)
theorem zG(c:Cm m xs):Cm m (ag xs).dropLast:=og c λy hy=>iI (by rw[Xn]at hy;exact List.mem_of_mem_take hy)
theorem J5(a0:0<a)(b0:0<=b)(h:cn xs)(h1:1<=xs.length):1<(bS a b xs).length ↔ ¬ cY a b (aX xs) (ag xs) 0<1:=by
 have L:=Ce h.nn h.lt;have hv:=ly h1
 constructor
 ·intro hw z
  obtain⟨_,_,_,W⟩:=pI a0 b0 L 1 hv (λs hs=>by have:s=0:=(by lia);rw[this];exact z);have:=W 0 (by lia);have this:bS a b xs=[bj xs.length (aK xs) 0]:=this;rw[this]at hw;simp at hw
 ·intro z
  exact JQ a0 b0 L (t:=0) (by lia) (λs hs=>by lia) z
def seg(n:Nat)(fl:Nat->Nat)(s t:Nat):List Nat:=(wq n).filter λw=>decide (s<=fl w)&&decide (fl w<t)
theorem iA{s t:Nat} : w∈seg n fl s t ↔ w<n/\s<=fl w/\fl w<t:=by
 unfold seg;rw[vj,wF,w9,decide_eq_true_eq,decide_eq_true_eq]
theorem LC(n:Nat)(fl:Nat->Nat)(s t:Nat):(seg n fl s t).Nodup:=WU.filter _
theorem zvO{s t u:Nat}(h1:s<=t)(h2:t<=u):(seg n fl s t++seg n fl t u).Perm (seg n fl s u):=by
 have e1:(seg n fl s u).filter (λw=>decide (fl w<t))=seg n fl s t:=by
  unfold seg;rw[VJ];refine vH λw _=>?_
  rw[vL];simp only[w9,decide_eq_true_eq]
  lia
 have e2:(seg n fl s u).filter (λw=>!decide (fl w<t))=seg n fl t u:=by
  unfold seg;rw[VJ];refine vH λw _=>?_
  rw[vL];simp only[w9,Vv,decide_eq_true_eq,decide_eq_false_iff_not]
  lia
 have:=List.filter_append_perm (λw=>decide (fl w<t)) (seg n fl s u);rw[e1,e2]at this;exact this
theorem RH(n:Nat)(fl:Nat->Nat)(s:Nat):seg n fl s s=[]:=by
 unfold seg;rw[Xf];intro w _;simp only[w9,decide_eq_true_eq]
 lia
inductive jn(n:Nat)(fl:Nat->Nat):Nat->List (List Nat)->Nat->Prop
 | nil (t:Nat):jn n fl t [] t
 | cons {t u v:Nat} {ws:List (List Nat)} : t<u->jn n fl u ws v->jn n fl t (seg n fl t u::ws) v
theorem jn.le{t v:Nat}{ws:List (List Nat)}(h:jn n fl t ws v):t<=v:=by
 induction h with
 | nil t=>exact wo t
 | cons h _ ih=>lia
theorem jn.perm{t v:Nat}{ws:List (List Nat)}(h:jn n fl t ws v):ws.flatten.Perm (seg n fl t v):=by
 induction h with
 | nil t=>rw[RH];exact List.Perm.refl _
 | cons h k ih =>
  rw[um];exact(List.Perm.append_left _ ih).trans (zvO (by lia) k.le)
theorem MP(p:Nat->Prop)[DecidablePred p](t:Nat):∀m:Nat,t<=m->(∀c d,t<=c->c<=d->d<m->p d->p c)->∃u,t<=u/\u<=m /\ ∀c,t<=c->c<m->(p c ↔ c<u)
 | 0,h,_=>⟨0,h,wo 0,λc _ hc=>absurd hc (by lia)⟩
 | m+1,h,mono=>by
  rcases wB m t with z | z
  ·exact⟨m+1,h,wo _,λc h1 h2=>absurd h2 (by lia)⟩
  ·by_cases q:p m
   ·exact⟨m+1,h,wo _,λc h1 h2=>⟨λ_=>h2,λ_=>mono c m h1 (by lia) (by lia) q⟩⟩
   ·obtain⟨u,u1,u2,hu⟩:=MP p t m z (λc d h1 h2 h3=>mono c d h1 h2 (by lia))
    refine⟨u,u1,by lia,λc h1 h2=>?_⟩;rcases wB c m with y | y
    ·exact hu c h1 y
    ·have:c=m:=by lia
     subst this;exact⟨λk=>absurd k q,λk=>absurd k (by lia)⟩
theorem oO{row:List Rat}(F:row.Pairwise (· > ·)){d:Nat}(h:c<d)(hd:d<row.length):row.getD d 0<row.getD c 0:=by
 have:=Wq.mp F c d (by lia) hd h;rw[wa,wc hd,wa,wc (by lia)];exact this
theorem zAg{row:List Rat}(F:row.Pairwise (· > ·)){d:Nat}(h:c<=d)(hd:d<row.length):row.getD d 0<=row.getD c 0:=by
 rcases wB c d with z | z
 ·exact vX (oO F z hd)
 ·rw[show c=d by lia];exact WZ
theorem Ni{a b:Rat}(a0:0<a)(b0:0<=b){row:List Rat}{fl:Nat->Nat}{N:Nat}(F:row.Pairwise (· > ·)):∀(n:Nat)(ps:List Rat)(t:Nat)(A B:Rat),t<=row.length->ps.length=N->0<A->(∀w∈seg N fl t row.length,ps.getD w 0=A*row.getD (fl w) 0+B/\0<ps.getD w 0) ->
  ∃(v:Nat)(A' B':Rat),v<=row.length/\0<A'/\jn N fl t (b_ a b n ps (seg N fl t row.length)).1 v/\(b_ a b n ps (seg N fl t row.length)).2.1=seg N fl v row.length /\
   ∀w∈seg N fl v row.length,(b_ a b n ps (seg N fl t row.length)).2.2.getD w 0=A'*row.getD (fl w) 0+B'/\0<A'*row.getD (fl w) 0+B'
 | 0,ps,t,A,B,ht,hl,hA,hw=>⟨t,A,B,ht,hA,.nil t,rfl,λw h=>⟨(hw w h).1,by rw[<- (hw w h).1];exact(hw w h).2⟩⟩
 | n+1,ps,t,A,B,ht,hl,hA,hw=>by
  by_cases e:az ps (seg N fl t row.length)=[]
  ·rw[lI e]
   exact⟨t,A,B,ht,hA,.nil t,rfl,λw h=>⟨(hw w h).1,by rw[<- (hw w h).1];exact(hw w h).2⟩⟩
  ·obtain⟨u,u1,u2,hu⟩:=MP (λc=>¬ A*row.getD c 0+B<1) t row.length ht (λc d h1 h2 h3 hp=>by
    have:=Rat.mul_le_mul_of_nonneg_left (zAg F h2 h3) (vX hA);have hp:¬ A*row.getD d 0+B<1:=hp
    show ¬ A*row.getD c 0+B<1
    grind)
   have eE:az ps (seg N fl t row.length)=seg N fl t u:=by
    unfold az
    have:(seg N fl t row.length).filter (λw=>!decide (ps.getD w 0<1))=(seg N fl t row.length).filter (λw=>decide (fl w<u)):=by
     refine vH λw h=>?_
     have h1:=hw w h;have h2:=iA.mp h;rw[vL,Vv,decide_eq_false_iff_not,decide_eq_true_eq,h1.1];exact hu (fl w) h2.2.1 h2.2.2
    rw[this];unfold seg;rw[VJ];refine vH λw _=>?_
    rw[vL];simp only[w9,decide_eq_true_eq]
    lia
   have eL:aW (seg N fl t row.length) (seg N fl t u)=seg N fl u row.length:=by
    unfold aW
    have:(seg N fl t row.length).filter (λw=>!decide (w∈seg N fl t u))=(seg N fl t row.length).filter (λw=>!decide (fl w<u)):=by
     refine vH λw h=>?_
     have h2:=iA.mp h;rw[vL,Vv,Vv,decide_eq_false_iff_not,decide_eq_false_iff_not,iA]
     constructor
     ·intro k y;exact k ⟨h2.1,h2.2.1,y⟩
     ·intro k y;exact k y.2.2
    rw[this];unfold seg;rw[VJ];refine vH λw _=>?_
    rw[vL];simp only[w9,Vv,decide_eq_true_eq,decide_eq_false_iff_not]
    lia
   have htu:t<u:=by
    rcases wB t u with z | z
    ·exact z
    ·have:u=t:=by lia
     rw[eE,this,RH]at e;exact absurd rfl e
   rw[iO e,eE,eL];have hf:=o_ a0 (seg N fl t u).length;have hg:=oZ a0 b0 (seg N fl t u).length;generalize a^(seg N fl t u).length=f at *;generalize aC a b (seg N fl t u).length=g at *;have hA':0<f*A:=qX hf hA
   obtain⟨v,A',B',hv,hA2,hs,hl2,hw2⟩:=Ni (fl:=fl) (N:=N) a0 b0 F n (cc f g ps (seg N fl u row.length)) u (f*A) (f*B+g) u2 (by rw[gX];exact hl) hA' (λw h=>by
    have hm:=iA.mp h;have h1:=hw w (iA.mpr ⟨hm.1,by lia,hm.2.2⟩);have h3:=qX hf h1.2;rw[iW _ _ _ _ (LC ..) (λw h=>by rw[hl];exact(iA.mp h).1),if_pos h];refine⟨by rw[h1.1];grind,by grind⟩)
   exact⟨v,A',B',hv,hA2,.cons htu hs,hl2,hw2⟩
structure l9(xs ys:List Rat)(waves:List (List Nat))(v:Nat):Prop where
 v1:1<=v
 vm:v<=(ag xs).length
 first:∃ws,waves=seg xs.length (aK xs) 0 1::ws/\jn xs.length (aK xs) 1 ws v
 vals:∃(A B:Rat),0<A/\ag ys=((ag xs).drop v).map (λx=>A*x+B)++[0]/\(∀x∈(ag xs).drop v,0<A*x+B)
 at':gz ys (ag ys) (λw=>if aK xs w<v then(ag xs).length-v else aK xs w-v)
 len:ys.length=xs.length
theorem Sm{v:Nat} : (l.drop v).getD c 0=l.getD (v+c) 0:=by
 rw[wa,xj,wa]
theorem mV(hc:c<(ag xs).length):∃w,w<xs.length/\aK xs w=c:=by
 have hm:(ag xs).getD c 0∈xs:=iI (getD_mem hc);obtain⟨w,hw,e⟩:=w6 hm;refine⟨w,hw,(Dx hw hc).mpr ?_⟩;rw[wa,wc hw];exact e
theorem ze(a0:0<a)(b0:0<=b)(h1:1<=xs.length)(nn:∀x∈xs,0<=x)(lt:∀x∈xs,x<1):∃v,l9 xs (cz a b xs) (bS a b xs) v:=by
 have P:=kA xs;have F:(ag xs).Pairwise (· > ·):=iM xs.length xs;have m1:=ly h1;have top:∀j,j<(ag xs).length->j≠0->(ag xs).getD j 0<(ag xs).getD 0 0:=λj hj h0=>oO F (by lia) hj
 have he:=Cf P (mV m1) top;have hmax:=rF P (mV m1) top;have hmx1:bG xs<1:=lt _ (gH h1)
 have e01:bj xs.length (aK xs) 0=seg xs.length (aK xs) 0 1:=by
  unfold bj seg;refine vH λw _=>?_
  rw[vL];simp only[w9,decide_eq_true_eq]
  lia
 rw[e01]at he
 have hr:wq xs.length=seg xs.length (aK xs) 0 (ag xs).length:=by
  unfold seg
  symm
  rw[XM];intro w hw;have:=P.lt w (wF.mp hw);simp only[w9,decide_eq_true_eq]
  lia
 have hne:az (aZ xs) (wq xs.length)≠[]:=λe=>by
  obtain⟨w,hw,hf⟩:=mV m1;rw[he]at e;have:w∈seg xs.length (aK xs) 0 1:=iA.mpr ⟨hw,by lia,by lia⟩;rw[e]at this;cases this
 obtain⟨n,hn⟩:∃n,xs.length=n+1:=⟨xs.length-1,by lia⟩
 have eL:aW (wq xs.length) (seg xs.length (aK xs) 0 1)=seg xs.length (aK xs) 1 (ag xs).length:=by
  unfold aW seg;refine vH λw hw=>?_
  have h2:=P.lt w (wF.mp hw);rw[vL,Vv,decide_eq_false_iff_not]
  have:w∈(wq xs.length).filter (λw=>decide (0<=aK xs w)&&decide (aK xs w<1)) ↔ aK xs w<1:=by
   rw[vj,w9,decide_eq_true_eq,decide_eq_true_eq];exact⟨λh=>h.2.2,λh=>⟨hw,by lia,h⟩⟩
  rw[this];simp only[w9,decide_eq_true_eq]
  lia
 have hf:=o_ a0 (seg xs.length (aK xs) 0 1).length;have hg:=oZ a0 b0 (seg xs.length (aK xs) 0 1).length
 have eR:dD a b xs=(seg xs.length (aK xs) 0 1::(b_ a b n (cc (a^(seg xs.length (aK xs) 0 1).length) (aC a b (seg xs.length (aK xs) 0 1).length) (aZ xs) (seg xs.length (aK xs) 1 (ag xs).length)) (seg xs.length (aK xs) 1 (ag xs).length)).1,(b_ a b n (cc (a^(seg xs.length (aK xs) 0 1).length) (aC a b (seg xs.length (aK xs) 0 1).length) (aZ xs) (seg xs.length (aK xs) 1 (ag xs).length)) (seg xs.length (aK xs) 1 (ag xs).length)).2):=by
  unfold dD;have e:b_ a b xs.length (aZ xs) (wq xs.length)=b_ a b (n+1) (aZ xs) (wq xs.length):=by rw[<- hn]
  rw[e,iO hne,he,eL]
 generalize a^(seg xs.length (aK xs) 0 1).length=f at *;generalize aC a b (seg xs.length (aK xs) 0 1).length=g at *
 obtain⟨v,A,B,hv,hA,hs,hl2,hw2⟩:=Ni (fl:=aK xs) (N:=xs.length) a0 b0 F n (cc f g (aZ xs) (seg xs.length (aK xs) 1 (ag xs).length)) 1 f (f*(1-bG xs)+g) m1 (by rw[gX,eS]) hf (λw h=>by
  have hm:=iA.mp h;rw[iW _ _ _ _ (LC ..) (λw h=>by rw[eS];exact(iA.mp h).1),if_pos h]
  have e:(aZ xs).getD w 0=(ag xs).getD (aK xs w) 0+(1-bG xs):=by
   unfold aZ;rw[oJ hm.1,P.at' w hm.1]
  have hx:=nn _ (getD_mem (d:=0) hm.1);rw[P.at' w hm.1]at hx;have h3:=qX hf (show 0<(ag xs).getD (aK xs w) 0+(1-bG xs) by grind);rw[e];exact⟨by grind,by grind⟩)
 have v1:=hs.le
 have ePh:∀w,w<xs.length->(cz a b xs).getD w 0=if aK xs w<v then 0 else A*(ag xs).getD (aK xs w) 0+B:=λw hw=>by
  have hpl:(dD a b xs).2.2.length=xs.length:=by unfold dD;rw[rN,eS]
  unfold cz;rw[kM (by lia),eR]
  show(if w∈(b_ a b n _ _).2.1 then _ else _)=_
  rw[hl2]
  by_cases z:aK xs w<v
  ·rw[if_neg (λh=>by have:=(iA.mp h).2.1;lia),if_pos z]
  ·have hmem:w∈seg xs.length (aK xs) v (ag xs).length:=iA.mpr ⟨hw,by lia,P.lt w hw⟩
   rw[if_pos hmem,if_neg z];exact(hw2 w hmem).1
 have posd:∀x∈(ag xs).drop v,0<A*x+B:=λx hx=>by
  obtain⟨c,hc,e⟩:=w6 hx;rw[vW]at hc;obtain⟨w,hw,hfw⟩:=mV (xs:=xs) (c:=v+c) (by lia);have:=(hw2 w (iA.mpr ⟨hw,by lia,P.lt w hw⟩)).2;rw[hfw,<- Sm,wa,wc (by rw[vW];lia)]at this;rw[<- e];exact this
 have rlen:(((ag xs).drop v).map (λx=>A*x+B)++[0]).length=(ag xs).length-v+1:=by simp
 have rget:∀c,c<(ag xs).length-v->(((ag xs).drop v).map (λx=>A*x+B)++[0]).getD c 0=A*(ag xs).getD (v+c) 0+B:=λc hc=>by
  rw[wa,Wc (by simp;lia),<- wa,oJ (by rw[vW];lia),Sm]
 have rlast:(((ag xs).drop v).map (λx=>A*x+B)++[0]).getD ((ag xs).length-v) 0=0:=by
  rw[wa,vK (by simp)];simp
 have P2:gz (cz a b xs) (((ag xs).drop v).map (λx=>A*x+B)++[0]) (λw=>if aK xs w<v then(ag xs).length-v else aK xs w-v):=by
  refine⟨λw hw=>?_,λw hw=>?_⟩
  ·rw[jF]at hw
   rw[ePh w hw];have:=P.lt w hw
   by_cases z:aK xs w<v
   ·simp only[z,if_true]
    exact rlast.symm
   ·simp only[z,if_false]
    rw[rget _ (by lia),show v+(aK xs w-v)=aK xs w by lia]
  ·rw[jF]at hw
   have:=P.lt w hw;rw[rlen]
   show(if aK xs w<v then _ else _)<_
   split<;>lia
 have F2:(((ag xs).drop v).map (λx=>A*x+B)++[0]).Pairwise (· > ·):=by
  rw[qO];refine⟨?_,xR _ _,λx hx y hy=>?_⟩
  ·rw[V3]
   refine(U2 F).imp λ{x y} h=>?_
   have:=xv (show y<x from h) hA
   show A*y+B<A*x+B
   grind
  ·obtain⟨z,hz,rfl⟩:=wU.mp hx
   rw[vi.mp hy];exact posd z hz
 have eV:ag (cz a b xs)=((ag xs).drop v).map (λx=>A*x+B)++[0]:=Sr P2 F2 λc hc=>by
  rw[rlen]at hc;rcases wB c ((ag xs).length-v)with z | z
  ·obtain⟨w,hw,hfw⟩:=mV (xs:=xs) (c:=v+c) (by lia)
   refine⟨w,by rw[jF];exact hw,?_⟩
   show(if aK xs w<v then _ else _)=_
   rw[hfw,if_neg (by lia)]
   lia
  ·obtain⟨w,hw,hfw⟩:=mV m1
   refine⟨w,by rw[jF];exact hw,?_⟩
   show(if aK xs w<v then _ else _)=_
   rw[hfw,if_pos (by lia)]
   lia
 refine⟨v,v1,hv,⟨_,by unfold bS;rw[eR],hs⟩,⟨A,B,hA,eV,posd⟩,by rw[eV];exact P2,jF ..⟩
def kD(xs:List Rat):List (List Nat):=(ag xs).map (fQ xs)
theorem h9(xs:List Rat):(kD xs).length=(ag xs).length:=wm ..
theorem J0{row:List Rat}(P:gz ys row fl)(F:row.Pairwise (· > ·))(hc:c<row.length):fQ ys (row.getD c 0)=bj ys.length fl c:=by
 unfold fQ bj;refine vH λw hw=>?_
 have hw:=wF.mp hw;rw[vL,decide_eq_true_eq,decide_eq_true_eq,P.at' w hw]
 constructor
 ·intro h
  rcases W1 (fl w) c with z | z | z
  ·have:=oO F z hc;rw[h]at this;exact absurd this (by grind)
  ·exact z
  ·have:=oO F z (P.lt w hw);rw[h]at this;exact absurd this (by grind)
 ·rintro rfl;rfl
theorem Zk(hc:c<(ag xs).length):(kD xs).getD c []=seg xs.length (aK xs) c (c+1):=by
 have h:=J0 (kA xs) (iM xs.length xs) hc;unfold kD;rw[wa,wx,wc hc]
 show fQ xs (ag xs)[c]=_
 rw[wa,wc hc]at h;have h:fQ xs (ag xs)[c]=_:=h;rw[h];unfold bj seg;refine vH λw _=>?_
 rw[vL];simp only[w9,decide_eq_true_eq]
 lia
theorem l9.new{waves:List (List Nat)}{v:Nat}(J:l9 xs ys waves v):kD ys=(kD xs).drop v++[seg xs.length (aK xs) 0 v]:=by
 obtain⟨A,B,hA,eV,pos⟩:=J.vals;have F2:(ag ys).Pairwise (· > ·):=iM ys.length ys;have hlen:(ag ys).length=(ag xs).length-v+1:=by rw[eV];simp
 have v1:=J.v1;have vm:=J.vm;refine WV (by rw[h9,hlen,wT,vW,h9];rfl) λc h1 h2=>?_
 rw[h9,hlen]at h1
 have e1:(kD ys)[c]'(by rw[h9];lia)=bj xs.length (λw=>if aK xs w<v then(ag xs).length-v else aK xs w-v) c:=by
  have:=J0 J.at' F2 (c:=c) (by lia);rw[J.len]at this;rw[<- this];unfold kD;rw[Vc,wa,wc (by lia)]
  rfl
 rw[e1];rcases wB c ((ag xs).length-v)with z | z
 ·rw[List.getElem_append_left (by rw[vW,h9];lia),ul]
  have hg:=Zk (xs:=xs) (c:=v+c) (by lia);rw[wa,wc (by rw[h9];lia)]at hg;have hg:(kD xs)[v+c]'(by rw[h9];lia)=_:=hg;rw[hg];unfold bj seg;refine vH λw hw=>?_
  have:=(kA xs).lt w (wF.mp hw);rw[vL];simp only[w9,decide_eq_true_eq]
  split<;>lia
 ·rw[List.getElem_append_right (by rw[vW,h9];lia)]
  have hc:c=(ag xs).length-v:=by lia
  simp only[List.getElem_singleton];unfold bj seg;refine vH λw hw=>?_
  have:=(kA xs).lt w (wF.mp hw);rw[vL];simp only[w9,decide_eq_true_eq]
  split<;>lia
theorem l9.perm{waves:List (List Nat)}{v:Nat}(J:l9 xs ys waves v):waves.flatten.Perm (seg xs.length (aK xs) 0 v):=by
 obtain⟨ws,e,s⟩:=J.first;rw[e];exact(jn.cons (by decide) s).perm
theorem l9.more{waves:List (List Nat)}{v:Nat}(J:l9 xs ys waves v):1<waves.length ↔ 1<v:=by
 obtain⟨ws,e,s⟩:=J.first;rw[e];cases s with
 | nil=>simp
 | cons h k=>have:=k.le;simp;lia
theorem Fw(F s:Rat):∀n:Nat,aC F s n=aC F 1 n*s
 | 0=>by show(0:Rat)=0*s;rw[Rat.zero_mul]
 | n+1=>by
  show F*aC F s n+s=(F*aC F 1 n+1)*s
  rw[Fw F s n]
  grind
theorem Ai{k:Nat}{F:Rat}(h:af k F):∀i:Nat,∃T:Int,aC F 1 i=wy T ((F.den:Int)^i)/\Bd ((k+1)*i+1) T/\Bd (k*i+1) ((F.den:Int)^i)
 | 0=>⟨0,by simp[aC],⟨by simp⟩,⟨by simp⟩⟩
 | i+1=>by
  obtain⟨T,e,bT,bd⟩:=Ai h i;have hd:(F.den:Int)^i≠0:=qx (fh F);have hd1:(F.den:Int)^(i+1)≠0:=qx (fh F);have ed:(F.den:Int)^(i+1)=(F.den:Int)^i*(F.den:Int):=QW ..
  have bd1:Bd (k*(i+1)+1) ((F.den:Int)^(i+1)):=by
   rw[ed];exact(bd.mul h.b).mono (by rw[Qn];lia)
  refine⟨F.num*T+(F.den:Int)^(i+1),?_,?_,bd1⟩
  ·symm
   refine fk hd1 ?_
   show(F*aC F 1 i+1)*_=_
   rw[e];have k1:=bY T hd;have k2:=iQ F
   have e1:((F.num*T+(F.den:Int)^(i+1):Int):Rat)=(F.num:Rat)*(T:Rat)+(((F.den:Int)^(i+1):Int):Rat):=by
    rw[Qd,Wj]
   rw[e1,<- k1,<- k2,ed,Wj];generalize (((F.den:Int)^i:Int):Rat)=D;generalize ((F.den:Int):Rat)=d;generalize wy T ((F.den:Int)^i)=y
   grind
  ·have h1:(k+1)*(i+1)=(k+1)*i+(k+1):=Qn ..
   have h2:k*(i+1)<=(k+1)*i+k:=by rw[Qn];have:=Wr i (show k<=k+1 by lia);lia
   exact((h.t.mul bT).add bd1).mono (by lia)
theorem MZ{k:Nat}{F:Rat}(h:af k F)(i:Nat):af ((k+1)*i+1) (aC F 1 i):=by
 obtain⟨T,e,bT,bd⟩:=Ai h i;rw[e];exact af.divInt (qx (fh F)) bT (bd.mono (by have:=Wr i (show k<=k+1 by lia);lia))
def fj(F s:Rat)(n:Nat)(x:Rat):Rat:=F^n*x+aC F 1 n*s
theorem rZ(F s:Rat)(n:Nat)(x:Rat):fj F s n x=push F s n x:=by
 unfold fj;rw[gY,<- Fw]
theorem zxX(F s:Rat)(m n:Nat)(x:Rat):fj F s (m+n) x=fj F s n (fj F s m x):=by
 rw[rZ,rZ,rZ,zyD]
theorem zv4(F s x:Rat):fj F s 0 x=x:=by rw[rZ];rfl
theorem zws(F s x:Rat):fj F s 1 x=F*x+s:=by rw[rZ];rfl
theorem NL{F s r:Rat}(h:r*(1-F)=s):∀k:Nat,aC F s k=r-F^k*r
 | 0=>by rw[Qm,QK];show(0:Rat)=r-r;grind
 | k+1=>by
  show F*aC F s k+s=_
  rw[NL h k,Vs]
  grind
theorem zxA{F s r:Rat}(h:r*(1-F)=s)(n:Nat)(x:Rat):fj F s n x=r+F^n*(x-r):=by
 unfold fj;rw[<- Fw,NL h]
 grind
theorem Cm.YX(c:Cm m (h::xs))(ba:af 10 a)(bb:af 10 b)(n i:Nat):Cm (m+2+21*n) ((h+(1-xs.getD i 0))::cX a b n xs i):=by
 obtain⟨B,h0,h1,h2⟩:=c
 have hz:∃z:Int,xs.getD i 0=wy z B/\Bd m z:=by
  rcases wB i xs.length with q | q
  ·rw[wa,wc q]
   exact h2 _ (wA _ (vY q))
  ·rw[wa,wQ q]
   exact⟨0,by simp,⟨by simp;exact Wt m⟩⟩
 obtain⟨z,ez,hz⟩:=hz;have key:=λ(t:Int)(ht:Bd m t)=>rR ba bb h0 (show Bd (m+2) (t+B-z)from((ht.add h1).sub hz).mono (by lia)) (h1.mono (by lia)) n
 have e2:∀t:Int,wy t B+(1-xs.getD i 0)=wy (t+B-z) B:=λt=>by
  rw[ez]
  symm
  refine fk (by lia) ?_;have q1:=bY t (show B≠0 by lia);have q2:=bY z (show B≠0 by lia);have q3:((t+B-z:Int):Rat)=(t:Rat)+(B:Rat)-(z:Rat):=by push_cast;rfl
  rw[q3,<- q1,<- q2]
  grind
 obtain⟨p1,p2,_⟩:=key 0 ⟨by simp;exact Wt m⟩;refine⟨_,p1,p2,λx hx=>?_⟩;rcases wK.mp hx with rfl | hx
 ·obtain⟨t,et,ht⟩:=h2 h (wD ..)
  have hd:(0:Int)<((a.den:Int)*(b.den:Int))^n:=uH (vV (den_pos a) (den_pos b));refine⟨(t+B-z)*((a.den:Int)*(b.den:Int))^n,?_,Ay ba bb (((ht.add h1).sub hz).mono (by lia)) n⟩;rw[et,e2 t];exact pX h0 hd
 ·have hx':x=0 \/ ∃y∈xs,x=push a b n (y+(1-xs.getD i 0)):=by
   unfold cX at hx;rcases xE hx with q | q
   ·obtain⟨y,hy,rfl⟩:=wU.mp q
    exact .inr ⟨y,hy,rfl⟩
   ·exact .inl q
  rcases hx' with rfl | ⟨y,hy,rfl⟩
  ·exact⟨0,by simp,⟨by simp;exact Wt _⟩⟩
  ·obtain⟨t,rfl,ht⟩:=h2 y (wA _ hy)
   obtain⟨_,_,T,e,hT⟩:=key t ht;rw[e2 t];exact⟨T,e,hT⟩
theorem Cm.Jj{m:Nat}{xs:List Rat}{a b:Rat}{ns:List Int}(c:Cm m xs)(ba:af 10 a)(bb:af 10 b):∀k,k<=ns.length->Cm (m+2*k+21*upTo ns k) (fm a b ns xs k::aN a b ns xs k)
 | 0,_=>(c.mono (by lia)).lA λy hy=>by
  rcases wK.mp hy with rfl | hy
  ·exact .inr rfl
  ·exact .inl hy
 | k+1,hk=>by
  have:=(Cm.Jj c ba bb (ns:=ns) k (by lia)).YX ba bb (ns.getD k 0).toNat k;rw[aN,fm];refine this.mono ?_;rw[oM (by lia)]
  lia
def fq(c:Rat)(xs ys:List Rat):List Rat:=List.zipWith (λx y=>x+c*(y-x)) xs ys
theorem nG{c:Rat}(h:xs.length=ys.length):(fq c xs ys).length=xs.length:=by unfold fq;rw[XN];lia
theorem lZ{c:Rat}(h:xs.length=ys.length)(hi:i<xs.length):(fq c xs ys).getD i 0=xs.getD i 0+c*(ys.getD i 0-xs.getD i 0):=by
 unfold fq;rw[wa,wc (by rw[XN];lia),List.getElem_zipWith,wa,wc hi,wa,wc (by lia)]
 rfl
theorem kB(hl:xs.length=ys.length)(h:∀i,i<xs.length->xs.getD i 0=ys.getD i 0):xs=ys:=WV hl λi h1 h2=>by
 have:=h i h1;rw[wa,wa,wc h1,wc h2]at this;exact this
theorem zyO(a b:Rat)(n:Nat)(c:Rat)(h:xs.length=ys.length)(hi:i<xs.length):cX a b n (fq c xs ys) i=fq c (cX a b n xs i) (cX a b n ys i):=by
 have hl:=nG (c:=c) h;refine kB (by rw[iV,hl,nG (by rw[iV,iV];exact h),iV]) λj hj=>?_
 rw[iV,hl]at hj;have hg:=lZ (c:=c) (xs:=cX a b n xs i) (ys:=cX a b n ys i) (by rw[iV,iV];exact h) (i:=j) (by rw[iV];exact hj);rw[hg,fo _ _ _ _ _ _ (by lia),fo _ _ _ _ _ _ hj,fo _ _ _ _ _ _ (show j<ys.length by lia)]
 by_cases z:j=i
 ·rw[if_pos z,if_pos z,if_pos z];grind
 ·rw[if_neg z,if_neg z,if_neg z,lZ h hj,lZ h hi,gY,gY,gY]
  grind
theorem Nw(a b:Rat)(ns:List Int)(c:Rat){xs ys:List Rat}(h:xs.length=ys.length):∀k,k<=xs.length->aN a b ns (fq c xs ys) k=fq c (aN a b ns xs k) (aN a b ns ys k)
 | 0,_=>rfl
 | k+1,hk=>by
  have ih:=Nw a b ns c h k (by lia);rw[aN,ih,aN,aN];exact zyO a b _ c (by rw[cS,cS];exact h) (by rw[cS];lia)
theorem Sl(a b:Rat)(ns:List Int)(c:Rat){xs ys:List Rat}(h:xs.length=ys.length):∀k,k<=xs.length->fm a b ns (fq c xs ys) k=fm a b ns xs k+c*(fm a b ns ys k-fm a b ns xs k)
 | 0,_=>by show(0:Rat)=0+c*(0-0);grind
 | k+1,hk=>by
  rw[fm,fm,fm,Sl a b ns c h k (by lia),Nw a b ns c h k (by lia),lZ (by rw[cS,cS];exact h) (by rw[cS];lia)]
  grind
theorem zwr(c:Rat)(h:xs.length=ys.length):fq c (xs++[0]) (ys++[0])=fq c xs ys++[0]:=by
 unfold fq;rw[List.zipWith_append h]
 show _++[0+c*(0-0)]=_
 congr 2
 grind
def eY(a b:Rat)(ns:List Int)(xs:List Rat):Rat:=fm a b ns (xs++[0]) ns.length
theorem Zp(c:Rat)(hn:ns.length=xs.length+1)(h:xs.length=ys.length):eY a b ns (fq c xs ys)=eY a b ns xs+c*(eY a b ns ys-eY a b ns xs):=by
 unfold eY;rw[<- zwr c h];exact Sl a b ns c (by simp[h]) _ (by simp;lia)
def sumTo(f:Nat->Rat):Nat->Rat
 | 0=>0
 | n+1=>sumTo f n+f n
theorem sU{f g:Nat->Rat} : ∀n,(∀k,k<n->f k=g k)->sumTo f n=sumTo g n
 | 0,_=>rfl
 | n+1,h=>by rw[sumTo,sumTo,sU n λk hk=>h k (by lia),h n (by lia)]
theorem Fv(c:Rat)(f:Nat->Rat):∀n,sumTo (λk=>c*f k) n=c*sumTo f n
 | 0=>by show(0:Rat)=c*0;grind
 | n+1=>by rw[sumTo,sumTo,Fv c f n];grind
theorem OE(f g:Nat->Rat):∀n,sumTo (λk=>f k+g k) n=sumTo f n+sumTo g n
 | 0=>by show(0:Rat)=0+0;grind
 | n+1=>by rw[sumTo,sumTo,sumTo,OE f g n];grind
theorem JA(F:Rat):∀n,sumTo (λk=>F^k) n=aC F 1 n
 | 0=>rfl
 | n+1=>by
  rw[sumTo,JA F n]
  have:∀m,aC F 1 m*F+1=aC F 1 m+F^m:=λm=>by
   induction m with
   | zero=>rw[Qm];show(0:Rat)*F+1=0+1;grind
   | succ m ih =>
    show(F*aC F 1 m+1)*F+1=(F*aC F 1 m+1)+F^(m+1)
    rw[Vs]
    grind
  have:=this n
  show aC F 1 n+F^n=F*aC F 1 n+1
  grind
theorem RM{a b:Rat}{ns:List Int}{L:Nat}(hn:ns.length=L+1)(X:Nat->List Rat)(hX:∀k,(X k).length=L):∀(n:Nat)(M:List Rat),1<=n->M.length=L->(∀i,i<L->M.getD i 0*((n:Int):Rat)=sumTo (λk=>(X k).getD i 0) n)->((n:Int):Rat)*eY a b ns M=sumTo (λk=>eY a b ns (X k)) n
 | 0,M,h,_,_=>by lia
 | n+1,M,_,hM,hs=>by
  have en:(((n+1:Nat):Int):Rat)=((n:Int):Rat)+1:=by push_cast;rfl
  by_cases z:n=0
  ·subst z
   have e1:(((0+1:Nat):Int):Rat)=1:=by decide
   have:M=X 0:=kB (by rw[hM,hX]) λi hi=>by
    have:=hs i (by lia);rw[e1]at this;have e2:sumTo (λk=>(X k).getD i 0) (0+1)=(X 0).getD i 0:=by rw[sumTo,sumTo];grind
    rw[e2]at this
    grind
   rw[this,e1]
   show 1*eY a b ns (X 0)=0+eY a b ns (X 0)
   grind
  ·have hn0:((n:Int):Rat)≠0:=λe=>z (by have:=Vz.mp e;lia)
   have hn1:((n:Int):Rat)+1≠0:=λe=>by
    rw[<- en]at e;have:=Vz.mp e
    lia
   let M':List Rat:=(wq L).map λi=>sumTo (λk=>(X k).getD i 0) n / ((n:Int):Rat)
   have hl':M'.length=L:=by simp[M']
   have g':∀i,i<L->M'.getD i 0=sumTo (λk=>(X k).getD i 0) n / ((n:Int):Rat):=λi hi=>by
    show((wq L).map λi=>sumTo (λk=>(X k).getD i 0) n / ((n:Int):Rat)).getD i 0=_
    rw[wa,wx,Wm hi];rfl
   have ih:=RM (a:=a) (b:=b) hn X hX n M' (by lia) hl' λi hi=>by rw[g' i hi];exact Vj hn0
   have eM:M=fq (1 / (((n:Int):Rat)+1)) M' (X n):=kB (by rw[hM,nG (by rw[hl',hX]),hl']) λi hi=>by
    rw[lZ (by rw[hl',hX]) (by lia),g' i (by lia)];have h1:=hs i (by lia);rw[en,sumTo]at h1;generalize sumTo (λk=>(X k).getD i 0) n=S at *;generalize (X n).getD i 0=y at *;generalize M.getD i 0=m at *;generalize ((n:Int):Rat)=N at *;have k1:S / N*N=S:=Vj hn0;have k2:1 / (N+1)*(N+1)=1:=Vj hn1;generalize S / N=q at *;generalize 1 / (N+1)=r at *;have:(m-(q+r*(y-q)))*(N+1)=0:=by grind
    rcases xX.mp this with h | h
    ·grind
    ·exact absurd h hn1
   rw[eM,Zp _ (by lia) (by rw[hl',hX]),sumTo,<- ih,en];generalize eY a b ns M'=A;generalize eY a b ns (X n)=B;generalize ((n:Int):Rat)=N at *;have k2:1 / (N+1)*(N+1)=1:=Vj hn1;generalize 1 / (N+1)=r at *
   grind
end GM
namespace L2
open PySem PySem.Spec PyProof.Rows GM
section
variable{K:wb}{H H' H2:Hp}{a p:wg}{xs ys:List V}{o:HO}
theorem aj.upd(h:H p=none):aj H (upd H p o):=λb u e=>by
 rw[dW (km e h)];exact e
theorem aj.kf(s:aj H H')(h:aI K H a xs):aI K H' a xs:=by
 rcases h with(h | ⟨o,h⟩) | h
 ·exact .inl (.inl (s _ _ h))
 ·exact .inl (.inr ⟨o,s _ _ h⟩)
 ·exact .inr h
structure aV(H H':Hp):Prop where
 t:∀b xs,H b=some (.tup xs)->H' b=some (.tup xs)
 f:∀b o u,H b=some (.gn o u)->H' b=some (.gn o u)
theorem aj.keep(s:aj H H'):aV H H':=⟨λb xs h=>s _ _ h,λb o u h=>s _ _ h⟩
theorem aV.refl(H:Hp):aV H H:=(aj.refl H).keep
theorem aV.trans(a:aV H H')(b:aV H' H2):aV H H2:=⟨λc xs h=>b.t _ _ (a.t _ _ h),λc o u h=>b.f _ _ _ (a.f _ _ _ h)⟩
theorem aV.kf(k:aV H H')(h:aI K H a xs):aI K H' a xs:=by
 rcases h with(h | ⟨o,h⟩) | h
 ·exact .inl (.inl (k.t _ _ h))
 ·exact .inl (.inr ⟨o,k.f _ _ _ h⟩)
 ·exact .inr h
def j9(K:wb)(H:Hp)(a:wg)(xs:List V):Prop :=
 (∃o,H a=some (.gn o (.lst xs))) \/
  ∃(o:Obj)(its:Array wf)(n:Nat),K.lookup a=some o/\o.cls=.type "list"/\o.dict=none/\o.data=.seq its n/\its.size<=wZ/\aM xs its.toList
theorem j9.sq(h:j9 K H a xs):aG K H a xs:=by
 rcases h with⟨o,h⟩ | h
 ·exact .inl (.inr ⟨o,h⟩)
 ·exact .inr h
theorem aV.OS(k:aV H H')(h:j9 K H a xs):j9 K H' a xs:=by
 rcases h with⟨o,h⟩ | h
 ·exact .inl ⟨o,k.f _ _ _ h⟩
 ·exact .inr h
def Exc(p:wg)(H H':Hp):Prop:=∀b o,b≠p->H b=some o->H' b=some o
theorem Exc.keep(e:Exc p H H')(h:H p=some (.lst xs)):aV H H' :=
 ⟨λb ys hb=>e b _ (ED hb h (by intro z;cases z)) hb,λb o u hb=>e b _ (ED hb h (by intro z;cases z)) hb⟩
theorem aj.exc(s:aj H H'):Exc p H H':=λb o _ h=>s b o h
theorem Exc.refl(p:wg)(H:Hp):Exc p H H:=λ_ _ _ h=>h
theorem Exc.trans(a:Exc p H H')(b:Exc p H' H2):Exc p H H2:=λc o n h=>b c o n (a c o n h)
theorem Exc.upd(p:wg)(H:Hp)(o:HO):Exc p H (upd H p o):=λb u n h=>by
 rw[dW n];exact h
theorem Exc.at(e:Exc p H H'){q:wg}{u:HO}(n:q≠p)(h:H q=some u):H' q=some u:=e q u n h
end
mutual
def Is(K:wb)(H:Hp):V->wG->Prop
 | v,.none=>v=.bC
 | v,.bool b=>v=.bl b
 | v,.int i=>v=.int i
 | v,.str x=>v=.str x
 | v,.tuple ds=>∃a xs,v=.ref a/\aI K H a xs/\ao K H xs ds
 | v,.list ds=>∃a xs,v=.ref a/\aG K H a xs/\ao K H xs ds
 | v,.dict _=>∃a kvs,v=.ref a/\H a=some (.dK kvs)
def ao(K:wb)(H:Hp):List V->List wG->Prop
 | xs,[]=>xs=[]
 | xs,d::ds=>∃x r,xs=x::r/\Is K H x d/\ao K H r ds
end
section
variable{K:wb}{H H':Hp}{v:V}{xs:List V}{ds:List wG}{d:wG}
theorem bW{i:Int} : Is K H v (.int i) ↔ v=.int i:=by rw[Is]
theorem ki{b:Bool} : Is K H v (.bool b) ↔ v=.bl b:=by rw[Is]
theorem cb{x:Str} : Is K H v (.str x) ↔ v=.str x:=by rw[Is]
theorem oq:Is K H v .none ↔ v=.bC:=by rw[Is]
theorem bQ:Is K H v (.tuple ds) ↔ ∃a xs,v=.ref a/\aI K H a xs/\ao K H xs ds:=by rw[Is]
theorem cf:Is K H v (.list ds) ↔ ∃a xs,v=.ref a/\aG K H a xs/\ao K H xs ds:=by rw[Is]
theorem Az{kv:List (wG × wG)} : Is K H v (.dict kv) ↔ ∃a kvs,v=.ref a/\H a=some (.dK kvs):=by rw[Is]
theorem gc:ao K H xs [] ↔ xs=[]:=by rw[ao]
theorem dH:ao K H xs (d::ds) ↔ ∃x r,xs=x::r/\Is K H x d/\ao K H r ds:=by rw[ao]
theorem ao.cons(h:Is K H v d)(t:ao K H xs ds):ao K H (v::xs) (d::ds):=dH.mpr ⟨v,xs,rfl,h,t⟩
theorem ao.nil:ao K H [] []:=gc.mpr rfl
theorem ao.length:∀{ds:List wG}{xs:List V},ao K H xs ds->xs.length=ds.length
 | [],_,h=>by rw[gc.mp h];rfl
 | d::ds,_,h=>by
  obtain⟨x,r,rfl,_,t⟩:=dH.mp h;rw[vx,vx,ao.length t]
theorem ao.get:∀{ds:List wG}{xs:List V}{i:Nat}{d:wG},ao K H xs ds->ds[i]? = some d->∃x,xs[i]? = some x/\Is K H x d
 | [],_,_,_,_,e=>by simp at e
 | d::ds,_,0,_,h,e=>by
  obtain⟨x,r,rfl,q,_⟩:=dH.mp h;simp at e;subst e;exact⟨x,rfl,q⟩
 | d::ds,_,i+1,d',h,e=>by
  obtain⟨x,r,rfl,_,t⟩:=dH.mp h;obtain⟨y,h1,h2⟩:=ao.get (i:=i) t (by simpa using e);exact⟨y,by simpa using h1,h2⟩
theorem ao.append:∀{ds es:List wG}{xs ys:List V},ao K H xs ds->ao K H ys es->ao K H (xs++ys) (ds++es)
 | [],_,_,_,h,t=>by rw[gc.mp h];exact t
 | d::ds,_,_,_,h,t=>by
  obtain⟨x,r,rfl,q,u⟩:=dH.mp h;exact .cons q (ao.append u t)
mutual
theorem Is.same(s:aj H H'):∀(d:wG)(v:V),Is K H v d->Is K H' v d
 | .none,v,h=>by rw[oq]at h ⊢;exact h
 | .bool _,v,h=>by rw[ki]at h ⊢;exact h
 | .int _,v,h=>by rw[bW]at h ⊢;exact h
 | .str _,v,h=>by rw[cb]at h ⊢;exact h
 | .tuple ds,v,h=>by
  obtain⟨a,xs,e,q,t⟩:=bQ.mp h;exact bQ.mpr ⟨a,xs,e,s.kf q,ao.same s ds xs t⟩
 | .list ds,v,h=>by
  obtain⟨a,xs,e,q,t⟩:=cf.mp h;exact cf.mpr ⟨a,xs,e,s.seq q,ao.same s ds xs t⟩
 | .dict _,v,h=>by
  obtain⟨a,kvs,e,q⟩:=Az.mp h;exact Az.mpr ⟨a,kvs,e,s _ _ q⟩
theorem ao.same(s:aj H H'):∀(ds:List wG)(xs:List V),ao K H xs ds->ao K H' xs ds
 | [],xs,h=>by rw[gc]at h ⊢;exact h
 | d::ds,xs,h=>by
  obtain⟨x,r,e,q,t⟩:=dH.mp h;exact dH.mpr ⟨x,r,e,Is.same s d x q,ao.same s ds r t⟩
end
end
mutual
def cP:wG->Bool
 | .none=>true
 | .bool _=>true
 | .int _=>true
 | .str _=>true
 | .tuple ds=>bV ds
 | .list _=>false
 | .dict _=>false
def bV:List wG->Bool
 | []=>true
 | d::ds=>cP d&&bV ds
end
section
variable{K:wb}{H H':Hp}
mutual
theorem Is.keep(k:aV H H'):∀(d:wG)(v:V),cP d=true->Is K H v d->Is K H' v d
 | .none,v,_,h=>by rw[oq]at h ⊢;exact h
 | .bool _,v,_,h=>by rw[ki]at h ⊢;exact h
 | .int _,v,_,h=>by rw[bW]at h ⊢;exact h
 | .str _,v,_,h=>by rw[cb]at h ⊢;exact h
 | .tuple ds,v,i,h=>by
  obtain⟨a,xs,e,q,t⟩:=bQ.mp h;exact bQ.mpr ⟨a,xs,e,k.kf q,ao.keep k ds xs (by rw[cP]at i;exact i) t⟩
 | .list ds,v,i,h=>by rw[cP]at i;cases i
 | .dict _,v,i,h=>by rw[cP]at i;cases i
theorem ao.keep(k:aV H H'):∀(ds:List wG)(xs:List V),bV ds=true->ao K H xs ds->ao K H' xs ds
 | [],xs,_,h=>by rw[gc]at h ⊢;exact h
 | d::ds,xs,i,h=>by
  obtain⟨x,r,e,q,t⟩:=dH.mp h;rw[bV,w9]at i;exact dH.mpr ⟨x,r,e,Is.keep k d x i.1 q,ao.keep k ds r i.2 t⟩
end
end
def N(r:Rat):wG:=.tuple [.int r.num,.int (r.den:Int)]
theorem kO(r:Rat):cP (N r)=true:=by simp[N,cP,bV]
section
variable{K:wb}{H H':Hp}{v:V}{r:Rat}
theorem lX:Is K H v (N r) ↔ ∃a,v=.ref a/\aI K H a [.int r.num,.int (r.den:Int)]:=by
 unfold N;rw[bQ]
 constructor
 ·rintro ⟨a,xs,e,q,t⟩
  obtain⟨x,r1,rfl,q1,t⟩:=dH.mp t;obtain⟨y,r2,rfl,q2,t⟩:=dH.mp t;rw[gc.mp t,bW.mp q1,bW.mp q2]at q;exact⟨a,e,q⟩
 ·rintro ⟨a,e,q⟩
  exact⟨a,_,e,q,.cons (bW.mpr rfl) (.cons (bW.mpr rfl) .nil)⟩
end
section
variable{X:Cx}{pins:List (wg × Obj)}{σ : St}{H:Hp}{s:wl}
mutual
theorem Inv.reads(I:Inv X pins σ H s):∀(d:wG)(v:V)(u:wf),d.canLay0=true->Is X.K H v d->aP v u->∃as,Reads s.heap u d as
 | .none,v,u,_,h,r=>by
  cases oq.mp h;cases (show u=Value.none from r);exact⟨_,.none⟩
 | .bool b,v,u,_,h,r=>by
  cases ki.mp h;cases (show u=Value.bool b from r);exact⟨_,.bool b⟩
 | .int i,v,u,_,h,r=>by
  cases bW.mp h;obtain⟨t,e⟩:=(show ∃t,u=Value.int i t from r);cases e;exact⟨_,.int i t⟩
 | .str x,v,u,_,h,r=>by
  cases cb.mp h;obtain⟨t,e⟩:=(show ∃t,u=Value.str x t from r);cases e;exact⟨_,.str x t⟩
 | .tuple ds,v,u,c,h,r=>by
  obtain⟨a,xs,e,q,t⟩:=bQ.mp h;subst e;cases (show u=Value.ref a from r);obtain⟨its,rv,⟨o,e1,e2,n,e3⟩,_⟩:=I.tuple q;obtain⟨as,ra⟩:=Inv.readsAll I ds xs its (by rw[vA]at c;exact c) t rv;exact⟨_,.tuple e1 e2 e3 (by simpa using ra)⟩
 | .list ds,v,u,c,h,r=>by
  obtain⟨a,xs,e,q,t⟩:=cf.mp h;subst e;cases (show u=Value.ref a from r);obtain⟨its,rv,⟨o,n,e1,e2,_,e3⟩,_⟩:=I.list q;obtain⟨as,ra⟩:=Inv.readsAll I ds xs its (by rw[vA]at c;exact c) t rv;exact⟨_,.list e1 e2 e3 (by simpa using ra)⟩
 | .dict _,v,u,c,h,r=>by rw[vA]at c;cases c
theorem Inv.readsAll(I:Inv X pins σ H s):∀(ds:List wG)(xs:List V)(us:List wf),vS ds=true->ao X.K H xs ds->aM xs us->∃as,ReadsAll s.heap us ds as
 | [],xs,us,_,h,r=>by
  rw[gc.mp h]at r;cases r;exact⟨_,.nil⟩
 | d::ds,xs,us,c,h,r=>by
  obtain⟨x,l,e,q,t⟩:=dH.mp h;subst e;rw[vS,w9]at c;cases r with
  | cons r1 r2 =>
   obtain⟨as,h1⟩:=Inv.reads I d x _ c.1 q r1;obtain⟨bs,h2⟩:=Inv.readsAll I ds l _ c.2 t r2;exact⟨_,.cons h1 h2⟩
end
end
section
variable{X:Cx}
open PySem.SeqAt (shaped)
def jq(K:wb):R2:=λx y H Q=>∃d e,Is K H x d/\Is K H y e/\shaped d=true/\shaped e=true/\Q (.bl (wR d e)) H
def ko(K:wb):R2:=λx y H Q=>∃d e,Is K H x d/\Is K H y e/\shaped d=true/\shaped e=true/\Q (.bl (!PyData.eqv d e)) H
theorem Lu(hu:X.A.units+64<cLine):bL X (vU .Eq) (jq X.K):=by
 intro pins s σ H x y v u Q I rx ry h;obtain⟨d,e,hd,he,sd,se,q⟩:=h;obtain⟨as,h1⟩:=I.reads d x v (VC sd) hd rx;obtain⟨bs,h2⟩:=I.reads e y u (VC se) he ry;exact eq_dataH h1 h2 sd se hu ⟨.bl _,H,I,rfl,q⟩
theorem zBz(hu:X.A.units+64<cLine):bL X (vU .NotEq) (ko X.K):=by
 intro pins s σ H x y v u Q I rx ry h;obtain⟨d,e,hd,he,sd,se,q⟩:=h;obtain⟨as,h1⟩:=I.reads d x v (VC sd) hd rx;obtain⟨bs,h2⟩:=I.reads e y u (VC se) he ry;exact ne_dataH h1 h2 sd se hu ⟨.bl _,H,I,rfl,q⟩
theorem aP.YI{x:V}{v:wf}(r:aP x v)(c:Bool):(v == Value.bool c)=decide (x=.bl c):=by
 cases x with
 | bC=>cases (show v=Value.none from r);rfl
 | bl b=>cases (show v=Value.bool b from r);cases b<;>cases c<;>rfl
 | int _=>obtain⟨t,rfl⟩:=r;rfl
 | str _=>obtain⟨t,rfl⟩:=r;rfl
 | byt _=>obtain⟨t,rfl⟩:=r;rfl
 | flt _=>obtain⟨t,rfl⟩:=r;rfl
 | ref _=>cases r;rfl
 | ty _=>cases r;rfl
theorem aP.Yw{x:V}{v:wf}(r:aP x v)(c:Bool):plainIs v (Value.bool c)=true:=by
 cases x with
 | bC=>cases (show v=Value.none from r);rfl
 | bl b=>cases (show v=Value.bool b from r);rfl
 | int _=>obtain⟨t,rfl⟩:=r;rfl
 | str _=>obtain⟨t,rfl⟩:=r;rfl
 | byt _=>obtain⟨t,rfl⟩:=r;rfl
 | flt _=>obtain⟨t,rfl⟩:=r;rfl
 | ref _=>cases r;rfl
 | ty _=>cases r;rfl
def So:R2:=λx y H Q=>(∃c,y=.bl c/\Q (.bl (decide (x=.bl c))) H)\/(y=.bC/\Q (.bl (decide (x=.bC))) H)
theorem N1:bL X (vU .Is) So:=by
 intro pins s σ H x y v u Q I rx ry h;rcases h with⟨c,e,q⟩ | h
 ·subst e
  cases (show u=Value.bool c from ry);exact wpAny_is_plain (rx.Yw c) (LD I q (rx.YI c).symm)
 ·exact Z8 pins s σ H x y v u Q I rx ry h
def kindOf:wG->String
 | .none=>"NoneType"
 | .bool _=>"bool"
 | .int _=>"int"
 | .str _=>"str"
 | .tuple _=>"tuple"
 | .list _=>"list"
 | .dict _=>"dict"
def iD(K:wb):List V->Hp->VK->Prop:=λxs H Q=>∃x T d b,xs=[x,.ty T]/\Is K H x d/\wC K (.type (kindOf d)) (.type T)=some b/\Q (.bl b) H
theorem pT:bK X (.builtin "isinstance") (iD X.K):=by
 intro pins s σ H xs us Q I r h;obtain⟨x,T,d,b,rfl,hd,e,q⟩:=h;obtain⟨u,w',rfl,rx,rt⟩:=kP r;cases (show w'=Value.type T from rt);have fin:∀tk,EP X pins σ Q (.bool b) {s with toks:=tk}:=λtk=>⟨.bl b,H,I.tok _,rfl,q⟩
 cases d with
 | none =>
  cases oq.mp hd;cases (show u=Value.none from rx);exact W3 uo I.cU True.intro e (λz=>nomatch z) fin
 | bool y =>
  cases ki.mp hd;cases (show u=Value.bool y from rx);exact W3 ur I.cU True.intro e (λz=>nomatch z) fin
 | int i =>
  cases bW.mp hd;obtain⟨t,q⟩:=(show ∃t,u=Value.int i t from rx);cases q;exact W3 uW I.cU True.intro e (λz=>nomatch z) fin
 | str y =>
  cases cb.mp hd;obtain⟨t,q⟩:=(show ∃t,u=Value.str y t from rx);cases q;exact W3 uX I.cU True.intro e (λz=>nomatch z) fin
 | tuple ds =>
  obtain⟨a,xs,e1,hq,_⟩:=bQ.mp hd;subst e1;cases (show u=Value.ref a from rx);obtain⟨its,_,⟨o,h1,h2,_⟩,_⟩:=I.tuple hq;exact W3 X6 I.cU ⟨o,h1,h2⟩ e (λz=>nomatch z) fin
 | list ds =>
  obtain⟨a,xs,e1,hq,_⟩:=cf.mp hd;subst e1;cases (show u=Value.ref a from rx);obtain⟨its,_,⟨o,n,h1,h2,_⟩,_⟩:=I.list hq;exact W3 ut I.cU ⟨o,h1,h2⟩ e (λz=>nomatch z) fin
 | dict kv =>
  obtain⟨a,kvs,e1,hq⟩:=Az.mp hd;subst e1;cases (show u=Value.ref a from rx);obtain⟨_,_,vs,_,o,es,ep,h1,h2,_⟩:=(show cw X.prog X.w H s.heap a (.dK kvs)from I.aA a _ hq);exact W3 uu I.cU ⟨o,h1,h2.1⟩ e (λz=>nomatch z) fin
def isA(T:String)(d:wG):Bool:=(kindOf d == T) || (kindOf d == "bool"&&T == "int")
theorem Z4{K:wb}(d:wG):wC K (.type (kindOf d)) (.type "int")=some (isA "int" d):=by cases d<;>rfl
theorem zx6{K:wb}(d:wG):wC K (.type (kindOf d)) (.type "bool")=some (isA "bool" d):=by cases d<;>rfl
theorem zvV{K:wb}(d:wG):wC K (.type (kindOf d)) (.type "tuple")=some (isA "tuple" d):=by cases d<;>rfl
theorem Y2{m n:Nat}{i j:Int}(h:Bd m i)(k:Bd n j)(hm:m<=1000000)(hn:n<=1000000):IntMulOk i j:=by
 have f:∀{m:Nat}{i:Int},Bd m i->m<=1000000->XO i<=2^20:=by
  intro m i h hm;have e:(2:Nat)^20=1048576:=by decide
  have l:=(h.mono (Nat.le_succ m)).log (QX m);unfold XO
  split<;>lia
 exact .of_bits (f h hm) (f k hn)
theorem cx:bL X (Ve .Mult) (rI IntMulOk λi j=>.int (i*j)):=FQ λ_ _ _ _ _ _ _ hc q=>mul_int q hc
def j7(_ j:Int):Prop:=j≠0/\Bd 179980 j
theorem Inv.pyl{pins:List (wg × Obj)}{σ : St}{H:Hp}{s:wl}(I:Inv X pins σ H s)(ht:X.prog.given.tree=none){k:Nat}(hr:cZ k X.A)(hst:∃e l,X.stack=e::l):uY (model X.prog X.w) X.A s:=by
 obtain⟨e,l,he⟩:=hst;have hf:X.A.frames=some (e::l):=by rw[<- he];exact I.ok.frames
 obtain⟨g1,g2,g3,g4⟩:=hr.fr e l hf;exact uY.of I.nolimit (by have:=hr.dp;show X.A.depth+100<_;lia) (PySem.SeerAt.of (I.ok.mod.seer.keeps I.bk) ht hf g1 g2 g3 g4)
theorem fv(ht:X.prog.given.tree=none){k:Nat}(hr:cZ k X.A)(hst:∃e l,X.stack=e::l):bL X (Ve .FloorDiv) (rI j7 λi j=>.int (i.fdiv j)):=by
 intro pins s σ H x y v u Q I rx ry h;obtain⟨i,j,rfl,rfl,hc,q⟩:=h;obtain⟨t,rfl⟩:=rx;obtain⟨t',rfl⟩:=ry;exact floordiv_int hc.1 ⟨.int (i.fdiv j),H,I.tok _,⟨_,rfl⟩,q⟩ (.inr (I.pyl ht hr hst))
theorem zAJ:bL X (Ve .Add) (λx y H Q=>(i_ λi j=>.int (i+j)) x y H Q\/(EZ x y H Q \/ ∃i j,x=.str i/\y=.str j/\i.length+j.length<=wZ/\Q (.str (i++j)) H)):=zBC.or (zCj.or zsS)
end
theorem Sy:vJ "len"=some (.builtin "len"):=by decide +kernel
theorem mU:vJ "abs"=some (.builtin "abs"):=by decide +kernel
theorem fg:vJ "isinstance"=some (.builtin "isinstance"):=by decide +kernel
theorem pQ:vJ "int"=some (.type "int"):=by decide +kernel
theorem zAl:vJ "bool"=some (.type "bool"):=by decide +kernel
theorem rf:vJ "tuple"=some (.type "tuple"):=by decide +kernel
theorem pk:vJ "list"=some (.type "list"):=by decide +kernel
def lz(K:wb)(xs:List V)(H:Hp)(Q:VK):Prop:=xs.length<=wZ /\ ∀p,H p=none->Q (.ref p) (upd H p (.tup xs))
def Ae(K:wb)(xs:List V)(H:Hp)(Q:VK):Prop:=xs.length<=wZ /\ ∀p,H p=none->Q (.ref p) (upd H p (.lst xs))
def K9(K:wb)(t:TA):TE:=λσ H Q=>t σ H λxs H1=>lz K xs H1 Q
def Ei(K:wb)(t:TA):TE:=λσ H Q=>t σ H λxs H1=>Ae K xs H1 Q
def Cs:R2:=λx y H Q=>(i_ λi j=>.int (i+j)) x y H Q\/(EZ x y H Q \/ ∃i j,x=.str i/\y=.str j/\i.length+j.length<=wZ/\Q (.str (i++j)) H)
def Tp:List V->Hp->VK->Prop:=λxs H Q=>∃i:Int,xs=[.int i]/\Q (.int (if i<0 then -i else i)) H
def jX(K:wb):List V->Hp->VK->Prop:=λxs H Q=>∃p ys,xs=[.ref p]/\(aG K H p ys\/aI K H p ys)/\Q (.int ys.length) H
def RA:List V->Hp->VK->Prop:=λxs H Q=>(∃i,xs=[.int i]/\Q (.int i) H) \/ ∃k,xs=[.bl k]/\Q (.int (if k then 1 else 0)) H
section
variable{X:Cx}{e:Expr}{es:List Expr}{te:TE}{t:TA}{pos:Pos}
theorem aY{x1}(h:PA X es t):PE X (.Tuple es x1 pos) (K9 X.K t):=zBJ h
theorem cR(h:PA X es t):PE X (.List es pos) (Ei X.K t):=zCW h
theorem bZ:bL X (Ve .Add) Cs:=zAJ
theorem nH:bK X (.builtin "abs") Tp:=zxn
theorem zvJ:bK X (.builtin "len") (jX X.K):=zqi
theorem ym:bK X (.type "int") RA:=zvH
theorem pV{x:Str}{i:Int}{pos:Pos}(hg:Gl X x)(hm:∃t,X.mg x=some (.int i t))(hd:(x == ("__debug__" : Str))=false:=by decide):PE X (.Name x pos) (tC (.int i)):=by
 obtain⟨t,hm⟩:=hm;exact br hg hm ⟨t,rfl⟩ hd
end
section
variable{K:wb}{σ : St}{H H':Hp}{Q:VK}{QA:List V->Hp->Prop}{QB:Bool->Hp->Prop}{QS:St->Hp->Prop}{QH:Hp->Prop}{D:cu}{ta tb te:TE}{tt tu:TT}{t tr:TA}{s1 s2:TS}{g:TG}{gs:iJ}{r:R2}{v w:V}{xs ys:List V}{i:Nat}{m n:Int}
variable{j:Nat}{p:wg}{b:Bool}{d:wG}{ds:List wG}{A B:Prop}
theorem Bk(h : σ[i]? = some (some v))(q:Q v H):fO i σ H Q:=⟨v,h,q⟩
theorem zEh(q:Q v H):tC v σ H Q:=q
theorem zDJ(h:ta σ H λx H1=>tb σ H1 λy H2=>r x y H2 Q):iR r ta tb σ H Q:=h
theorem Zi{u:V->Hp->VK->Prop}(h:ta σ H λx H1=>u x H1 Q):Lj u ta σ H Q:=h
theorem zCf(h:t σ H λxs H1=>lz K xs H1 Q):K9 K t σ H Q:=h
theorem zBS(h:t σ H λxs H1=>Ae K xs H1 Q):Ei K t σ H Q:=h
theorem zCk(q:QA [] H):kE σ H QA:=q
theorem zzG(h:te σ H λx H1=>tr σ H1 λxs H2=>QA (x::xs) H2):iN te tr σ H QA:=h
theorem zAr{sp:Sp}{E:XK}(h:t σ H λvs H1=>sp vs H1 Q E):lO sp [] E t σ H Q:=by
 simpa only[lO,vP] using h
theorem zDq{u:List V->Hp->VK->Prop}(h:t σ H λvs H1=>u vs H1 Q):rp u t σ H Q:=h
theorem zzA(h:te σ H λx H'=>∃k,x=.bl k/\QB k H'):p8 te σ H QB:=h
theorem O3(h:te σ H λx H'=>∃k,x=.bl k/\QB k H'):tB te σ H QB:=h
theorem OX{R:Bool->Prop}{k:Bool}(q:R k):∃k',V.bl k=V.bl k'/\R k':=⟨k,rfl,q⟩
theorem zCY(h:tt σ H λc H1=>if c=true then tu σ H1 QB else QB false H1):Q_ tt tu σ H QB:=h
theorem zDL(h:tt σ H λc H1=>if c=true then QB true H1 else tu σ H1 QB):Ln tt tu σ H QB:=h
theorem zBD(h:tt σ H λc H1=>QB (!c) H1):Su tt σ H QB:=h
theorem zzl(h:ta σ H λx H1=>∃c,x=.bl c/\if c=true then tb σ H1 Q else Q (.bl false) H1):Ou ta tb σ H Q:=h
theorem Z7(h:ta σ H λx H1=>∃c,x=.bl c/\Q (.bl (!c)) H1):KO ta σ H Q:=h
theorem zBw(h:tt σ H λc H1=>if c=true then ta σ H1 Q else tb σ H1 Q):NK tt ta tb σ H Q:=h
theorem zCh(h:s1 {D with nx:=s2 D} σ H):Ct s1 s2 D σ H:=h
theorem zy6(h:D.nx σ H):Ls D σ H:=h
theorem Zo(h:te σ H D.rt):O1 te D σ H:=h
theorem zBM(h:tt σ H λb H1=>if b=true then s1 D σ H1 else s2 D σ H1):Tu tt s1 s2 D σ H:=h
theorem zC6(h:te σ H λx H1=>g x σ H1 D.nx):kT te g D σ H:=h
theorem zy0(h:te σ H λ_ H1=>D.nx σ H1):OA te D σ H:=h
theorem zCe(h:t σ H λvs H1=>∃v w,vs=[v,w]/\D.nx ((σ.set i (some v)).set j (some w)) H1):Pn i j t D σ H:=h
theorem zAz(q:QS ((σ.set i (some v)).set j (some w)) H):∃v' w',[v,w]=[v',w']/\QS ((σ.set i (some v')).set j (some w')) H:=⟨v,w,rfl,q⟩
theorem BJ(q:QS (σ.set i (some v)) H):fG i v σ H QS:=q
theorem MB(q:QS σ H):EK [] σ H QS:=⟨rfl,q⟩
theorem BM(q:g v σ H λσ' H'=>gs xs σ' H' QS):zg g gs (v::xs) σ H QS:=⟨v,xs,rfl,q⟩
theorem me{a:wg}{n:Nat}(h:aI K H a xs)(e:xs.length=n)(q:gs xs σ H QS):gW K n gs (.ref a) σ H QS:=⟨a,xs,rfl,h,e,q⟩
theorem zzM{tset:Aq}(h:ta σ H λo H1=>tb σ H1 λi H2=>tset o i v H2 λH3=>QS σ H3):Ri ta tb tset v σ H QS:=h
theorem CL{k:Int}(h:H p=some (.lst xs))(e:ja xs.length k=some j)(q:∀H',Exc p H H'->H' p=some (.lst (xs.set j v))->QH H'):Rc (.ref p) (.int k) v H QH :=
 ⟨p,xs,k,j,rfl,rfl,h,e,q _ (Exc.upd p H _) cA⟩
theorem ZT{f:Int->Int->V}(q:Q (f m n) H):i_ f (.int m) (.int n) H Q:=⟨m,n,rfl,rfl,q⟩
theorem yr{C:Int->Int->Prop}{f:Int->Int->V}(c:C m n)(q:Q (f m n) H):rI C f (.int m) (.int n) H Q:=⟨m,n,rfl,rfl,c,q⟩
theorem zDP{f:Int->V}(q:Q (f m) H):rU f (.int m) H Q:=⟨m,rfl,q⟩
theorem zzQ(q:Q (.int (m+n)) H):Cs (.int m) (.int n) H Q:=.inl ⟨m,n,rfl,rfl,q⟩
theorem zf{b:wg}(h:H p=some (.lst xs))(k:H b=some (.lst ys))(z:xs.length+ys.length<=wZ)
  (q:∀c H',H c=none->aj H H'->H' c=some (.lst (xs++ys))->Q (.ref c) H'):Cs (.ref p) (.ref b) H Q :=
 .inr (.inl ⟨p,b,xs,ys,rfl,rfl,h,k,z,λc hc=>q c _ hc (aj.upd hc) cA⟩)
theorem zB3(q:Q (.int (if m<0 then -m else m)) H):Tp [.int m] H Q:=⟨m,rfl,q⟩
theorem Mz(h:aI K H p xs)(q:Q (.int xs.length) H):jX K [.ref p] H Q:=⟨p,xs,rfl,.inr h,q⟩
theorem iu(h:aG K H p xs)(q:Q (.int xs.length) H):jX K [.ref p] H Q:=⟨p,xs,rfl,.inl h,q⟩
theorem zza(q:Q (.int (if b then 1 else 0)) H):RA [.bl b] H Q:=.inr ⟨b,rfl,q⟩
theorem zBN(q:Q (.bl (decide (v=.bC))) H):So v .bC H Q:=.inr ⟨rfl,q⟩
theorem zB1(q:Q (.bl (decide (m=n))) H):jq K (.int m) (.int n) H Q :=
 ⟨.int m,.int n,bW.mpr rfl,bW.mpr rfl,rfl,rfl,by
  have e:wR (.int m) (.int n)=decide (m=n):=by
   rw[wR,QP]
  rw[e];exact q⟩
theorem zB0(q:Q (.bl (!decide (m=n))) H):ko K (.int m) (.int n) H Q :=
 ⟨.int m,.int n,bW.mpr rfl,bW.mpr rfl,rfl,rfl,by
  have e:wR (.int m) (.int n)=decide (m=n):=by
   rw[wR,QP]
  rw[e];exact q⟩
theorem s_{e:wG}(h:Is K H v d)(k:Is K H w e)(sd:vR d=true)(se:vR e=true)(q:Q (.bl (wR d e)) H):jq K v w H Q:=⟨d,e,h,k,sd,se,q⟩
theorem nW{e:wG}(h:Is K H v d)(k:Is K H w e)(sd:vR d=true)(se:vR e=true)(q:Q (.bl (!PyData.eqv d e)) H):ko K v w H Q:=⟨d,e,h,k,sd,se,q⟩
theorem FK{T:String}(h:Is K H v d)(e:wC K (.type (kindOf d)) (.type T)=some (isA T d))(q:Q (.bl (isA T d)) H):iD K [v,.ty T] H Q:=⟨v,T,d,_,rfl,h,e,q⟩
def jh:wG->Bool
 | .tuple _=>true
 | _=>false
def B5:wG->Bool
 | .int _=>true
 | .bool _=>true
 | _=>false
def Co:wG->Bool
 | .bool _=>true
 | _=>false
def oF:wG->Bool
 | .list _=>true
 | _=>false
theorem ME : jh d=true ↔ ∃ds,d=.tuple ds:=by cases d<;>simp[jh]
theorem MJ(h:Is K H v d)(q:Q (.bl (jh d)) H):iD K [v,.ty "tuple"] H Q:=FK h (zvV d) (by have e:isA "tuple" d=jh d:=(by cases d<;>rfl);rw[e];exact q)
theorem zx4(h:Is K H v d)(q:Q (.bl (B5 d)) H):iD K [v,.ty "int"] H Q:=FK h (Z4 d) (by have e:isA "int" d=B5 d:=(by cases d<;>rfl);rw[e];exact q)
theorem zw3(h:Is K H v d)(q:Q (.bl (Co d)) H):iD K [v,.ty "bool"] H Q:=FK h (zx6 d) (by have e:isA "bool" d=Co d:=(by cases d<;>rfl);rw[e];exact q)
theorem yp(h:aI K H p xs)(e:gq xs m=some v)(q:Q v H):cJ K (.ref p) (.int m) H Q:=.inr (.inl ⟨p,xs,m,v,rfl,rfl,h,e,q⟩)
theorem gJ(h:aG K H p xs)(e:gq xs m=some v)(q:Q v H):cJ K (.ref p) (.int m) H Q:=.inl ⟨p,xs,m,v,rfl,rfl,h,e,q⟩
theorem zBK{α : Type}{xs:List α}(h0:0<=m)(h1:m<xs.length):∃v,gq xs m=some v/\v∈xs:=by
 obtain⟨k,rfl⟩:∃k:Nat,m=(k:Int):=⟨m.toNat,by lia⟩;have l:k<xs.length:=by lia
 exact⟨xs[k],mw (by simp[l]),vY l⟩
theorem AD(P:V->Prop)(h:aG K H p xs)(h0:0<=m)(h1:m<xs.length)(hP:∀x∈xs,P x)(q:∀x,P x->Q x H):cJ K (.ref p) (.int m) H Q:=by
 obtain⟨x,e,hx⟩:=zBK h0 h1;exact gJ h e (q x (hP x hx))
theorem zzb{r:Rat}(h:Is K H v (N r))(q:Q (.int r.num) H):cJ K v (.int 0) H Q:=by
 obtain⟨a,rfl,h'⟩:=lX.mp h;exact yp h' rfl q
theorem zzu{r:Rat}(h:Is K H v (N r))(q:Q (.int (r.den:Int)) H):cJ K v (.int 1) H Q:=by
 obtain⟨a,rfl,h'⟩:=lX.mp h;exact yp h' rfl q
theorem aF(h:Is K H v (.tuple ds))(e:ds[j]? = some d)(q:∀x,Is K H x d->Q x H):cJ K v (.int (j:Int)) H Q:=by
 obtain⟨a,xs,rfl,h,t⟩:=bQ.mp h;obtain⟨x,e1,hx⟩:=t.get e;exact yp h (mw e1) (q x hx)
theorem oj(h:Is K H v (.tuple ds))(q:Q (.int ds.length) H):jX K [v] H Q:=by
 obtain⟨a,xs,rfl,h,t⟩:=bQ.mp h;exact Mz h (by rw[t.length];exact q)
theorem K_{n:Nat}(h:Is K H v (.tuple ds))(e:ds.length=n)(q:∀xs,ao K H xs ds->gs xs σ H QS):gW K n gs v σ H QS:=by
 obtain⟨a,xs,rfl,h,t⟩:=bQ.mp h;exact me h (by rw[t.length];exact e) (q xs t)
theorem zxF{r:Rat}(h:Is K H v (N r))(q:gs [.int r.num,.int (r.den:Int)] σ H QS):gW K 2 gs v σ H QS:=by
 obtain⟨a,rfl,h'⟩:=lX.mp h;exact me h' rfl q
theorem m6{α : Type}{l:List α}(h:l.length<=1000):l.length<=wZ:=qg (kS h)
theorem rA(z:xs.length<=1000)(q:∀p H',H p=none->aj H H'->H' p=some (.tup xs)->Q (.ref p) H'):lz K xs H Q:=⟨m6 z,λp hp=>q p _ hp (aj.upd hp) cA⟩
theorem eX(z:xs.length<=1000)(q:∀p H',H p=none->aj H H'->H' p=some (.lst xs)->Q (.ref p) H'):Ae K xs H Q:=⟨m6 z,λp hp=>q p _ hp (aj.upd hp) cA⟩
theorem cg(z:xs.length<=1000)(h:ao K H xs ds)(q:∀v H',aj H H'->Is K H' v (.tuple ds)->Q v H'):lz K xs H Q :=
 rA z λp H' _ s e=>q _ H' s (bQ.mpr ⟨p,xs,rfl,.of e,ao.same s ds xs h⟩)
theorem ig{r:Rat}(e1:m=r.num)(e2:n=(r.den:Int))(q:∀v H',aj H H'->Is K H' v (N r)->Q v H'):lz K [.int m,.int n] H Q:=by
 subst e1 e2;exact rA (by show 2<=1000;decide) λp H' _ s e=>q _ H' s (lX.mpr ⟨p,rfl,.of e⟩)
theorem zAq{p:Prop}[Decidable p](h1:p->A)(h2:¬ p->B):if decide p=true then A else B:=by
 by_cases h:p
 ·rw[decide_eq_true h,if_pos rfl];exact h1 h
 ·rw[decide_eq_false h,if_neg vI];exact h2 h
theorem zwx{p:Prop}[Decidable p](h1:¬ p->A)(h2:p->B):if(!decide p)=true then A else B:=by
 by_cases h:p
 ·rw[decide_eq_true h];exact lQ (h2 h)
 ·rw[decide_eq_false h];exact lV (h1 h)
theorem zz3(h1:b=true->A)(h2:b=false->B):if b=true then A else B:=by
 cases b
 ·exact lQ (h2 rfl)
 ·exact lV (h1 rfl)
theorem zyB(h1:b=false->A)(h2:b=true->B):if(!b)=true then A else B:=by
 cases b
 ·exact lV (h1 rfl)
 ·exact lQ (h2 rfl)
end
section
variable{c:TT}{tb:TS}{D:cu}{σ : St}{H:Hp}
def Tj(σ : St)(i:Nat):Int:=match σ[i]? with
 | some (some (.int y))=>y
 | _=>0
def KN(Pv:St->Hp->Prop)(μ : St->Nat)(tb:TS)(D:cu)(σ':St)(H1:Hp):Prop :=
 ∃M:St->Hp->Prop,(∀σ2 H2,M σ2 H2->∃m',m' < μ σ'/\(m' = μ σ2/\Pv σ2 H2))/\tb {D with nx:=M,ct:=M,bk:=D.nx} σ' H1
theorem Me(Pv:St->Hp->Prop)(μ : St->Nat)(h0:Pv σ H)
  (hs:∀σ' H',Pv σ' H'->c σ' H' λb H1=>if b=true then KN Pv μ tb D σ' H1 else D.nx σ' H1):B1 c tb D σ H:=by
 refine⟨λm σ H=>m = μ σ /\ Pv σ H,⟨_,rfl,h0⟩,?_⟩;rintro m σ H ⟨rfl,p⟩;exact hs σ H p
theorem Lx{Pv:St->Hp->Prop}{μ : St->Nat}{σ':St}{H1:Hp}(h:tb {D with nx:=λσ2 H2=>μ σ2 < μ σ'/\Pv σ2 H2,ct:=λσ2 H2=>μ σ2 < μ σ'/\Pv σ2 H2,bk:=D.nx} σ' H1):KN Pv μ tb D σ' H1 :=
 ⟨_,λσ2 H2 q=>⟨_,q.1,rfl,q.2⟩,h⟩
def M1(g:TG)(tb:TS)(D:cu)(σ : St)(vs:List V)(H1:Hp):Prop:=∃j:Int,vs=[.int j] /\ -(2^62)<=j/\j<2^62 /\
 ∃W:Nat->Nat->St->Hp->Prop,(∃m,W 0 m σ H1) /\ ∀i m σ H,W i m σ H ->
  ((gg 0 j.toNat).stop i H/\D.nx σ H)\/((gg 0 j.toNat).go i H /\ ∃M:St->Hp->Prop,(∀σ' H',M σ' H'->∃m',m'<m/\W (i+1) m' σ' H') /\ ∀x H',(gg 0 j.toNat).fC i H x H'->g x σ H' λσ2 H2=>tb {D with nx:=M,ct:=M,bk:=D.nx} σ2 H2)
theorem zAt{ta:TA}{g:TG}(h:ta σ H λvs H1=>M1 g tb D σ vs H1):lT (DZ ta) g tb D σ H:=h
theorem kI{g:TG}{n:Int}(h0 : -1000000000<=n)(h1:n<1000000000)(Pv:Nat->St->Hp->Prop)(p:Pv 0 σ H)
  (hs:∀(i:Nat) σ H,i<n.toNat->Pv i σ H->g (.int (i:Int)) σ H λσ2 H2=>tb {D with nx:=Pv (i+1),ct:=Pv (i+1),bk:=D.nx} σ2 H2)
  (hd:∀σ H,Pv n.toNat σ H->D.nx σ H):M1 g tb D σ [.int n] H:=by
 refine⟨n,rfl,by lia,by lia,O4 (lo:=0) Pv p (λi σ H hi q=>?_) hd⟩;have e:(0:Int)+(i:Int)=(i:Int):=by lia
 rw[e];exact hs i σ H hi q
end
def Cw(K:wb)(g:TG)(tb:TS)(D:cu)(σ : St)(x:V)(H1:Hp):Prop:=∃a,x=.ref a/\(∃xs,aG K H1 a xs) /\
 ∃W:Nat->Nat->St->Hp->Prop,(∃m,W 0 m σ H1) /\ ∀i m σ H,W i m σ H ->
  ((iZ K a).stop i H/\D.nx σ H)\/((iZ K a).go i H /\ ∃M:St->Hp->Prop,(∀σ' H',M σ' H'->∃m',m'<m/\W (i+1) m' σ' H') /\ ∀x H',(iZ K a).fC i H x H'->g x σ H' λσ2 H2=>tb {D with nx:=M,ct:=M,bk:=D.nx} σ2 H2)
def Dt(K:wb)(g:TG)(tb:TS)(D:cu)(σ : St)(x:V)(H1:Hp):Prop:=∃a,x=.ref a/\(∃xs,aI K H1 a xs) /\
 ∃W:Nat->Nat->St->Hp->Prop,(∃m,W 0 m σ H1) /\ ∀i m σ H,W i m σ H ->
  ((jx K a).stop i H/\D.nx σ H)\/((jx K a).go i H /\ ∃M:St->Hp->Prop,(∀σ' H',M σ' H'->∃m',m'<m/\W (i+1) m' σ' H') /\ ∀x H',(jx K a).fC i H x H'->g x σ H' λσ2 H2=>tb {D with nx:=M,ct:=M,bk:=D.nx} σ2 H2)
section
variable{K:wb}{te:TE}{g:TG}{tb:TS}{D:cu}{σ : St}{H:Hp}{a:wg}{xs:List V}
theorem zAx(h:te σ H λx H1=>Cw K g tb D σ x H1):lT (An K te) g tb D σ H:=h
theorem zAu(h:te σ H λx H1=>Dt K g tb D σ x H1):lT (Eg K te) g tb D σ H:=h
theorem zO(hx:aG K H a xs)(Pv:Nat->St->Hp->Prop)(h0:Pv 0 σ H)(hl:∀i σ H,i<=xs.length->Pv i σ H->aG K H a xs)
  (hs:∀i x σ H,xs[i]? = some x->Pv i σ H->g x σ H λσ2 H2=>tb {D with nx:=Pv (i+1),ct:=Pv (i+1),bk:=D.nx} σ2 H2) (hd:∀σ H,Pv xs.length σ H->D.nx σ H):Cw K g tb D σ (.ref a) H :=
 ⟨a,rfl,⟨xs,hx⟩,zxO Pv h0 hl hs hd⟩
theorem PD(hx:aI K H a xs)(Pv:Nat->St->Hp->Prop)(h0:Pv 0 σ H)(hl:∀i σ H,i<=xs.length->Pv i σ H->aI K H a xs)
  (hs:∀i x σ H,xs[i]? = some x->Pv i σ H->g x σ H λσ2 H2=>tb {D with nx:=Pv (i+1),ct:=Pv (i+1),bk:=D.nx} σ2 H2) (hd:∀σ H,Pv xs.length σ H->D.nx σ H):Dt K g tb D σ (.ref a) H :=
 ⟨a,rfl,⟨xs,hx⟩,zAv Pv h0 hl hs hd⟩
end
variable{H:Hp}
theorem RW{σ : St}{Q:VK}(q:∀p H',H p=none->aj H H'->H' p=some (.dK [])->Q (.ref p) H'):Ld σ H Q:=λp hp=>q p _ hp (aj.upd hp) cA
theorem zBL{K:wb}{a:wg}{xs:List V}(hO:Al H)(h:aG K H a xs):j9 K H a xs:=by
 rcases h with(h | ⟨o,h⟩) | h
 ·rcases hO a with z | ⟨ob,ys,z⟩
  ·rw[h]at z;cases z
  ·rw[h]at z;cases z
 ·exact .inl ⟨o,h⟩
 ·exact .inr h
theorem Oq{K:wb}{Q:VK}{a:wg}{ns:List Int}{m:Int}(h:j9 K H a (ns.map V.int))(h0:0<=m)(h1:m<((ns.map V.int).length:Int))(q:∀z,Q (.int z) H):cJ K (.ref a) (.int m) H Q:=by
 refine AD (λv=>∃z,v=.int z) h.sq h0 h1 (λx hx=>?_) (λx hx=>?_)
 ·obtain⟨z,_,rfl⟩:=wU.mp hx
  exact⟨z,rfl⟩
 ·obtain⟨z,rfl⟩:=hx
  exact q z
section
variable{K:wb}{H H':Hp}{v:V}{d:wG}{a:wg}{xs:List V}{o:HO}
theorem aj.at(s:aj H H')(h:H a=some o):H' a=some o:=s _ _ h
theorem aj.back{H2:Hp}(b:aj H' H2)(s:aj H H'):aj H H2:=s.trans b
theorem aV.back{H2:Hp}(b:aV H' H2)(s:aV H H'):aV H H2:=s.trans b
theorem Is.by(s:aj H H')(h:Is K H v d):Is K H' v d:=Is.same s d v h
theorem Is.Y5(h:Is K H v d)(s:aj H H'):Is K H' v d:=Is.same s d v h
theorem Is.Y3{r:Rat}(h:Is K H v (N r))(s:aV H H'):Is K H' v (N r):=Is.keep s _ v (kO r) h
theorem Is.fP{r:Rat}(s:aV H H')(h:Is K H v (N r)):Is K H' v (N r):=Is.keep s _ v (kO r) h
theorem Is.kU(s:aV H H')(i:cP d=true)(h:Is K H v d):Is K H' v d:=Is.keep s _ v i h
end
def dg(X:Cx)(N':List Str)(scope:Scope)(cl:List (Str × wg))(C:wg)(s₀ : wl)(H₀ : Hp)(fp:List wg)(pins:List (wg × Obj)):Cx where
 prog:=X.prog
 w:=X.w
 K:=X.K
 mg:=X.mg
 base:=X.base
 A:=X.A
 N:=N'
 s₀:=s₀
 H₀:=H₀
 env:=compEnvC scope cl C X.env
 outer:=X.stack
 stack:=X.stack
 ex:=fp
 fn:=λ_=>false
 calm:=X.calm
 pn:=X.pn++pins
 xe:=λ_ _=>False
structure Sk(X:Cx)(scope:Scope)(cl:List (Str × wg)):Prop where
 jO:closureFor scope X.env=pure cl
 sub:∀x c,cl.lookup x=some c->X.env.cells.lookup x=some c
 has:∀x,((relabel scope X.env).names.lookup x=some .cell\/(relabel scope X.env).names.lookup x=some .free)->∃c,cl.lookup x=some c
def dF(src:List (Option Nat))(σ : St):St:=src.map λo=>match o with
 | none=>none
 | some j=>(σ[j]?).join
def Pp(X:Cx)(N':List Str)(src:List (Option Nat)):Prop :=
 N'.length=src.length /\ ∀(i j:Nat)(x:Str),N'[i]? = some x->src[i]? = some (some j)->X.N[j]? = some x/\X.env.scope.names.lookup x=some .cell
section
variable{X:Cx}{pins:List (wg × Obj)}{σ : St}{H:Hp}{s:wl}{N':List Str}{scope:Scope}{cl:List (Str × wg)}{src:List (Option Nat)}{fp:List wg}
theorem Inv.block{h₁ : wJ}{tk:Nat}(I:Inv X pins σ H s)(hk:scope.kind=.function)(cok:Sk X scope cl)(sok:Pp X N' src)(hf:∀b∈fp,d6 X pins H b)(hlt:∀b∈fp,b<s.heap.objs.size)
  (hns:h₁.Ns s.heap.objs.size λ_=>none) (old:∀b o,s.heap.get? b=some o->h₁.get? b=some o)
  (hvis:∀(i:Nat) x,N'[i]? = some x->src[i]? ≠ some none->(relabel scope X.env).names.lookup x=some .cell\/(relabel scope X.env).names.lookup x=some .free) :
  Inv (dg X N' scope cl s.heap.objs.size s H fp pins) [] (dF src σ) H {s with heap:=h₁,toks:=tk}:=by
 have hfr:H s.heap.objs.size=none:=I.aA.fresh (wo _)
 have jt:∀x c,cl.lookup x=some c->c<s.heap.objs.size:=λx c e=>by
  obtain⟨v,q⟩:=I.cell x c (cok.sub x c e);exact q.lt
 have fplt:∀b∈fp,b ∉ dq X.stack:=λb hb z=>by
  obtain⟨_,f1,f2,_⟩:=hf b hb;exact(wK.mp (I.lB b z)).elim f1 f2
 refine⟨⟨I.ok.mod,?_,I.ok.glob,I.ok.blt,wo _,λx y c h1 h2=>?_,λx hx=>?_,λx c hx=>?_,I.ok.hd,I.ok.frames,.inl rfl,λb hb=>⟨?_,λx c e=>?_⟩,I.bs,Wb I.ok.gE I.sz,λb o e=>?_,fplt,I.stack,I.sD⟩,
  rfl,I.bare,Un.kept old,⟨_,hns,λi x v h1 h2 h3=>?_⟩,λx c e=>?_,hfr,λx c e=>?_,λp hp=>?_,I.aA.kept old,?_⟩
 ·show(relabel scope X.env).kind=.function
  exact hk
 ·exact I.ok.inj x y c (cok.sub x c h1) (cok.sub y c h2)
 ·exact cok.has x hx
 ·exact absurd (show false=true from hx) vI
 ·exact wL (hlt b hb)
 ·exact(hf b hb).2.2.2.2.1 x c (cok.sub x c e)
 ·intro hb
  obtain⟨_,_,_,f3,_⟩:=hf b hb;rcases f3 with z | z
  ·exact I.ok.jN b o e z
  ·exact absurd (wW (wz e) (Wb I.ok.gE z)) (VU _)
 ·-- a name of the frame around
  have hsrc:∃j,src[i]? = some (some j) /\ σ[j]? = some (some v):=by
   unfold dF at h2;rw[wx]at h2;cases q:src[i]? with
   | none=>rw[q]at h2;cases h2
   | some o =>
    rw[q]at h2;cases o with
    | none=>cases h2
    | some j =>
     refine⟨j,rfl,?_⟩;have h2':(σ[j]?).join=some v:=wN h2;cases q2 : σ[j]? with
     | none=>rw[q2]at h2';cases h2'
     | some z=>rw[q2]at h2';exact congrArg some h2'
  obtain⟨j,hj,hv⟩:=hsrc;obtain⟨hN,hc⟩:=sok.2 i j x h1 hj;obtain⟨m,_,hl⟩:=I.loc;obtain⟨u,ru,lk⟩:=hl j x v hN hv (.inr (.inl hc));refine⟨u,ru,.inr ⟨hvis i x h1 (by rw[hj];intro z;cases z),?_⟩⟩;rcases lk with⟨k,_⟩ | ⟨_,c,ec,hcell⟩
  ·have k':X.env.scope.names.lookup x=some .local:=k
   rw[hc]at k';cases k'
  ·obtain⟨c',ec'⟩:=cok.has x (hvis i x h1 (by rw[hj];intro z;cases z))
   have:=cok.sub x c' ec';rw[ec]at this;cases this;obtain⟨o,ho,hd⟩:=hcell;exact⟨c,ec',o,old c o ho,hd⟩
 ·obtain⟨v,o,ho,hd⟩:=I.cell x c (cok.sub x c e)
  exact⟨v,o,old c o ho,hd⟩
 ·exact I.fc x c (cok.sub x c e)
 ·have hp':p∈(X.pn++pins)++[]:=hp
  rw[vP]at hp';obtain⟨e,n,ne,nf,d⟩:=I.pin p hp';refine⟨old _ _ e,n,wL (wz e),λz=>?_,d⟩;exact(wK.mp (I.lB p.1 z)).elim ne nf
 ·show(dF src σ).length=N'.length
  unfold dF;rw[wm,sok.1]
end
def Tt:TT:=λ_ H Q=>Q true H
def nV(X:Cx)(ifs:List Expr)(t:TT):Prop :=
 ∀(pins:List (wg × Obj))(s:wl)(σ : St)(H:Hp)(Q:Bool->Hp->Prop),Inv X pins σ H s->t σ H Q ->
  wt (model X.prog X.w) X.A (forIn ifs true λc r=>if r=true then do let ok <- isTrue c X.env (eval c X.env);pure (ForInStep.yield ok)else pure (ForInStep.yield r)) (TP X pins σ Q) X.xe s
theorem eI{X:Cx} : nV X [] Tt:=λ_ _ _ H _ I h=>wpAny_tests_nil ⟨H,I,h⟩
theorem lM{X:Cx}{c:Expr}{t:TT}(hc:PT X c t):nV X [c] t:=λpins s σ H Q I h=>wpAny_tests_one (hc pins s σ H Q I h)
section
variable{prog:wE}{w:World}{A:w5}{R:Result->wl->Prop}{s:wl}
theorem zp3{elt target iter:Expr}{ifs:List Expr}{scope:Scope}{pos:Pos}{it acc:wf}{env:Env}(I:Nat->wl->Prop)
   (turn:∀n s,I n s->wt (model prog w) A (Vn it) (λr s₁=>match r with
     | none=>R (.ok .next) s₁
     | some v=>wt (model prog w) A (Qi target it v) (λ_ s₁'=>wt (model prog w) A (assign target env v) (λ_ s₂ =>
         wt (model prog w) A (forIn ifs true λc r=>if r=true then do let ok <- isTrue c env (eval c env);pure (ForInStep.yield ok)else pure (ForInStep.yield r)) (λok s₃ =>
           if ok=true then wt (model prog w) A (eval elt env) (λx s₄ =>
             wt (model prog w) A (call (.builtin "list.append") [acc,x]) (λ_ s₅=>∃m,m<n/\I m s₅) (λ_ _=>False) s₄) (λ_ _=>False) s₃
           else ∃m,m<n/\I m s₃) (λ_ _=>False) s₂) (λ_ _=>False) s₁') (λ_ _=>False) s₁) (λ_ _=>False) s)
   (n:Nat) (h:I n s):codeAny (model prog w) A (.compLoop (.ListComp elt [⟨target,iter,ifs,0⟩] scope pos) 0 it acc env) R s:=by
 refine codeAny_loop rfl I (λn s hI=>?_) n h
 show wt _ A ((compTurn (.ListComp elt [⟨target,iter,ifs,0⟩] scope pos) 0 it acc env).onRaise (λx=>do noteFrame x env;theTreesLotGoes x)) _ _ s
 refine wpAny_noted ?_;rw[compTurn_list];refine we (qW (we (WF (turn n s hI) (λr s₁ h₁=>?_) λ_ _ h'=>h'.elim)));cases r with
 | none=>exact wp h₁
 | some v =>
   refine we (WF h₁ (λ_ s₁' h₁'=>?_) λ_ _ h'=>h'.elim);refine we (WF h₁' (λ_ s₂ h₂=>we (WF h₂ (λok s₃ h₃=>?_) λ_ _ h'=>h'.elim)) λ_ _ h'=>h'.elim);cases ok with
   | false=>exact wp ⟨rfl,h₃⟩
   | true=>exact we (we (WF h₃ (λx s₄ h₄=>we (WF h₄ (λ_ s₅ h₅=>wp (wp ⟨rfl,h₅⟩)) λ_ _ h'=>h'.elim)) λ_ _ h'=>h'.elim))
end
def jV(g:TG)(tt:TT)(te:TE)(J:It)(D:wg)(σ0:St)(H0:Hp)(Q:Hp->Prop):Prop :=
 ∃W:Nat->Nat->St->Hp->Prop,(∃m,W 0 m σ0 H0) /\ ∀i m σ' H',W i m σ' H' ->
  (J.stop i H'/\Q H')\/(J.go i H' /\ ∃M:St->Hp->Prop,(∀σ2 H2,M σ2 H2->∃m',m'<m/\W (i+1) m' σ2 H2) /\
   ∀x H2,J.fC i H' x H2->g x σ' H2 λσ3 H3=>tt σ3 H3 λok H4=>if ok=true then te σ3 H4 λy H5=>∃ys,H5 D=some (.lst ys)/\ys.length<wZ/\M σ3 (upd H5 D (.lst (ys++[y])))else M σ3 H4)
def jy(src:List (Option Nat))(wi:TI)(g:TG)(tt:TT)(te:TE):TE:=λσ H Q=>wi σ H λJ H1=>∀D,H1 D=none->jV g tt te J D (dF src σ) (upd H1 D (.lst [])) (λH'=>Q (.ref D) H')
structure zF(Y:Cx)(tg:Expr)(J:It)(fp:List wg)(it:wg)(tn:Nat->wJ->Prop):Prop where
 item:∀(i:Nat)(pins:List (wg × Obj))(s:wl)(σ : St)(H:Hp)(E:wf->wl->Prop),Inv Y pins σ H s->(∀b∈fp,d6 Y pins H b)->tn i s.heap->J.go i H ->
   wt (model Y.prog Y.w) Y.A (Vn (.ref it)) (λr s1=>∃u,r=some u/\wt (model Y.prog Y.w) Y.A (Qi tg (.ref it) u) (λ_ s2=>∃x H',Inv Y pins σ H' s2/\aP x u/\J.fC i H x H'/\tn (i+1) s2.heap /\ ∀b∈fp,H' b=none) E s1) E s
 done:∀(i:Nat)(pins:List (wg × Obj))(s:wl)(σ : St)(H:Hp)(E:wf->wl->Prop),Inv Y pins σ H s->(∀b∈fp,d6 Y pins H b)->tn i s.heap->J.stop i H ->
   wt (model Y.prog Y.w) Y.A (Vn (.ref it)) (λr s1=>r=none/\Inv Y pins σ H s1) E s
theorem iL.N8{P:wE}{w:World}{K:wb}{tg:Expr}{J:It}{fp:List wg}{it:wg}{tn:Nat->wJ->Prop}(T:iL P w K tg J fp it tn){Y:Cx}(h1:Y.prog=P)(h2:Y.w=w)(h3:Y.K=K)(hc:Y.calm=true):zF Y tg J fp it tn:=by
 subst h1 h2 h3;exact⟨T.item Y rfl rfl rfl hc,T.done Y rfl rfl rfl hc⟩
section
variable{X:Cx}{pins:List (wg × Obj)}{σ : St}{H:Hp}{s:wl}{N':List Str}{scope:Scope}{cl:List (Str × wg)}{src:List (Option Nat)}{elt tgt iter:Expr}{ifs:List Expr}{pos:Pos}{wi:TI}{g:TG}{tt:TT}{te:TE}
structure mq(X:Cx)(N':List Str)(scope:Scope)(cl:List (Str × wg))(src:List (Option Nat)):Prop where
 kind:scope.kind=.function
 cell:∀y∈scope.names,y.2≠.cell
 names:∀y∈scope.names,y.2=.local->scope.names.lookup y.1=some .local
 jO:Sk X scope cl
 Y6:Pp X N' src
 CM:∀(i:Nat) x,N'[i]? = some x->src[i]? ≠ some none->(relabel scope X.env).names.lookup x=some .cell\/(relabel scope X.env).names.lookup x=some .free
theorem Df{it:wg}{fp:List wg}{tn:Nat->wJ->Prop}{J:It}{RQ:wg->Hp->Prop}{E:wf->wl->Prop}{RR:wf->wg->Result->wl->Prop}
   (TC:∀C s₀ H₀,zF (dg X N' scope cl C s₀ H₀ fp pins) tgt J fp it tn) (ok:mq X N' scope cl src)
   (hg:∀C s₀ H₀ fp pins,PG (dg X N' scope cl C s₀ H₀ fp pins) tgt g) (ht:∀C s₀ H₀ fp pins,nV (dg X N' scope cl C s₀ H₀ fp pins) ifs tt) (he:∀C s₀ H₀ fp pins,PE (dg X N' scope cl C s₀ H₀ fp pins) elt te)
   (I:Inv X pins σ H s) (T:iL X.prog X.w X.K tgt J fp it tn) (st:tn 0 s.heap) (hf:∀b∈fp,d6 X pins H b)
   (rd:∀D,H D=none->jV g tt te J D (dF src σ) (upd H D (.lst [])) (λH'=>RQ D H'))
   (hRR:∀D C H' s' m,Inv X pins σ H' s'->s'.heap.Ns C m->d6 X pins H' C->RQ D H'->RR (.ref D) C (.ok .next) s') :
   wt (model X.prog X.w) X.A (newList []) (λacc s₃=>wt (model X.prog X.w) X.A (newFunctionEnv scope X.env.globals cl [] X.env.qual none .none (some X.env)) (λcenv s₄ =>
     codeAny (model X.prog X.w) X.A (.compStart (.ListComp elt [⟨tgt,iter,ifs,0⟩] scope pos) 0 (.ref it) acc {cenv with scope:=relabel scope X.env}) (RR acc cenv.locals) s₄) E s₃) E s:=by
 refine WA ?_ (by show 0<=wZ;exact Wy _);have hD:H s.heap.objs.size=none:=I.aA.fresh (wo _)
 have I3:Inv X pins σ (upd H s.heap.objs.size (.lst [])) {s with heap:=s.heap.push {cls:=.type "list",data:=.seq ([]:List wf).toArray}} :=
   I.Js (ys:=[]) (its:=[]) (t':=s.toks) .nil (Wy _)
 have old3:∀b o,s.heap.get? b=some o->(s.heap.push {cls:=.type "list",data:=.seq ([]:List wf).toArray}).get? b=some o:=λb o e=>wn _ e
 have lt0:∀b∈fp,b<s.heap.objs.size:=λb hb=>by
   obtain⟨o,e,_⟩:=T.obj 0 _ st b hb;exact wz e
 have hf3:∀b∈fp,d6 X pins (upd H s.heap.objs.size (.lst [])) b:=λb hb=>⟨by rw[dW (wL (lt0 b hb))];exact(hf b hb).1,(hf b hb).2⟩
 have lt3:∀b∈fp,b<(s.heap.push {cls:=.type "list",data:=.seq ([]:List wf).toArray}).objs.size:=λb hb=>by
   rw[W0];exact WS (lt0 b hb)
 have st3:tn 0 (s.heap.push {cls:=.type "list",data:=.seq ([]:List wf).toArray}):=T.keep _ _ _ st λb _ o e=>old3 b o e
 obtain⟨W,⟨m0,w0⟩,turn⟩:=rd _ hD;generalize hs3:({s with heap:=s.heap.push {cls:=.type "list",data:=.seq ([]:List wf).toArray}} : wl)=s3 at I3 ⊢;have hh3:s3.heap=s.heap.push {cls:=.type "list",data:=.seq ([]:List wf).toArray}:=by rw[<- hs3]
 rw[<- hh3]at lt3 st3;clear old3 hs3 hh3;generalize hD':s.heap.objs.size=D at *
 refine wpAny_newFunctionEnv ok.cell (by intro y hy;cases hy) (λh₁ hns₁ hsb₁=>?_) ok.kind;have old:∀b o,s3.heap.get? b=some o->h₁.get? b=some o:=λb o e=>hsb₁.extBut b o (wL (wz e)) (wn _ e)
 have hC:d6 X pins (upd H D (.lst [])) s3.heap.objs.size:=I3.jj (wo _) (I3.aA.fresh (wo _))
 have IB:∀tk,Inv (dg X N' scope cl s3.heap.objs.size s3 (upd H D (.lst [])) fp pins) [] (dF src σ) (upd H D (.lst [])) {s3 with heap:=h₁,toks:=tk}:=λtk =>
   I3.block ok.kind ok.jO ok.Y6 hf3 lt3 hns₁ old ok.CM
 have stB:tn 0 h₁:=T.keep _ _ _ st3 λb _ o e=>old b o e
 have stat:∀{H':Hp} ,(∀b∈fp,H' b=none)->∀b∈fp,d6 (dg X N' scope cl s3.heap.objs.size s3 (upd H D (.lst [])) fp pins) [] H' b:=λhn b hb=>by
   obtain⟨_,f1,f2,f3,f4,f5⟩:=hf3 b hb;refine⟨hn b hb,wL (lt3 b hb),λz=>(wK.mp (I3.lB b z)).elim f1 f2,.inl hb,λx c e=>f4 x c (ok.jO.sub x c e),λp hp=>?_⟩;have hp':p∈(X.pn++pins)++[]:=hp;rw[vP]at hp';exact f5 p hp'
 have back:∀{σ':St}{H':Hp}{s':wl},Inv (dg X N' scope cl s3.heap.objs.size s3 (upd H D (.lst [])) fp pins) [] σ' H' s'->Inv X pins σ H' s'/\(∃m,s'.heap.Ns s3.heap.objs.size m)/\d6 X pins H' s3.heap.objs.size:=λ{σ' H' s'} J=>by
   obtain⟨m,hn,_⟩:=J.loc;refine⟨I3.Jg (ch:=fp) J.os J.base J.aA J.bare (λb hb=>?_),⟨m,hn⟩,⟨J.free,hC.2⟩⟩;obtain⟨_,f1,_,f3,f4,f5⟩:=hf3 b hb;exact⟨f3,f1,f4,f5⟩
 have loop:∀tk,codeAny (model X.prog X.w) X.A (.compLoop (.ListComp elt [⟨tgt,iter,ifs,0⟩] scope pos) 0 (.ref it) (.ref D) (compEnvC scope cl s3.heap.objs.size X.env)) (RR (.ref D) s3.heap.objs.size) {s3 with heap:=h₁,toks:=tk}:=by
   intro tk
   refine zp3 (λn s'=>∃i σ' H',Inv (dg X N' scope cl s3.heap.objs.size s3 (upd H D (.lst [])) fp pins) [] σ' H' s'/\tn i s'.heap/\(∀b∈fp,H' b=none)/\W i n σ' H') ?_ m0
     ⟨0,_,_,IB tk,stB,λb hb=>(hf3 b hb).1,w0⟩
   rintro n s4 ⟨i,σ4,H4,I4,st4,fr4,w4⟩;rcases turn i n σ4 H4 w4 with⟨stop,q⟩ | ⟨go,M,hM,step⟩
   . refine aD ((TC _ _ _).done i [] s4 σ4 H4 (λ_ _=>False) I4 (stat fr4) st4 stop) λr s5 ⟨hr,I5⟩=>?_
     subst hr;obtain⟨J,⟨m,hn⟩,hCf⟩:=back I5;exact hRR D _ H4 s5 m J hn hCf q
   . refine aD ((TC _ _ _).item i [] s4 σ4 H4 (λ_ _=>False) I4 (stat fr4) st4 go) λr s5 ⟨u,hr,h5⟩=>?_
     subst hr;refine aD h5 λ_ s6 ⟨x,H6,I6,r6,y6,st6,fr6⟩=>?_
     have I6':=I6.pinned (stat fr6) (T.obj _ _ st6)
     have again:∀{σ7:St}{H7:Hp}{s7:wl},Inv (dg X N' scope cl s3.heap.objs.size s3 (upd H D (.lst [])) fp pins) ([]++rJ fp s6.heap) σ7 H7 s7->M σ7 H7 ->
         ∃m,m<n /\ ∃i σ' H',Inv (dg X N' scope cl s3.heap.objs.size s3 (upd H D (.lst [])) fp pins) [] σ' H' s7/\tn i s7.heap/\(∀b∈fp,H' b=none)/\W i m σ' H':=λ{σ7 H7 s7} I7 n7=>by
       obtain⟨m',hm,w7⟩:=hM σ7 H7 n7;refine⟨m',hm,i+1,σ7,H7,I7.sr,T.keep _ _ _ st6 λb hb o e=>(I7.pin (b,o) (Wa _ (Wa _ (Ah hb e)))).1,λb hb=>?_,w7⟩;obtain⟨o,e,d⟩:=T.obj _ _ st6 b hb;exact(I7.pin (b,o) (Wa _ (Wa _ (Ah hb e)))).2.1
     refine aD (hg _ _ _ _ _ _ s6 σ4 H6 x u _ I6' r6 (step x H6 y6)) λ_ s7 ⟨σ7,H7,I7,q7⟩=>?_
     refine aD (ht _ _ _ _ _ _ s7 σ7 H7 _ I7 q7) λk s8 ⟨H8,I8,q8⟩=>?_
     cases k with
     | false=>exact again I8 q8
     | true =>
       rw[if_pos rfl]at q8 ⊢;refine aD (he _ _ _ _ _ _ s8 σ7 H8 _ I8 q8) λy s9 ⟨yv,H9,I9,r9,ys,hys,hz,q9⟩=>?_
       exact aD (jE _ s9 σ7 H9 (.ref D) [yv] (.ref D) [y] (λ_ H'=>M σ7 H') I9 rfl (.cons r9 .nil) ⟨D,ys,yv,rfl,rfl,hys,hz,q9⟩) λ_ s10 ⟨_,H10,I10,_,q10⟩=>again I10 q10
 exact codeAny_compStart_list (loop _) (T.self _ _ _ _ _ stB (loop _))
theorem eC(hc:X.calm=true)(ok:mq X N' scope cl src)(hi:PI X tgt iter wi)
  (hg:∀C s₀ H₀ fp pins,PG (dg X N' scope cl C s₀ H₀ fp pins) tgt g) (ht:∀C s₀ H₀ fp pins,nV (dg X N' scope cl C s₀ H₀ fp pins) ifs tt) (he:∀C s₀ H₀ fp pins,PE (dg X N' scope cl C s₀ H₀ fp pins) elt te)
  (hs:∀x,foldedSetIterable iter X.env x=pure x:=by intro _;rfl):PE X (.ListComp elt [⟨tgt,iter,ifs,0⟩] scope pos) (jy src wi g tt te):=by
 intro pins s σ H Q I h;rw[eval_ListComp];refine Qu (use:=none) rfl hs ok.jO.jO ok.kind ok.names (aD (hi pins s σ H _ I h) λv s1 h1=>aD h1 λitv s2 h2=>?_);obtain⟨it,fp,tn,J,H2,e,I2,T,st2,f2,rd⟩:=h2;subst e;refine Df (RQ:=λD H'=>Q (.ref D) H') (RR:=λacc C=>compPost (model X.prog X.w) X.A X.xe none (EP X pins σ Q) acc C) (λ_ _ _=>T.N8 rfl rfl rfl hc) ok hg ht he I2 T st2 f2 rd ?_;intro D C H' s' m J hn hC q;obtain⟨c0,c1,_,c3,c4,c5⟩:=hC;exact⟨m,hn,λh' sb=>⟨.ref D,H',J.turned (t':=s'.toks) (λb o hb e=>(sb.2 b hb).trans e) c0 c1 c3 c4 c5,rfl,q⟩⟩
theorem nv{i:Nat}{y:Str}{py spos:Pos}(hN:X.N.Nodup)(hy:X.N[i]? = some y)(hly:Loc X.env.scope y)(hc:X.calm=true)(ok:mq X N' scope cl src)(hi:PI X tgt iter wi)
  (hg:∀C s₀ H₀ fp pins,PG (dg X N' scope cl C s₀ H₀ fp pins) tgt g) (ht:∀C s₀ H₀ fp pins,nV (dg X N' scope cl C s₀ H₀ fp pins) ifs tt) (he:∀C s₀ H₀ fp pins,PE (dg X N' scope cl C s₀ H₀ fp pins) elt te)
  (hsw:swapsWith (.ListComp elt [⟨tgt,iter,ifs,0⟩] scope pos) (some (.Name y py)) spos.line X.env=pure true:=by rfl)
  (hs:∀x,foldedSetIterable iter X.env x=pure x:=by intro _;rfl) (hf:X.fn y=true\/X.env.scope.names.lookup y=some .local:=by first | exact .inl rfl | exact .inr rfl | assumption) :
  PS X (.Assign [.Name y py] (.ListComp elt [⟨tgt,iter,ifs,0⟩] scope pos) spos) (kT (jy src wi g tt te) (fG i)):=by
 intro pins s σ H D0 I h;rw[exec_Assign_Name_used _ _ _ _ hsw];refine we (qW (we ?_))
 show wt _ X.A (do let _ <- comprehension (.ListComp elt [⟨tgt,iter,ifs,0⟩] scope pos) scope X.env _ (newList []) false (eval iter X.env) (some (assign (.Name y py) X.env))) _ _ s
 refine we (WF (Qu (Q:=λ_ s'=>SP X pins D0 .next s') rfl hs ok.jO.jO ok.kind ok.names (aD (hi pins s σ H _ I h) λv s1 h1=>aD h1 λitv s2 h2=>?_))
  (λ_ s' hq=>wp (wp hq)) λ_ _ e=>e)
 obtain⟨it,fp,tn,J,H2,e,I2,T,st2,f2,rd⟩:=h2;subst e;refine Df (RQ:=λD H'=>fG i (.ref D) σ H' D0.nx) (RR:=λacc C=>compPost (model X.prog X.w) X.A X.xe (some (assign (.Name y py) X.env)) (λ_ s'=>SP X pins D0 .next s') acc C) (λ_ _ _=>T.N8 rfl rfl rfl hc) ok hg ht he I2 T st2 f2 rd ?_;intro D C H' s' m J hn hC q;obtain⟨c0,c1,_,c3,c4,c5⟩:=hC
 show wt _ _ (assign (.Name y py) X.env (.ref D)) _ _ s'
 refine wpAny_assign_Name (Fi J hN hy hly (v:=.ref D) rfl (λs'' J2 ⟨a,sb,ha⟩=>?_) hf)
 have hCa:C≠a:=by
  rcases ha with z | z
  ·rw[z];exact c1
  ·exact(c4 y a z).symm
 exact⟨m,hn.sameBut sb hCa,λh' sb'=>⟨_,H',J2.turned (t':=s''.toks) (λb o hb e=>(sb'.2 b hb).trans e) c0 c1 c3 c4 c5,q⟩⟩
end
variable{T b:wg}
abbrev Oj(h B:wJ)(e:wg)(cls:wf):Prop :=
 ∃oe vs,h.get? e=some oe/\oe.cls=cls/\oe.data=.fields vs/\vs[1]? = some .none/\vs[2]? = some .none/\oe.dict=none/\B.get? e=none
abbrev Rp(h B:wJ)(e:wg)(cls fl:wf):Prop :=
 ∃oe vs T oT ts,h.get? e=some oe/\oe.cls=cls/\oe.data=.fields vs/\vs[1]? = some (.ref T)/\vs[2]? = some .none/\oe.dict=none/\B.get? e=none/\B.get? T=none/\T≠e/\h.get? T=some oT/\oT.data=.fields ts/\ts[3]? = some fl
structure eT(B:wJ)(l:List Env)(e:wg)(cls fl:wf)(h:wJ):Prop where
 st:B.StaysIn h
 fr:h.FunFrames B l
 tr:Rp h B e cls fl
theorem zqn{f:Array wf->Array wf}(o:Obj):(qU f o).dict=o.dict:=by
 obtain⟨c,d,dt,sl⟩:=o;cases dt<;>rfl
theorem lS{h:wJ}{f:Obj->Obj}(n:b≠T):(h.update T f).get? b=h.get? b:=WG _ _ (WI n)
theorem m5{h:wJ}{oT o:Obj}{ts:Array wf}(hT:h.get? T=some oT)(dT:oT.data=.fields ts)(hb:h.get? b=some o)(hn:∀vs,o.data≠.fields vs):b≠T:=by
 rintro rfl;rw[hT]at hb;cases hb;exact hn _ dT
theorem C9{B:wJ}{o:Obj}(n:B.get? T=none)(q:B.get? b=some o):b≠T:=by
 rintro rfl;rw[n]at q;cases q
section
variable{M:Model}{A:w5}{E:wf->wl->Prop}{s:wl}{B:wJ}{l outer:List Env}{env:Env}{L e:wg}{cls fl:wf}{Q:Unit->wl->Prop}
theorem eT.land(F:eT B l e cls fl s.heap)(k:∀h',eT B l e cls .none h'->s.heap.UpToSlots h'->Q () {s with heap:=h'}):wt M A (setFlight (.ref e) none) Q E s:=by
 obtain⟨st,fr,oe,vs,T,oT,ts,he,hc,hd,h1,h2,hdi,be,bT,ne,hT,dT,h3⟩:=F;have sz:3<ts.size:=(W8.mp h3).1;unfold setFlight;refine we (vt he hd h1 ?_);rw[if_pos (by simp)];have at3:∀b,b≠T->(s.heap.update T (qU (·.setIfInBounds 3 Value.none))).get? b=s.heap.get? b:=λb n=>lS n
 have tr:Rp (s.heap.update T (qU (·.setIfInBounds 3 Value.none))) B e cls .none :=
  ⟨oe,vs,T,qU (·.setIfInBounds 3 Value.none) oT,ts.setIfInBounds 3 Value.none,(at3 e ne.symm).trans he,hc,hd,h1,h2,hdi,be,bT,ne,
   Vi _ hT (qK (qy dT _)),qy dT _,by simp[sz]⟩
 refine VD hT dT sz (k _ ⟨λb o q=>(at3 b (C9 bT q)).trans (st b o q),fr.of_keeps λb o hb hn=>⟨o,(at3 b (m5 hT dT hb hn)).trans hb,rfl⟩,tr⟩ λb o hb hn=>⟨o.slots,(at3 b (m5 hT dT hb hn)).trans hb⟩)
theorem Ml{oe:Obj}{vs:Array wf}{head:wf}{had:Bool}(hfr:A.frames=some (env::outer))(hf:env.frame=some L)(st:B.StaysIn s.heap)(fr:s.heap.FunFrames B (env::outer))(he:s.heap.get? e=some oe)
  (hd:oe.data=.fields vs) (sz:1<vs.size) (h2:vs[2]? = some .none) (hdi:oe.dict=none) (be:B.get? e=none) (k:∀h',eT B (env::outer) e oe.cls (V6 L) h'->s.heap.UpToSlots h'->Q () {s with heap:=h'}) :
  wt M A (do let a <- frameOf env;let pl <- entryPlaceOf L had;let b <- XQ head a .none (V6 L) .none pl;setField (.ref e) 1 b) Q E s:=by
 have nfr:e ∉ (env::outer).filterMap (·.frame):=λz=>by
  obtain⟨_,o,ho,hnf⟩:=fr.mem z;rw[he]at ho;cases ho;exact hnf vs hd
 refine we (wpAny_frameOf_fun hfr fr hf λg sg=>we (wpAny_entryPlaceOf λpl hpl=>?_));unfold XQ newFields;refine we (WA ?_ (hpl.sizeOk5 _ _ _ _ _));have eg:g.get? e=some oe:=(sg.2.1 e nfr).trans he
 have stg:B.StaysIn g:=λb o q=>by
  rw[sg.2.1 b λz=>?_]
  ·exact st b o q
  ·rw[(fr.mem z).1]at q;cases q
 generalize hob:({cls:=.type "traceback",data:=.fields ([head,.ref L,.none,V6 L,.none]++(if pl.isEmpty then Q2 6 Value.none else pl)).toArray} : Obj)=tb;have dtb:tb.data=.fields ([head,.ref L,.none,V6 L,.none]++(if pl.isEmpty then Q2 6 Value.none else pl)).toArray:=by rw[<- hob]
 have ftb:tb.isFreed=false:=qK dtb;have e2:=wn (h:=g) tb eg;have neT:g.objs.size≠e:=vn (wz eg)
 have at3:∀b o,b≠e->g.get? b=some o->((g.push tb).update e (qU (·.setIfInBounds 1 (.ref g.objs.size)))).get? b=some o:=λb o n q=>by
  rw[lS n];exact wn _ q
 refine VD e2 hd sz (k _ ?_ ?_)
 ·have d3:=qy hd (·.setIfInBounds 1 (Value.ref g.objs.size))
  refine⟨λb o q=>at3 b o (C9 be q) (stg b o q),fr.of_keeps λb o hb hn=>?_,_,_,g.objs.size,tb,_,Vi _ e2 (qK d3),uv _ _,d3,by simp[sz],?_,?_,be,stg.fresh,neT,?_,dtb,?_⟩
  ·obtain⟨sl,q⟩:=sg.2.2 b o hb
   exact⟨_,at3 b _ (m5 he hd hb hn) q,rfl⟩
  ·rw[Array.getElem?_setIfInBounds_ne (by decide)];exact h2
  ·exact(zqn oe).trans hdi
  ·rw[lS neT];exact wO _ ftb
  ·first | (simp;done) | (rcases hpl with rfl | ⟨_,_,_,_,_,_,_,rfl⟩<;>simp)
 ·exact λb o hb hn=>by
   obtain⟨sl,q⟩:=sg.2.2 b o hb;exact⟨sl,at3 b _ (m5 he hd hb hn) q⟩
theorem zvb(hfr:A.frames=some (env::outer))(hf:env.frame=some L)(st:B.StaysIn s.heap)(fr:s.heap.FunFrames B (env::outer))(t:Oj s.heap B e cls)
  (k:∀h',eT B (env::outer) e cls (V6 L) h'->s.heap.UpToSlots h'->Q () {s with heap:=h'}):wt M A (noteFrame (.ref e) env) Q E s:=by
 obtain⟨oe,vs,he,hc,hd,h1,h2,hdi,be⟩:=t;subst hc;unfold noteFrame;simp only[hf];refine we (vt he hd h1 ?_);rw[if_neg (by decide)];exact Ml hfr hf st fr he hd (W8.mp h1).1 h2 hdi be k
theorem eT.note(F:eT B (env::outer) e cls .none s.heap)(hfr:A.frames=some (env::outer))(hf:env.frame=some L)
  (k:∀h',eT B (env::outer) e cls (V6 L) h'->s.heap.UpToSlots h'->Q () {s with heap:=h'}):wt M A (noteFrame (.ref e) env) Q E s:=by
 obtain⟨st,fr,oe,vs,T,oT,ts,he,hc,hd,h1,h2,hdi,be,bT,ne,hT,dT,h3⟩:=F;subst hc;unfold noteFrame;simp only[hf];refine we (vt he hd h1 ?_);rw[if_pos (by simp)];refine we (vt hT dT h3 ?_);rw[if_neg (by simp[V6])];refine we (VD hT dT (W8.mp h3).1 ?_);refine Ml hfr hf (λb o q=>?_) (fr.of_keeps λb o hb hn=>⟨o,?_,rfl⟩) ?_ hd (W8.mp h1).1 h2 hdi be λh' F' sm=>k h' F' λb o hb hn=>sm b o ?_ hn
 ·show(qD _ _ _).get? b=_
  rw[lS (C9 bT q)];exact st b o q
 ·show(qD _ _ _).get? b=_
  rw[lS (m5 hT dT hb hn)];exact hb
 ·show(qD _ _ _).get? e=_
  rw[lS ne.symm];exact he
 ·show(qD _ _ _).get? b=_
  rw[lS (m5 hT dT hb hn)];exact hb
theorem zsK(hfr:A.frames=some (env::outer))(hf:env.frame=some L)(st:B.StaysIn s.heap)(fr:s.heap.FunFrames B (env::outer))(t:Oj s.heap B e cls)
  (k:∀h',eT B outer e cls .none h'->s.heap.UpToSlots h'->Q () {s with heap:=h'}):wt M A (leaving env (.ref e)) Q E s:=by
 unfold leaving;refine we (zvb hfr hf st fr t λh1 F1 s1=>eT.land F1 λh2 F2 s2=>k h2 ⟨F2.st,F2.fr.2.2,F2.tr⟩ (s1.trans s2))
theorem eT.leave(F:eT B (env::outer) e cls .none s.heap)(hfr:A.frames=some (env::outer))(hf:env.frame=some L)
  (k:∀h',eT B outer e cls .none h'->s.heap.UpToSlots h'->Q () {s with heap:=h'}):wt M A (leaving env (.ref e)) Q E s:=by
 unfold leaving;refine we (F.note hfr hf λh1 F1 s1=>eT.land F1 λh2 F2 s2=>k h2 ⟨F2.st,F2.fr.2.2,F2.tr⟩ (s1.trans s2))
end
theorem cw.there{P:wE}{w:World}{H:Hp}{h:wJ}{a:wg}{o:HO}(x:cw P w H h a o):∃u,h.get? a=some u:=by
 cases o with
 | lst xs=>obtain⟨_,_,_,_,e⟩:=x;exact⟨_,e⟩
 | tup xs=>obtain⟨_,_,_,_,e,_⟩:=x;exact⟨_,e⟩
 | dK kvs=>obtain⟨_,_,_,_,o,_,_,e,_⟩:=x;exact⟨_,e⟩
 | dT kvs=>obtain⟨_,_,_,_,o,_,_,e,_⟩:=x;exact⟨_,e⟩
 | set S n=>obtain⟨o,_,_,_,e,_⟩:=x;exact⟨_,e⟩
 | ins C dx fs=>obtain⟨_,_,_,e,_⟩:=x;exact⟨_,e⟩
 | own y=>exact x
 | xd fs=>obtain⟨_,⟨_,_,_,e,_⟩,_⟩:=x;exact⟨_,e⟩
 | zU lo hi=>obtain⟨_,_,_,e⟩:=x;exact⟨_,e⟩
 | gn ob u=>obtain⟨e,_⟩:=x;exact⟨_,e⟩
 | kG ps=>exact⟨_,x⟩
 | met f y=>exact⟨_,x⟩
 | ext φ=>obtain⟨_,e,_⟩:=x;exact e
structure nQ(B:wJ)(fs:List wg)(H H':Hp)(h:wJ):Prop where
 iT:∀a o,H' a=some o->∃u,B.get? a=some u
 old:∀b o,h.get? b=some o->H b=none->b ∉ fs->B.get? b=some o
 rM:∀b o,h.get? b=some o->b ∉ fs->∃u,B.get? b=some u
def eO(P:wE)(w:World):fL:=λouter H s E e s'=>∃(ex:wg)(C:wf)(H':Hp)(B:wJ),e=.ref ex/\s'.os=s.os/\AllBare s'.gens/\Un (dq outer) [] H H' s.heap s'.heap/\ck P w H' s'.heap /\
 eT B outer ex C .none s'.heap/\nQ B (dq outer) H H' s.heap/\E C none H'
section
variable{B h h1 h':wJ}{fs:List wg}{H H':Hp}{P:wE}{w:World}
theorem nQ.un(ov:nQ B fs H H' h)(un:Un fs [] H H' h h1)(hfs:∀b∈fs,H b=none /\ ∃o,h.get? b=some o /\ ∀vs,o.data≠.fields vs)(st:B.StaysIn h')(sm:h1.UpToSlots h'):Un fs [] H H' h h':=by
 have slot:∀b o,h.get? b=some o->b∈fs->∃sl,h'.get? b=some {o with slots:=sl}:=λb o e hb=>by
  obtain⟨n,o',ho',nr⟩:=hfs b hb;rw[e]at ho';cases ho';obtain⟨sl,e1⟩:=un.any e n (by simp);obtain⟨sl2,e2⟩:=sm b _ e1 nr;exact⟨sl2,e2⟩
 refine⟨λb o e n nf _=>st b o (ov.old b o e n nf),λb o e _ hb _=>slot b o e hb,un.free,λb o e _=>?_,un.gQ,un.gv,un.gR⟩
 by_cases hb:b∈fs
 ·obtain⟨sl,e1⟩:=slot b o e hb
  exact⟨_,e1⟩
 ·obtain⟨u,e1⟩:=ov.rM b o e hb
  exact⟨u,st b u e1⟩
theorem nQ.aA(ov:nQ B fs H H' h)(aA:ck P w H' h1)(st1:B.StaysIn h1)(st:B.StaysIn h'):ck P w H' h':=λa o e=>by
 refine(aA a o e).jP (λb u hb r=>?_) (λ_ z=>z) λ_ _ z=>z
 have:∃v,B.get? b=some v:=by
  rcases hb with rfl | hb
  ·exact ov.iT _ _ e
  ·exact ov.iT _ _ hb
 obtain⟨v,ev⟩:=this;have e2:=st1 b v ev;rw[r]at e2;cases e2;exact st b u ev
end
section
variable{X:Cx}{pins:List (wg × Obj)}{σ : St}{H H':Hp}{s s':wl}{B:wJ}{ex:wg}{C:wf}{E:XK}{E':wf->wl->Prop}
theorem SG(I:Inv X pins σ H s)(hx:X.ex=[])(os:s'.os=s.os)(bare:AllBare s'.gens)(un:Un (dq X.stack) [] H H' s.heap s'.heap)(aA:ck X.prog X.w H' s'.heap)(stB:B.StaysIn s'.heap)(ov:nQ B (dq X.stack) H H' s.heap)
  (q:E C none H') (fly:∀(Q:Unit->wl->Prop),(∀h',eT B X.outer ex C .none h'->s'.heap.UpToSlots h'->Q () {s' with heap:=h'})->wt (model X.prog X.w) X.A (leaving X.env (.ref ex)) Q E' s') :
  wt (model X.prog X.w) X.A (leaving X.env (.ref ex)) (λ_ s''=>eO X.prog X.w X.outer X.H₀ X.s₀ E (.ref ex) s'') E' s':=by
 have base:Un X.fs [] X.H₀ H X.s₀.heap s.heap:=by have:=I.base;rwa[hx]at this
 have nL:∀b o,X.s₀.heap.get? b=some o->b ∉ X.fs->b ∉ dq X.stack:=λb o e n z=>by
  rcases wK.mp (I.lB b z)with r | r
  ·exact wL (wW (wz e) I.ok.above) r
  ·exact n r
 have old:∀b o,X.s₀.heap.get? b=some o->X.H₀ b=none->b ∉ X.fs->B.get? b=some o:=λb o e n nf =>
  ov.old b o (base.keep b o e n nf (by simp)) (base.free b o e n (by simp)) (nL b o e nf)
 have rM:∀b o,X.s₀.heap.get? b=some o->b ∉ X.fs->∃u,B.get? b=some u:=λb o e nf=>by
  obtain⟨o',e1⟩:=base.there b o e (by simp);exact ov.rM b o' e1 (nL b o e nf)
 refine fly _ λh' F sm=>⟨ex,C,H',B,rfl,os.trans I.os,bare,⟨λb o e n nf _=>F.st b o (old b o e n nf),λb o e n hb _=>?_,λb o e n _=>?_,λb o e _=>?_,λb xs e=>un.gQ b xs (base.gQ b xs e),
  λb o u e=>un.gv b o u (base.gv b o u e),λb ps e=>?_⟩,λa o e=>?_,F,⟨ov.iT,old,rM⟩,q⟩
 ·obtain⟨sl,e1⟩:=base.slot b o e n hb (by simp)
  obtain⟨sl',e2⟩:=un.any e1 (base.free b o e n (by simp)) (by simp);obtain⟨_,o',ho',nr⟩:=I.ok.eB.mem hb;rw[e]at ho';cases ho';obtain⟨sl2,e3⟩:=sm b _ e2 nr;exact⟨sl2,e3⟩
 ·obtain⟨o',e1⟩:=base.there b o e (by simp)
  exact un.free b o' e1 (base.free b o e n (by simp)) (by simp)
 ·by_cases hb:b∈X.fs
  ·obtain⟨_,o',ho',nr⟩:=I.ok.eB.mem hb
   rw[e]at ho';cases ho';have n:X.H₀ b=none:=I.ok.h_ b hb;obtain⟨sl,e1⟩:=base.slot b o e n hb (by simp);obtain⟨sl',e2⟩:=un.any e1 (base.free b o e n (by simp)) (by simp);obtain⟨sl2,e3⟩:=sm b _ e2 nr;exact⟨_,e3⟩
  ·obtain⟨u,e1⟩:=rM b o e hb
   exact⟨u,F.st b u e1⟩
 ·obtain⟨m1,e1⟩:=base.gR b ps e
  obtain⟨m2,e2⟩:=un.gR b _ e1;exact⟨m1++m2,by rw[e2,XX]⟩
 ·refine(aA a o e).jP (λb u hb r=>?_) (λ_ z=>z) λ_ _ z=>z
  have:∃v,B.get? b=some v:=by
   rcases hb with rfl | hb
   ·exact ov.iT _ _ e
   ·exact ov.iT _ _ hb
  obtain⟨v,ev⟩:=this;have e2:=stB b v ev;rw[r]at e2;cases e2;exact F.st b u ev
theorem zvD{e:wf}(I:Inv X pins σ H s)(hx:X.ex=[])(hs:X.stack=X.env::X.outer)(hf:X.env.frame=some X.env.locals)(h:eO X.prog X.w X.stack H s E e s') :
  wt (model X.prog X.w) X.A (leaving X.env e) (λ_ s''=>eO X.prog X.w X.outer X.H₀ X.s₀ E e s'') E' s':=by
 obtain⟨ex,C,H',B,rfl,os,bare,un,aA,F,ov,q⟩:=h;rw[hs]at F;exact SG I hx os bare un aA F.st ov q λQ k=>F.leave (I.ok.frames.trans (congrArg some hs)) hf k
theorem ztE{h':wJ}{vs:List wf}(I:Inv X pins σ H s)(hx:X.ex=[])(hs:X.stack=X.env::X.outer)(hf:X.env.frame=some X.env.locals)(m:Uz s.heap h' ex C vs)(q:E C none H) :
  wt (model X.prog X.w) X.A (leaving X.env (.ref ex)) (λ_ s''=>eO X.prog X.w X.outer X.H₀ X.s₀ E (.ref ex) s'') E' {s with heap:=h'}:=by
 obtain⟨B,hB⟩:∃B,B=Uc s.heap (dq X.stack):=⟨_,rfl⟩;have hin:∀env∈X.stack,∀b,env.frame=some b->b∈dq X.stack:=λenv he b hb=>Qj.mpr ⟨env,he,hb⟩
 have frB:s.heap.FunFrames B X.stack:=by rw[hB];exact PySem.W.funFrames_hide I.stack hin
 have getB:∀{b o},s.heap.get? b=some o->b ∉ dq X.stack->B.get? b=some o:=λe n=>by rw[hB];exact XJ _ e n
 have ofB:∀{b o},B.get? b=some o->s.heap.get? b=some o:=λr=>by rw[hB]at r;exact XW _ r
 have nfr:∀a o,H a=some o->a ∉ dq X.stack:=λa o e z=>by
  have:=I.sD a z;rw[e]at this;cases this
 obtain⟨t,he,_,_⟩:=m.there
 refine SG (B:=B) (s':={s with heap:=h'}) I hx rfl I.bare (Un.kept m.keeps) (I.aA.kept m.keeps) (λb o r=>m.keeps b o (ofB r))
  ⟨λa o e=>?_,λb o e _ nf=>getB e nf,λb o e nf=>⟨o,getB e nf⟩⟩ q λQ k=>?_
 ·obtain⟨u,e1⟩:=(I.aA a o e).there
  exact⟨u,getB e1 (nfr a o e)⟩
 ·rw[hs]at frB
  refine zsK (s:={s with heap:=h'}) (I.ok.frames.trans (congrArg some hs)) hf (λb o r=>m.keeps b o (ofB r)) (frB.of_keeps λb o hb _=>⟨o,m.keeps b o hb,rfl⟩) ⟨_,_,he,rfl,rfl,rfl,rfl,rfl,?_⟩ k;cases z:B.get? ex with
  | none=>rfl
  | some o =>
   have:=ofB z;rw[m.new]at this;cases this
end
variable{K:wb}{base:wJ}{qual:Str}
theorem yS{P:wE}{w:World}{mg:Str->Option wf}{N:List Str}{scope:Scope}{f:wg}{cd:wf}{A:w5}{outer:List Env}{s:wl}{H:Hp}{E:XK} :
  nk (eO P w) (gy (eO P w) P w K mg base N qual scope f cd A outer s H E) E:=λpins σ H1 s1 e s' I h=>zvD I rfl rfl rfl h
def Ph(X:Cx)(C:wf)(E:XK):Prop:=∀(pins:List (wg × Obj))(σ : St)(H:Hp)(s:wl)(h':wJ)(ex:wg)(vs:List wf),Inv X pins σ H s->Uz s.heap h' ex C vs->E C none H->X.xe (.ref ex) {s with heap:=h'}
theorem JV{P:wE}{w:World}{mg:Str->Option wf}{N:List Str}{scope:Scope}{f:wg}{cd C:wf}{A:w5}{outer:List Env}{s:wl}{H:Hp}{E:XK} :
  Ph (gy (eO P w) P w K mg base N qual scope f cd A outer s H E) C E:=λpins σ H1 s1 h' ex vs I m q=>ztE I rfl rfl rfl m q
def oS:List wf:=[.type "ValueError",.type "Exception",.type "BaseException",.type "object"]
theorem zAh{h:wJ}{C:wg}{bmB:List wf}{newId:String}(X:K.In h)(q:qu K C bmB newId=true) :
  ∃bm N nm qn bs hd sn sub ab col dd k0 k1 k2 k3 k5 mN,h.get? C=some (excClassObj nm qn C N bs bm hd sn sub ab col dd k0 k1 k2 k3 k5 newId)/\h.Ns N mN/\mN "__init__"=none/\OwnTail h bmB bm:=by
 unfold qu at q
 split at q
 case h_2=>cases q
 rename_i dd cd sl ho
 split at q
 case h_2=>cases q
 rename_i C' bm k0 k1 k2 k3 n k5 hm hs;simp only[w9,beq_iff_eq,Vv]at q;obtain⟨⟨⟨⟨⟨rfl,rfl⟩,hdel⟩,ht⟩,aA⟩,hni⟩:=q;obtain⟨nm,bs,mro,ns,qn,hd,sn,sub,ab,col,del⟩:=cd;dsimp only at hm hdel aA hni;subst hm hdel
 have e:sl = #[k0,k1,k2,k3,some (.builtin n),k5]:=by
  cases sl;simp only at hs;rw[hs]
 subst e;exact⟨bm,ns,nm,qn,bs,hd,sn,sub,ab,col,dd,k0,k1,k2,k3,k5,_,X _ _ ho,.of_isNs (PySem.W.isNs_of_in X aA),PySem.W.nsMap_none_of_in X aA hni,PySem.W.tail_of_in X ht⟩
section
variable{X:Cx}{x:Str}{C:wg}{E:XK}{e:Expr}{es:List Expr}{t:TA}{np cpos pos:Pos}
def M0(C:wf)(E:XK)(t:TA):TS:=λ_ σ H=>t σ H λvs H1=>vs.length<=wZ/\E C none H1
theorem Nl(q:qu X.K C oS "ValueError.__new__"=true)(hc:X.calm=true)(hg:Gl X x)(hm:X.mg x=some (.ref C))(Z:Ph X (.ref C) E)(ha:PA X (e::es) t)(hdb:(x == ("__debug__" : Str))=false:=by decide)
  (he:wX (e::es) X.env=(false,eval e X.env)::wX es X.env:=by rfl) (hpl:(VN cpos (wX es X.env)).any (·.1)=false:=by rfl) :
  PS X (.Raise (some (.Call (.Name x np) (e::es) [] cpos)) none pos) (M0 (.ref C) E t):=by
 intro pins s σ H D I h;obtain⟨bm,N,nm,qn,bs,hd,sn,sub,ab,col,dd,k0,k1,k2,k3,k5,mN,hC,hN,hni,T⟩:=zAh I.ok.mod.ma q
 refine wpAny_Raise_call_subU (C:=C) (nm:=nm) (q:=qn) (N:=N) (bs:=bs) (bm:=bm) (hdct:=hd) (sn:=sn) (sub:=sub) (ab:=ab) (col:=col) (dd:=dd) (k0:=k0) (k1:=k1) (k2:=k2) (k3:=k3) (k5:=k5)
  XB (by decide) XB (mN:=mN) (T.hasType (by decide)) (I.ok.hd hc) (by rw[he];show(false || (VN cpos (wX es X.env)).any (·.1))=false;rw[hpl];rfl) hni (nI I hg hm ⟨rfl,?_⟩ hdb)
 have ha':=ha cpos pins s σ H _ I h;rw[he]at ha' ⊢;refine Xx (WF ha' (λus s2 ⟨vs,H2,I2,r,z,q2⟩=>⟨rfl,by rw[<- r.length];exact z,I2.bk _ _ hC,hN.keeps I2.bk,T.keeps I2.bk,λh' ex m=>Z pins σ H2 s2 h' ex us I2 m q2⟩) λ_ _ y=>y)
end
abbrev Cx.at(X:Cx)(pn:List (wg × Obj))(E:wf->wl->Prop):Cx:={X with pn:=pn,xe:=E}
abbrev Cx.oC(X:Cx)(pn:List (wg × Obj))(ex:wg)(oe:Obj):Cx:={X with pn:=pn++[(ex,oe)],xe:=λ_ _=>False,A:=X.A.mark (some (.ref ex)),calm:=false}
section
variable{X:Cx}{pins pins':List (wg × Obj)}{σ : St}{H:Hp}{s:wl}{ex:wg}{oe:Obj}
theorem Inv.Za(I:Inv X pins σ H s)(E:wf->wl->Prop):Inv (X.at (X.pn++pins) E) [] σ H s :=
 ⟨⟨I.ok.mod,I.ok.kind,I.ok.glob,I.ok.blt,I.ok.above,I.ok.inj,I.ok.has,I.ok.jQ,I.ok.hd,I.ok.frames,I.ok.k_,I.ok.nX,I.ok.bs,I.ok.gE,I.ok.jN,I.ok.ky,I.ok.eB,I.ok.h_⟩,I.os,I.bare,I.base,I.loc,I.cell,I.free,I.fc,
  λp hp=>I.pin p (by rw[vP]at hp;exact hp),I.aA,I.len⟩
theorem Inv.oD{E:wf->wl->Prop}(I:Inv (X.at (X.pn++pins) E) pins' σ H s):Inv X pins σ H s :=
 ⟨⟨I.ok.mod,I.ok.kind,I.ok.glob,I.ok.blt,I.ok.above,I.ok.inj,I.ok.has,I.ok.jQ,I.ok.hd,I.ok.frames,I.ok.k_,I.ok.nX,I.ok.bs,I.ok.gE,I.ok.jN,I.ok.ky,I.ok.eB,I.ok.h_⟩,I.os,I.bare,I.base,I.loc,I.cell,I.free,I.fc,
  λp hp=>I.pin p (Wp _ hp),I.aA,I.len⟩
theorem Inv.Y1(I:Inv X pins σ H s)(he:s.heap.get? ex=some oe)(hn:H ex=none)(nl:ex≠X.env.locals)(nf:ex ∉ X.fs)(nc:∀v,oe.data≠.cell v):Inv (X.oC (X.pn++pins) ex oe) [] σ H s :=
 ⟨⟨I.ok.mod,I.ok.kind,I.ok.glob,I.ok.blt,I.ok.above,I.ok.inj,I.ok.has,I.ok.jQ,λz=>uZ z,I.ok.frames,I.ok.k_,I.ok.nX,I.ok.bs,I.ok.gE,I.ok.jN,I.ok.ky,I.ok.eB,I.ok.h_⟩,I.os,I.bare,I.base,I.loc,I.cell,I.free,I.fc,
  λp hp=>by
   rw[vP]at hp;rcases Ws.mp hp with z | z
   ·exact I.pin p z
   ·cases vi.mp z
    exact⟨he,hn,nl,nf,nc⟩,I.aA,I.len⟩
theorem Inv.sP(ok:X.Ok)(I:Inv (X.oC (X.pn++pins) ex oe) pins' σ H s):Inv X pins σ H s :=
 ⟨ok,I.os,I.bare,I.base,I.loc,I.cell,I.free,I.fc,λp hp=>I.pin p (Wp _ (Wp _ hp)),I.aA,I.len⟩
theorem Inv.gone{M:Model}{A:w5}{E:wf->wl->Prop}{Q:Unit->wl->Prop}{i:Nat}{n:Str}{hp:Pos}(I:Inv X pins σ H s)(hN:X.N.Nodup)(hi:X.N[i]? = some n)(hl:X.env.scope.names.lookup n=some .local)
  (k:∀s',Inv X pins (σ.set i none) H s'->Q () s'):wt M A (do bindName X.env n .none;unbindBehindTheSuite X.env n hp) Q E s:=by
 obtain⟨m,hn,hl'⟩:=id I.loc;have hcls:(X.env.scope.kind == .class || (X.env.scope.kind == .module&&X.env.locals != X.env.globals))=false:=by rw[I.ok.kind];rfl
 have lt:∀b o,X.s₀.heap.get? b=some o->b≠X.env.locals:=λb o e=>wL (wW (wz e) I.ok.above)
 refine wpAny_nameGoes_keeps hl hn hcls λh' v hn' hs=>k _ ⟨I.ok,I.os,I.bare,⟨λb o e z hb hx=>?_,λb o e z hb hx=>?_,I.base.free,λb o e hx=>?_,I.base.gQ,I.base.gv,I.base.gR⟩,⟨_,hn',λj y v' e1 e2 e3=>?_⟩,λy c e=>?_,I.free,I.fc,λp hp=>?_,λb ob e=>?_,?_⟩
 ·exact(hs.2 b (lt b o e)).trans (I.base.keep b o e z hb hx)
 ·obtain⟨sl,e1⟩:=I.base.slot b o e z hb hx
  exact⟨sl,(hs.2 b (lt b o e)).trans e1⟩
 ·obtain⟨o',e1⟩:=I.base.there b o e hx
  exact⟨o',(hs.2 b (lt b o e)).trans e1⟩
 ·have hj:j≠i:=λz=>by
   subst z;rw[V0]at e2
   split at e2
   ·split at e2<;>cases e2
   ·exact absurd rfl ‹_›
  rw[QR (WI hj)]at e2;obtain⟨u',r',q⟩:=hl' j y v' e1 e2 e3;refine⟨u',r',?_⟩;rcases q with⟨k,e⟩ | ⟨k,c,e,z⟩
  ·refine .inl ⟨k,?_⟩
   have ne:y≠n:=λe=>hj (Ey hN e1 (e ▸ hi))
   simp[ne,e]
  ·exact .inr ⟨k,c,e,z.sameBut hs (I.jt y c e)⟩
 ·obtain⟨w',z⟩:=I.cell y c e
  exact⟨w',z.sameBut hs (I.jt y c e)⟩
 ·obtain⟨e,z,ne,nf,d⟩:=I.pin p hp
  exact⟨(hs.2 p.1 ne).trans e,z,ne,nf,d⟩
 ·refine(I.aA b ob e).jP (λc w' hc q=>(hs.2 c ?_).trans q) (λ_ q=>q) λ_ _ q=>q
  rintro rfl;have f:=I.free;rcases hc with hc | hc
  ·rw[hc,e]at f;cases f
  ·rw[hc]at f;cases f
 ·rw[VP];exact I.len
end
def Kw(CX:fL)(X:Cx)(W:St->XK):Prop:=∀(pins:List (wg × Obj))(σ : St)(H:Hp)(s:wl)(e:wf)(s':wl),Inv X pins σ H s->CX X.stack H s (W σ) e s'->X.xe e s'
def DG(sp:Sp)(W:St->XK)(t:TA):TE:=λσ H Q=>t σ H λvs H1=>sp vs H1 Q (W σ)
section
variable{X:Cx}{CX:fL}{k:Nat}{f:wg}{fd:wM}{ps:List Str}{sp:Sp}{W:St->XK}{x:Str}{p pos:Pos}{e:Expr}{es:List Expr}{t:TA}
theorem zxk(F:aJ X.prog X.w X.K X.mg X.base CX k f fd ps sp)(hr:cZ k X.A)(hg:Gl X x)(hm:X.mg x=some (.ref f))(hk:qI X.K (.ref f)=true)(hb:kZ X.K fd ps [])(hx:Kw CX X W)
  (ha:PA X (e::es) t) (hdb:(x == ("__debug__" : Str))=false:=by decide) (he:wX (e::es) X.env=(false,eval e X.env)::wX es X.env:=by rfl) (hpl:(VN pos (wX es X.env)).any (·.1)=false:=by rfl) :
  PE X (.Call (.Name x p) (e::es) [] pos) (DG sp W t):=by
 intro pins s σ H Q I h;refine qB (nI I hg hm ?_ hdb);refine xf (h₀:=X.base) I.ok.mod.ma hk (aD (ha pos pins s σ H _ I h) λus s1 ⟨vs,H1,I1,r,q⟩=>⟨I1.cU,?_⟩) he hpl;have hl:us.length=ps.length:=by rw[<- r.length];exact F.len _ _ _ _ q
 have hbd:BindsTo s1 fd ⟨us,[]⟩ (ps.zip us):=by simpa using hb s1 us I1.cU (by simpa using hl)
 refine wpAny_call (VO (F.run X.A X.stack s1 H1 ⟨us,[]⟩ us vs Q (W σ) hr I1.A7 hbd r q) λr s' hq=>?_);cases r with
 | error e=>exact hx pins σ H1 s1 e s' I1 hq
 | ok fl =>
  cases fl with
  | ret u=>exact I1.after hq
  | next=>exact WB hq
  | brk=>exact WB hq
  | cont=>exact WB hq
end
def Kg(K:wb)(G:wf)(i:Nat)(tb:(St->XK)->TS)(th:wg->wf->TS):TS:=λD σ H=>∃W:St->XK,tb W D σ H /\ ∀σ' C o H',W σ' C o H'->qL K C G=some true /\
 ∀ex,H' ex=none->th ex C {nx:=λσ2 H2=>D.nx (σ2.set i none) H2,rt:=D.rt,bk:=λσ2 H2=>D.bk (σ2.set i none) H2,ct:=λσ2 H2=>D.ct (σ2.set i none) H2} (σ'.set i (some (.ref ex))) H'
structure zd(C:wf)(oe:Obj):Prop where
 cls:oe.cls=C
 fld:∃vs,oe.data=.fields vs/\vs[2]? = some .none
 dict:oe.dict=none
section
variable{X:Cx}{x n:Str}{G:wf}{i:Nat}{b₀ : vo}{body suite:List vo}{np hpos pos:Pos}{tb:(St->XK)->TS}{th:wg->wf->TS}
theorem zCG(hs:X.stack=X.env::X.outer)(hf:X.env.frame=some X.env.locals)(hN:X.N.Nodup)(hi:X.N[i]? = some n)(hl:X.env.scope.names.lookup n=some .local)(hg:Gl X x)(hG:X.mg x=some G)
  (hb:∀(W:St->XK)(pn:List (wg × Obj))(E':wf->wl->Prop),Kw (eO X.prog X.w) (X.at pn E') W->e_ (X.at pn E') body (tb W))
  (hh:∀(pn:List (wg × Obj))(ex:wg)(C:wf)(oe:Obj),zd C oe->e_ (X.oC pn ex oe) (b₀ :: suite) (th ex C)) (hdb:(x == ("__debug__" : Str))=false:=by decide) :
  PS X (.Try body [.ExceptHandler (some (.Name x np)) (some n) (b₀ :: suite) hpos] [] [] pos) (Kg X.K G i tb th):=by
 intro pins s σ H D I h;obtain⟨W,hB,hH⟩:=h;refine wpAny_Try_except ?_;have I':=I.Za λe s1=>∃σ1 H1 s0,Inv X pins σ1 H1 s0/\eO X.prog X.w X.stack H1 s0 (W σ1) e s1
 have key:=hb W (X.pn++pins) (λe s1=>∃σ1 H1 s0,Inv X pins σ1 H1 s0/\eO X.prog X.w X.stack H1 s0 (W σ1) e s1) (λpins1 σ1 H1 s0 e s1 I1 q=>⟨σ1,H1,s0,I1.oD,q⟩) [] s σ H D I' hB;refine WF key (λf s1 hq=>?_) λe s1 he=>?_
 ·cases f with
  | next=>obtain⟨σ',H',J,q⟩:=hq;exact Qh ⟨σ',H',J.oD,q⟩
  | brk=>obtain⟨σ',H',J,q⟩:=hq;exact⟨σ',H',J.oD,q⟩
  | cont=>obtain⟨σ',H',J,q⟩:=hq;exact⟨σ',H',J.oD,q⟩
  | ret u=>obtain⟨v,σ',H',J,r,q⟩:=hq;exact⟨v,σ',H',J.oD,r,q⟩
 obtain⟨σ1,H1,s0,I1,ex,C,H',B,rfl,os,bare,un,aA,F,ov,q⟩:=he;obtain⟨hm,hS⟩:=hH σ1 C none H' q;have hfs:∀b∈dq X.stack,H1 b=none /\ ∃o,s0.heap.get? b=some o /\ ∀vs,o.data≠.fields vs:=λb hb=>⟨I1.sD b hb,(I1.stack.mem hb).2⟩
 have hfr:=I.ok.frames.trans (congrArg some hs)
 have hex:H' ex=none:=by
  obtain⟨_,_,_,_,_,_,_,_,_,_,_,_,_,be,_⟩:=F;cases z:H' ex with
  | none=>rfl
  | some o =>
   obtain⟨u,e1⟩:=ov.iT ex o z;rw[be]at e1;cases e1
 have st1:=F.st;rw[hs]at F
 have exc:∀{h4:wJ},eT B (X.env::X.outer) ex C .none h4->s1.heap.UpToSlots h4->∃oe,h4.get? ex=some oe/\zd C oe/\Inv (X.oC (X.pn++pins) ex oe) [] σ1 H' {s1 with heap:=h4}:=λ{h4} F4 sm=>by
  have J:Inv X pins σ1 H' {s1 with heap:=h4}:=I1.Jg (s':={s1 with heap:=h4}) (ch:=[]) os (ov.un un hfs F4.st sm) (ov.aA aA st1 F4.st) bare (λ_ z=>nomatch z);obtain⟨_,_,oe,vs,T,oT,ts,he,hc,hd,h1,h2,hdi,_⟩:=F4;refine⟨oe,he,⟨hc,⟨vs,hd,h2⟩,hdi⟩,J.Y1 he hex (λz=>?_) (λz=>?_) λv z=>?_⟩
  ·obtain⟨m,⟨o,es,ep,ho,hdd,_⟩,_⟩:=J.loc
   rw[<- z]at ho;have:(some oe:Option Obj)=some o:=he.symm.trans ho;cases this;rw[hd]at hdd;cases hdd
  ·obtain⟨_,o,ho,nr⟩:=J.eB.mem z
   have:(some oe:Option Obj)=some o:=he.symm.trans ho;cases this;exact nr vs hd
  ·rw[hd]at z;cases z
 refine F.note hfr hf λh2 F2 sm2=>F2.land λh3 F3 sm3=>?_
 obtain⟨oe3,g3,x3,K3⟩:=exc F3 (sm2.trans sm3);refine wpAny_handleBy_cons (codeAny_handlers_test (nI K3 hg hG ?_ hdb)) (by intro z;cases z);have LT:xw (model X.prog X.w) h3 (typeOf (.ref ex)) C:=x3.cls ▸ (U3 g3).andThen .now;refine(PySem.W.exm_one (h:=h3) K3.cU LT hm).here ?_;refine codeAny_handlers_suite_as ?_;refine F3.land λh4 F4 sm4=>?_
 obtain⟨oe,g4,x4,K4⟩:=exc F4 ((sm2.trans sm3).trans sm4);refine nN (X:=X.oC (X.pn++pins) ex oe) K4 hN hi (.inl hl) (v:=.ref ex) rfl (λs5 K5=>?_) (.inr hl);refine WF (hh _ ex C oe x4 [] s5 _ H' _ K5 (hS ex hex)) (λf s6 h6=>?_) λ_ _ z=>z.elim
 show wt (model X.prog X.w) X.A (do bindName X.env n .none;unbindBehindTheSuite X.env n hpos) _ _ _
 cases f with
 | next=>obtain⟨σ',H6,J,q6⟩:=h6;exact(J.sP I.ok).gone hN hi hl λs7 J7=>⟨_,H6,J7,q6⟩
 | brk=>obtain⟨σ',H6,J,q6⟩:=h6;exact(J.sP I.ok).gone hN hi hl λs7 J7=>⟨_,H6,J7,q6⟩
 | cont=>obtain⟨σ',H6,J,q6⟩:=h6;exact(J.sP I.ok).gone hN hi hl λs7 J7=>⟨_,H6,J7,q6⟩
 | ret u=>obtain⟨v,σ',H6,J,r,q6⟩:=h6;exact(J.sP I.ok).gone hN hi hl λs7 J7=>⟨v,_,H6,J7,r,q6⟩
end
variable{A:w5}
structure fY(k:Nat)(A:w5):Prop where
 dp:A.depth+3*k+5<recursionLimit
 un:A.units+16*k+200<cLine
theorem fY.mono{j k:Nat}(r:fY k A)(h:j<=k):fY j A:=⟨by have:=r.dp;lia,by have:=r.un;lia⟩
theorem fY.deeper{k:Nat}(r:fY (k+1) A)(env:Env):fY k (A.deeper env) :=
 ⟨by have:=r.dp;show A.depth+1+3*k+5<_;lia,by have:=r.un;show A.units+3+16*k+200<_;lia⟩
theorem cZ.marked{k:Nat}(r:cZ k A)(v:Option wf):fY k (A.mark v):=⟨by have:=r.dp;show A.depth+3*k+5<_;lia,r.un⟩
theorem fY.depth{k:Nat}(r:fY k A):A.depth<recursionLimit:=by have:=r.dp;lia
theorem fY.units{k:Nat}(r:fY k A):A.units+64<cLine:=by have:=r.un;lia
structure Ee(P:wE)(w:World)(K:wb)(mg:Str->Option wf)(base:wJ)(k:Nat)(f:wg)(fd:wM)(ps:List Str)(sp:wg->wf->Sp):Prop where
 len:∀ex C vs H Q E,sp ex C vs H Q E->vs.length=ps.length
 run:∀(A:w5)(outer:List Env)(s:wl)(H:Hp)(args:Args)(us:List wf)(vs:List V)(Q:VK)(E:XK)(ex:wg)(C:wf)(oe:Obj),fY k A->A.handled=some (.ref ex)->s.heap.get? ex=some oe->zd C oe->H ex=none->ex ∉ dq outer ->
   rE P w K mg base A outer s H->BindsTo s fd args (ps.zip us)->aM vs us->sp ex C vs H Q E->codeAny (model P w) A (.call (.ref f) args) (CR aR outer P w H s Q E) s
def rW(P:wE)(w:World)(K:wb)(mg:Str->Option wf)(base:wJ)(N:List Str)(qual:Str)(scope:Scope)(f:wg)(cd:wf)(A:w5)(outer:List Env)(s:wl)(H:Hp)(ex:wg)(oe:Obj):Cx :=
 {gy aR P w K mg base N qual scope f cd A outer s H E0 with calm:=false,pn:=[(ex,oe)],xe:=λ_ _=>False}
structure Hd(X:Cx)(ex:wg)(C:wf)(oe:Obj):Prop where
 hd:X.A.handled=some (.ref ex)
 pn:(ex,oe)∈X.pn
 ob:zd C oe
section
variable{P:wE}{w:World}{K:wb}{mg:Str->Option wf}{base:wJ}
theorem jJ.okH{x qual:Str}{st:vo}{f:wg}{fd:wM}{N ps:List Str}{k:Nat}{sp:wg->wf->Sp}(F:jJ K x qual st f fd)(S:aQ N ps (aH st))(len:∀ex C vs H Q E,sp ex C vs H Q E->vs.length=ps.length)
  (hbody:∀(cdv:wf)(A:w5)(outer:List Env)(s:wl)(H:Hp)(vs:List V)(Q:VK)(E:XK)(ex:wg)(C:wf)(oe:Obj),fY k (A.deeper (envOfC qual (aH st) s.heap.objs.size f cdv))->Hd (rW P w K mg base N qual (aH st) f cdv A outer s H ex oe) ex C oe->sp ex C vs H Q E ->
   ∃t,e_ (rW P w K mg base N qual (aH st) f cdv A outer s H ex oe) (kg st) t/\t {nx:=λ_ H'=>Q .bC H',rt:=Q} (start N vs) H):Ee P w K mg base (k+1) f fd ps sp:=by
 obtain⟨oc,od,kV,doc,pm,an,cdv,ct,osl,rfl,lk,hcd⟩:=F.ex;refine⟨len,λA outer s H args us vs Q E ex C oe hr hhd hat hob hfree hnf e0 hb r hsp=>?_⟩;have hl:=len _ _ _ _ _ _ hsp;have KX:K.In s.heap:=e0.mod.ma.keeps λb o e=>(e0.bs b o e).1
 have lim:s.heap.NoLimit:=e0.mod.nolimit.keeps λb o e=>(e0.bs b o e).1
 have hkind:∀y∈ps.zip us,(aH st).names.lookup y.1=some .local\/((aH st).names.lookup y.1=some .cell/\((cellsFrom (s.heap.objs.size+1) (aH st).names []).lookup y.1).isSome=true):=λ⟨n,v⟩ hy =>
  (S.par n (QU hy).1).elim .inl λq=>.inr ⟨q,QI _ _ _ (.inl q)⟩
 refine codeAny_call_function hr.depth (KX _ _ lk) rfl S.co S.gen rfl (XY KX hcd) (hb _ _ _ _ ?_);refine wpAny_newFunctionEnv_cells S.kind hkind λenv he s1 x=>?_
 subst he;refine⟨lim.keeps x.toInCall.keep,codeAny_func ?_⟩;have hA:(A.deeper (envOfC qual (aH st) s.heap.objs.size f cdv)).handled=some (.ref ex):=hhd;obtain⟨t,ht,hq⟩:=hbody cdv A outer s H vs Q E ex C oe (hr.deeper _) ⟨hA,vi.mpr rfl,hob⟩ hsp
 have I0:Inv (gy aR P w K mg base N qual (aH st) f cdv {A with handled:=none} outer s H E0) [] (start N vs) H s1:=TJ S rfl ⟨e0.frames,e0.mod,e0.bs,e0.gE,e0.eB,e0.h_,e0.aA,e0.bare⟩ hl r x;obtain⟨h1,tk,rfl,hk⟩:=x.done
 have I:Inv (rW P w K mg base N qual (aH st) f cdv A outer s H ex oe) [] (start N vs) H {s with heap:=h1,toks:=tk} :=
  ⟨⟨I0.ok.mod,I0.ok.kind,I0.ok.glob,I0.ok.blt,I0.ok.above,I0.ok.inj,I0.ok.has,I0.ok.jQ,λz=>uZ z,QT e0.frames,I0.ok.k_,I0.ok.nX,I0.ok.bs,I0.ok.gE,I0.ok.jN,I0.ok.ky,I0.ok.eB,I0.ok.h_⟩,I0.os,I0.bare,I0.base,I0.loc,I0.cell,I0.free,I0.fc,
   λp hp=>by
    cases vi.mp (show p∈[(ex,oe)] by rw[vP]at hp;exact hp);obtain⟨vs',hd,_⟩:=hob.fld;exact⟨hk _ _ hat,hfree,wL (wz hat),hnf,λv z=>by rw[hd]at z;cases z⟩,I0.aA,I0.len⟩
 refine WF (ht [] _ (start N vs) H _ I hq) (λfl s' hs=>?_) λe s' hs=>hs.elim
 have fin:∀{σ':St}{H':Hp}{v:V}{u:wf},Inv (rW P w K mg base N qual (aH st) f cdv A outer s H ex oe) [] σ' H' s'->aP v u->Q v H'->CE outer P w H s Q u s' :=
  λ{σ' H' v u} J rv q=>⟨v,H',J.os,J.bare,J.base,J.aA,rv,q⟩
 cases fl with
 | ret u=>obtain⟨v,σ',H',J,rv,q⟩:=hs;exact fin J rv q
 | next=>obtain⟨σ',H',J,q⟩:=hs;exact fin (v:=V.bC) (u:=Value.none) J rfl q
 | brk=>obtain⟨_,_,_,q⟩:=hs;exact WB q
 | cont=>obtain⟨_,_,_,q⟩:=hs;exact WB q
end
section
variable{X:Cx}{k:Nat}{f:wg}{fd:wM}{ps:List Str}{sp:wg->wf->Sp}{x:Str}{p pos:Pos}{e:Expr}{es:List Expr}{t:TA}{ex:wg}{C:wf}{oe:Obj}
theorem zwY(F:Ee X.prog X.w X.K X.mg X.base k f fd ps sp)(hr:fY k X.A)(hd:Hd X ex C oe)(hg:Gl X x)(hm:X.mg x=some (.ref f))(hk:qI X.K (.ref f)=true)(hb:kZ X.K fd ps [])
  (ha:PA X (e::es) t) (hdb:(x == ("__debug__" : Str))=false:=by decide) (he:wX (e::es) X.env=(false,eval e X.env)::wX es X.env:=by rfl) (hpl:(VN pos (wX es X.env)).any (·.1)=false:=by rfl) :
  PE X (.Call (.Name x p) (e::es) [] pos) (lO (sp ex C) [] E0 t):=by
 intro pins s σ H Q I h;refine qB (nI I hg hm ?_ hdb);refine xf (h₀:=X.base) I.ok.mod.ma hk (aD (ha pos pins s σ H _ I h) λus s1 ⟨vs,H1,I1,r,q⟩=>⟨I1.cU,?_⟩) he hpl;have q:sp ex C vs H1 Q E0:=by simpa using q
 have hl:us.length=ps.length:=by rw[<- r.length];exact F.len _ _ _ _ _ _ q
 have hbd:BindsTo s1 fd ⟨us,[]⟩ (ps.zip us):=by simpa using hb s1 us I1.cU (by simpa using hl)
 obtain⟨p1,p2,p3,p4,_⟩:=I1.pin (ex,oe) (Wp _ hd.pn);have hns:ex ∉ dq X.stack:=λz=>(wK.mp (I1.lB ex z)).elim p3 p4
 refine wpAny_call (VO (F.run X.A X.stack s1 H1 ⟨us,[]⟩ us vs Q E0 ex C oe hr hd.hd p1 hd.ob p2 hns I1.A7 hbd r q) λr s' hq=>?_);cases r with
 | error e=>exact hq.elim
 | ok fl =>
  cases fl with
  | ret u=>exact I1.after hq
  | next=>exact WB hq
  | brk=>exact WB hq
  | cont=>exact WB hq
end
variable{scope:Scope}
def gO(cells:List (Str × wg)):List (Str × Vf)->List (Str × wg)->List (Str × wg)
 | [],acc=>acc
 | (n,k)::r,acc=>gO cells r (if(k == NameKind.free)=true then(n,(cells.lookup n).getD 0)::acc else acc)
theorem zkp{env:Env}(h:∀y∈scope.names,y.2=.free->∃c,env.cells.lookup y.1=some c):closureFor scope env=pure (gO env.cells scope.names []):=by
 unfold closureFor;generalize scope.names=names at h
 suffices g:∀(names:List (Str × Vf))(acc:List (Str × wg)),(∀y∈names,y.2=.free->∃c,env.cells.lookup y.1=some c) ->
     (forIn names acc λ(x:Str × Vf)(r:List (Str × wg))=>if(x.2 == NameKind.free)=true then do let c <- cellOf env x.1;pure (ForInStep.yield ((x.1,c)::r))else pure (ForInStep.yield r):Sem (List (Str × wg)))=pure (gO env.cells names acc) by
   have:=g names [] h
   show(_ >>= pure)=_
   rw[bind_pure];exact this
 intro names
 induction names with
 | nil=>intro acc _;rfl
 | cons y r ih =>
   intro acc hy;obtain⟨n,k⟩:=y;rw[Qg]
   by_cases e:(k == NameKind.free)=true
   . obtain⟨c,hc⟩:=hy (n,k) wD (beq_iff_eq.mp e)
     have hcell:cellOf env n=pure c:=by
       unfold cellOf;rw[hc]
     simp only[e,if_true,hcell,pure_bind];rw[ih _ λz hz=>hy z (wA _ hz)]
     show _=pure (gO env.cells r _)
     simp only[e,if_true,hc,qP]
   . simp only[e,pure_bind]
     rw[if_neg (by simp),pure_bind];dsimp only;rw[ih _ λz hz=>hy z (wA _ hz)]
     show _=pure (gO env.cells r _)
     rw[if_neg e]
theorem Sz{cells:List (Str × wg)} : ∀(names:List (Str × Vf))(acc:List (Str × wg))(x:Str)(c:wg),(∀y∈names,y.2=.free->∃c,cells.lookup y.1=some c)->(∀x c,acc.lookup x=some c->cells.lookup x=some c) ->
  (gO cells names acc).lookup x=some c->cells.lookup x=some c
 | [],acc,x,c,_,ha,h=>ha x c h
 | (n,k)::r,acc,x,c,hy,ha,h=>by
  unfold gO at h;refine Sz r _ x c (λz hz=>hy z (wA _ hz)) (λx' c' h'=>?_) h
  split at h'
  ·rename_i e
   obtain⟨c0,hc0⟩:=hy (n,k) wD (beq_iff_eq.mp e);rw[qQ]at h'
   split at h'
   ·rename_i e2
    rw[beq_iff_eq.mp e2,hc0];rw[hc0]at h';exact h'
   ·exact ha x' c' h'
  ·exact ha x' c' h'
theorem MR{cells:List (Str × wg)} : ∀(names:List (Str × Vf))(acc:List (Str × wg))(x:Str),(∃c,acc.lookup x=some c)->∃c,(gO cells names acc).lookup x=some c
 | [],acc,x,h=>h
 | (n,k)::r,acc,x,h=>by
  unfold gO;refine MR r _ x ?_
  split
  ·rw[qQ]
   split
   ·exact⟨_,rfl⟩
   ·exact h
  ·exact h
theorem SA{cells:List (Str × wg)} : ∀(names:List (Str × Vf))(acc:List (Str × wg))(x:Str),(x,NameKind.free)∈names->∃c,(gO cells names acc).lookup x=some c
 | [],acc,x,h=>nomatch h
 | (n,k)::r,acc,x,h=>by
  unfold gO;rcases wK.mp h with e | e
  ·cases e
   rw[if_pos (by decide)];refine MR r _ _ ?_;rw[qQ];simp
  ·exact SA r _ x e
theorem NB(g:Str->Vf->Vf):∀(names:List (Str × Vf))(x:Str),(names.map λy=>(y.1,g y.1 y.2)).lookup x=(names.lookup x).map (g x)
 | [],x=>rfl
 | (n,k)::r,x=>by
  rw[wV,qQ,qQ];dsimp only
  by_cases e:(x == n)=true
  ·have e':=beq_iff_eq.mp e
   subst e';simp
  ·rw[u3]at e
   simp only[e];exact NB g r x
def zI(env:Env)(x:Str)(k:Vf):Vf:=if(k == .free&&env.scope.kind == .function&&env.kindOf x == some .cell)=true then .cell else k
theorem RN{env:Env}(x:Str):(relabel scope env).names.lookup x=(scope.names.lookup x).map (zI env x):=by
 rw[<- NB]
 show(scope.names.map _).lookup x=_
 congr 2
 funext ⟨n,k⟩
 dsimp only[zI]
 split<;>rfl
def D_(inner outer:List (Str × Vf))(N N':List Str)(src:List (Option Nat)):Bool :=
 (inner.all λy=>(y.2 != .cell)&&(y.2 != .local || inner.lookup y.1 == some .local)&&(y.2 != .free || outer.lookup y.1 == some .cell)) &&
 (N'.length == src.length)&&((N'.zip src).all λp=>match p.2 with
  | none=>true
  | some j=>N[j]? == some p.1&&outer.lookup p.1 == some .cell&&inner.lookup p.1 == some .free)
theorem mq.by{X:Cx}{N':List Str}{src:List (Option Nat)}(hk:scope.kind=.function)(hc:D_ scope.names X.env.scope.names X.N N' src=true)(hf:∀x,X.env.scope.names.lookup x=some .cell->∃c,X.env.cells.lookup x=some c:=by exact λx h=>zE h) :
  mq X N' scope (gO X.env.cells scope.names []) src:=by
 unfold D_ at hc;simp only[w9,WW,beq_iff_eq,Bool.or_eq_true,bne_iff_ne,ne_eq]at hc;obtain⟨⟨h1,h2⟩,h3⟩:=hc;have fr:∀y∈scope.names,y.2=.free->∃c,X.env.cells.lookup y.1=some c:=λy hy e=>hf _ (((h1 y hy).2).elim (λz=>absurd e z) id)
 have at3:∀(i:Nat)(x:Str)(j:Nat),N'[i]? = some x->src[i]? = some (some j)->X.N[j]? = some x/\X.env.scope.names.lookup x=some .cell/\scope.names.lookup x=some .free:=λi x j e1 e2=>by
  have m:(x,some j)∈N'.zip src:=by
   rw[QQ];exact⟨i,by rw[List.getElem?_zip_eq_some];exact⟨e1,e2⟩⟩
  have:=h3 _ m;simp only[w9,beq_iff_eq]at this;exact⟨this.1.1,this.1.2,this.2⟩
 refine⟨hk,λy hy=>((h1 y hy).1).1,λy hy e=>(((h1 y hy).1).2).elim (λz=>absurd e z) id,⟨zkp fr,λx c e=>Sz _ _ x c fr (λ_ _ z=>by simp at z) e,λx e=>?_⟩,⟨h2,λi j x e1 e2=>⟨(at3 i x j e1 e2).1,(at3 i x j e1 e2).2.1⟩⟩,λi x e1 e2=>?_⟩
 ·rw[RN]at e
  cases q:scope.names.lookup x with
  | none=>rw[q]at e;simp at e
  | some k =>
   have hm:=VA q
   have hk:k=.free:=by
    rw[q]at e;simp only[qw,QE,zI]at e;have nc:k≠.cell:=((h1 _ hm).1).1;rcases e with e | e
    ·split at e
     ·rename_i z;simp only[w9,beq_iff_eq]at z;exact z.1.1
     ·exact absurd e nc
    ·split at e
     ·cases e
     ·exact e
   subst hk;exact SA _ _ x hm
 ·obtain⟨o,ho⟩:∃o,src[i]? = some o:=by
   have:i<src.length:=by rw[<- h2];exact(WJ.mp e1).1
   exact⟨src[i],by simp[this]⟩
  cases o with
  | none=>exact absurd ho e2
  | some j =>
   have:=(at3 i x j e1 ho).2.2;rw[RN,this];simp only[qw,QE,zI]
   split
   ·exact .inl rfl
   ·exact .inr rfl
theorem znG :entryFor table "proto.unchain"=some Builtin.«proto.unchain»:=by first | exact entryFor_of_fast (by kernel_rfl) | exact entryFor_of_tree (by kernel_rfl)
section
variable{prog:wE}{w:World}{A:w5}{E:wf->wl->Prop}{s:wl}
variable{ex:wg}
theorem znD{α : Type}{Q : α -> wl->Prop}{b:wg}{ob oe:Obj}{bs vs:Array wf}(hh:A.handled=some (.ref ex))(hb:s.heap.get? b=some ob)(db:ob.data=.fields bs)(sz:2<bs.size)(he:s.heap.get? ex=some oe)
  (de:oe.data=.fields vs) (h2:vs[2]? = some .none) (ne:ex≠b) (k:E (.ref b) {s with heap:=s.heap.update b (qU (·.setIfInBounds 2 (.ref ex)))}):wt (model prog w) A (raiseNew (.ref b):Sem α) Q E s:=by
 have nb:(Value.ref ex != Value.ref b)=true:=by simp[ne]
 simp only[raiseNew];refine we (wpAny_handled ?_);rw[hh];dsimp only;rw[if_pos nb];refine we (vD (wpAny_runValue (Vu znG ?_)));unfold Builtin.«proto.unchain»;dsimp only;refine we (vt he de h2 ?_);rw[if_pos (by decide)];refine we (wp (wp ?_));exact we (VD (x:=.ref ex) hb db sz (wpAny_throw k))
structure oR(A:w5)(h:wJ)(ex:wg):Prop where
 hd:A.handled=some (.ref ex)
 ob:∃oe vs,h.get? ex=some oe/\oe.data=.fields vs/\vs[2]? = some .none
theorem N6{α : Type}{R:wf->wl->Prop}{Q : α -> wl->Prop}(n:oR A s.heap ex)
  (k:∀b h',(∀c o,s.heap.get? c=some o->h'.get? c=some o)->({s with heap:=h'} : wl).TypeIs (.ref b) "StopIteration" -> R (.ref b) {s with heap:=h'}) :
  wt (model prog w) A (newExc (.type "StopIteration") [] >>= λe=>(raiseNew e:Sem α)) Q R s:=by
 obtain⟨hd,oe,vs,he,de,h2⟩:=n;refine we ?_;simp only[newExc,newTuple];refine we (WA ?_ (by size_fits));refine we (m:=firstArgMember _ _) (wpAny_of_eq (a:=Value.none) (by first | rfl | (simp only[firstArgMember];rfl)) ?_);refine WA ?_ (by size_fits);have he2:=wn (h:=s.heap.push {cls:=.type "tuple",data:=.seq ([]:List wf).toArray}) {cls:=.type "StopIteration",data:=.fields (#[.ref s.heap.objs.size,.none,.none,.none,.bool false,.none]++ownMembersOf (.type "StopIteration") [])} (wn _ he);have lt:ex<s.heap.objs.size:=wz he;refine znD hd (wO _ rfl) rfl (by simp[ownMembersOf]) he2 de h2 (by rw[W0];exact wL (WS lt)) (k _ _ (λc o q=>?_) ⟨_,Vi _ (wO _ rfl) rfl,rfl⟩);have:=wz q;rw[WG _ _ (by rw[W0];exact vn (WS this))];exact wn _ (wn _ q)
theorem zv7{it l:wg}{i:Nat}{items}{Q:Option wf->wl->Prop}(n:oR A s.heap ex)(hne:ex≠it)
  (hit:s.heap.IsListIter it l i) (hl:s.heap.IsList l items) (hx:items[i]? = none) (hQ:∀h',Xg it s.heap h'->Q none {s with heap:=h'}):wt (model prog w) A (Vn (.ref it)) Q E s:=by
 obtain⟨o,ho,hc,hd⟩:=id hit;obtain⟨ol,hol,_,nl,hdl⟩:=hl;unfold Vn;refine we (WP (wpAny_callSpecial?_slot (name:=vT "__next__") hit.typeIs slot_listiter_next (vZ slot_listiter_next hit.typeIs entry_listiter_next ?_ (args_listiter_next _))))
 show wt _ _ (field (.ref it) 0 >>= _) _ _ s
 refine we (vt ho hd (x:=.ref l) rfl ?_);rw[if_neg (show ¬ ((Value.ref l == Value.none)=true)from vI)];refine we (vt ho hd (x:=.int i 0) rfl (we (Wf hol hdl ?_)));simp only[wY,hx];refine we (qA (we (VD ho hd (by simp) ?_)));obtain⟨hhd,oe,vs,he,de,h2⟩:=n;refine N6 (A:=A.in1) ⟨hhd,oe,vs,?_,de,h2⟩ λb h' kp ty=>?_
 ·show(qD _ _ _).get? ex=_
  rw[WG _ _ (WI hne)];exact he
 refine we (WY (T:="StopIteration") (b:=true) ty qf (wp (hQ h' λc o ne q=>kp c o ?_)))
 show(qD _ _ _).get? c=_
 rw[WG _ _ (WI ne)];exact q
theorem zsg{it t:wg}{i:Nat}{items}{Q:Option wf->wl->Prop}(n:oR A s.heap ex)(hne:ex≠it)
  (hit:IsTupIter s.heap it t i) (ht:IsTup s.heap t items) (hx:items[i]? = none) (hQ:∀h',Xg it s.heap h'->Q none {s with heap:=h'}):wt (model prog w) A (Vn (.ref it)) Q E s:=by
 obtain⟨o,ho,hc,hd⟩:=id hit;obtain⟨ol,hol,_,nl,hdl⟩:=ht;unfold Vn;refine we (WP (wpAny_callSpecial?_slot (name:=vT "__next__") hit.typeIs slot_tupleiter_next (vZ slot_tupleiter_next hit.typeIs entry_tupleiter_next ?_ (args_tupleiter_next _))))
 show wt _ _ (field (.ref it) 0 >>= _) _ _ s
 refine we (vt ho hd (x:=.ref t) rfl ?_);rw[if_neg (show ¬ ((Value.ref t == Value.none)=true)from vI)];refine we (vt ho hd (x:=.int i 0) rfl (we (Wf hol hdl ?_)));simp only[wY,hx];refine we (qA (we (VD ho hd (by simp) ?_)));obtain⟨hhd,oe,vs,he,de,h2⟩:=n;refine N6 (A:=A.in1) ⟨hhd,oe,vs,?_,de,h2⟩ λb h' kp ty=>?_
 ·show(qD _ _ _).get? ex=_
  rw[WG _ _ (WI hne)];exact he
 refine we (WY (T:="StopIteration") (b:=true) ty qf (wp (hQ h' λc o ne q=>kp c o ?_)))
 show(qD _ _ _).get? c=_
 rw[WG _ _ (WI ne)];exact q
theorem zyX{t:wg}{items:Array wf}{Q:List wf->wl->Prop}(n:oR A s.heap ex)(ht:IsTup s.heap t items)
  (hQ:∀h',Xg s.heap.objs.size s.heap h'->Q items.toList {s with heap:=h'}):wt (model prog w) A (unpackItems (.ref t) items.size none) Q E s:=by
 have hlt:t≠s.heap.objs.size:=by obtain⟨o,ho,_⟩:=ht;exact wL (wz ho)
 obtain⟨hhd,oe,vs,he,de,h2⟩:=n;have hxl:ex≠s.heap.objs.size:=wL (wz he);unfold unpackItems;refine we ?_;unfold notIterableAtAll;refine we (qC ht.typeIs slot_tuple_iter.lookup (wp ?_));simp only[w8,if_false];refine we (vD (iter_tuple ht (we (vD (draw_tuple hlt items.size 0 _ _ ⟨_,wO _ rfl,rfl,rfl⟩ (ht.push _) (by lia) λh₁ hit₁ hs₁=>?_)))))
 have hall:List.take items.size (List.drop 0 items.toList)=items.toList:=by
  rw[Xo];exact W5 (by simp)
 rw[hall,if_neg (by simp)];have ht₁ : IsTup h₁ t items:=(ht.push _).extBut hs₁.extBut hlt;refine we (vD (zsg (ex:=ex) ⟨hhd,oe,vs,(hs₁.2 ex hxl).trans (wn _ he),de,h2⟩ hxl hit₁ ht₁ (by simp) λh₂ he₂=>?_));simp only[Option.isSome_none,w8,if_false];exact wp (hQ h₂ λb o hb e=>he₂ b o hb (hs₁.extBut b o hb (wn _ e)))
end
section
variable{X:Cx}{ex:wg}{C:wf}{oe:Obj}{pins:List (wg × Obj)}{σ : St}{H:Hp}{s:wl}{pos:Pos}
theorem Hd.Jh(hd:Hd X ex C oe)(I:Inv X pins σ H s):oR X.A s.heap ex:=by
 obtain⟨e,_⟩:=I.pin (ex,oe) (Wp _ hd.pn);obtain⟨vs,d,h2⟩:=hd.ob.fld;exact⟨hd.hd,oe,vs,e,d,h2⟩
theorem Hd.block(hd:Hd X ex C oe){N':List Str}{scope:Scope}{cl:List (Str × wg)}{D:wg}{s₀ : wl}{H₀ : Hp}{fp:List wg} : Hd (dg X N' scope cl D s₀ H₀ fp pins) ex C oe:=⟨hd.hd,Wp _ hd.pn,hd.ob⟩
theorem zzy{es:List Expr}{k:Nat}{t:iJ}{n:Nat}(hd:Hd X ex C oe)(h:mL X es t)
  (hn:(VI es X.env).length=n:=by rfl) (hst:(VI es X.env).findIdx? (·.1)=none:=by rfl):PG X (.Tuple es k pos) (gW X.K n t):=by
 intro pins s σ H v u Q I r hw;obtain⟨a,xs,e1,hq,hl,hw⟩:=hw;subst e1;cases r;obtain⟨its,rv,ht,hz⟩:=I.tuple hq;have hlen:(VI es X.env).length=its.toArray.size:=by simp[hn,<- hl,rv.length]
 rw[assign_Tuple];refine we (qW ?_);unfold unpack;rw[hlen,hst];refine we (vD (zyX (hd.Jh I) ht λh' hx=>?_));have I1:Inv X pins σ H {s with heap:=h'}:=I.kept (t':=s.toks) λb o e=>hx b o (wL (wz e)) e
 exact h pins _ σ H xs _ Q I1 (by simpa using rv) hw
theorem zqz{tg:Expr}(hd:Hd X ex C oe)(a it:wg):zF X tg (iZ X.K a) [it] it (λi h=>h.IsListIter it a i) where
 item:=by
  intro i pins s σ H E I hf st hg;obtain⟨xs,x,hq,hx⟩:=hg;obtain⟨its,rv,p,hz⟩:=I.list hq;obtain⟨u,hu,ru⟩:=rv.get hx;obtain⟨f0,f1,f2,f3,f4,f5⟩:=hf it (by simp);refine wpAny_pyNext_list_item st p.isList (x:=u) (by simpa using hu) λh' st' sb=>?_
  have I1:Inv X pins σ H {s with heap:=h'}:=I.turned (t':=s.toks) (λb o hb e=>(sb.2 b hb).trans e) f0 f1 f3 f4 f5;obtain⟨o,e,c,d⟩:=id st';exact⟨u,rfl,za (s:={s with heap:=h'}) e c d (by decide) ⟨x,H,I1,ru,⟨rfl,λys hy=>by rw[I.sk hy hq];exact hx⟩,st',λb hb=>(hf b hb).1⟩⟩
 done:=by
  intro i pins s σ H E I hf st hg;obtain⟨xs,hq,hx⟩:=hg;obtain⟨its,rv,p,hz⟩:=I.list hq;obtain⟨f0,f1,f2,f3,f4,f5⟩:=hf it (by simp);have hl:=rv.length;exact zv7 (hd.Jh I) (f5 (ex,oe) (Wp _ hd.pn)) st p.isList (by simp;lia) λh' eb=>⟨rfl,I.turned (t':=s.toks) (λb o hb e=>eb b o hb e) f0 f1 f3 f4 f5⟩
def SE(X:Cx)(tg iter:Expr)(wi:TI):Prop :=
 ∀(pins:List (wg × Obj))(s:wl)(σ : St)(H:Hp)(R:It->Hp->Prop),Inv X pins σ H s->wi σ H R ->
  wt (model X.prog X.w) X.A (eval iter X.env) (λv s1=>wt (model X.prog X.w) X.A (pyIter v) (λitv s2=>∃(it:wg)(fp:List wg)(tn:Nat->wJ->Prop)(J:It)(H':Hp),itv=.ref it/\Inv X pins σ H' s2/\iL X.prog X.w X.K tg J fp it tn /\
   (∀(Y:Cx)(ex:wg)(C:wf)(oe:Obj),Y.prog=X.prog->Y.w=X.w->Y.K=X.K->Hd Y ex C oe->zF Y tg J fp it tn)/\tn 0 s2.heap/\(∀b∈fp,d6 X pins H' b)/\R J H') X.xe s1) X.xe s
variable{tg l:Expr}{tl:TE}
theorem zyq(hl:PE X l tl):SE X tg l (An X.K tl):=by
 intro pins s σ H R I h;refine aD (hl pins s σ H _ I h) λv s1 ⟨x,H1,I1,r1,q1⟩=>?_
 obtain⟨a,e1,⟨xs,hq⟩,q1⟩:=q1;subst e1;cases r1;obtain⟨its,rv,p,hz⟩:=I1.list hq;refine V7 p.isList ?_;have I2:Inv X pins σ H1 {s1 with heap:=s1.heap.push {cls:=.type "list_iterator",data:=.fields #[.ref a,.int 0 0]}}:=I1.kept (t':=s1.toks) λb o e=>wn _ e
 refine⟨s1.heap.objs.size,[s1.heap.objs.size],_,_,H1,rfl,I2,EV a _,λY ex C oe h1 h2 h3 hd=>?_,⟨_,wO _ rfl,rfl,rfl⟩,λb hb=>?_,q1⟩
 ·rw[<- h3]
  exact zqz hd a _
 ·have e:b=s1.heap.objs.size:=by simpa using hb
  subst e;exact I1.jj (wo _) (I1.aA.fresh (wo _))
variable{N':List Str}{scope:Scope}{cl:List (Str × wg)}{src:List (Option Nat)}{elt tgt iter:Expr}{ifs:List Expr}{wi:TI}{g:TG}{tt:TT}{te:TE}
theorem Zv(hd:Hd X ex C oe){i:Nat}{y:Str}{py spos:Pos}(hN:X.N.Nodup)(hy:X.N[i]? = some y)(hly:Loc X.env.scope y)(ok:mq X N' scope cl src)(hi:SE X tgt iter wi)
  (hg:∀C s₀ H₀ fp pins,PG (dg X N' scope cl C s₀ H₀ fp pins) tgt g) (ht:∀C s₀ H₀ fp pins,nV (dg X N' scope cl C s₀ H₀ fp pins) ifs tt) (he:∀C s₀ H₀ fp pins,PE (dg X N' scope cl C s₀ H₀ fp pins) elt te)
  (hsw:swapsWith (.ListComp elt [⟨tgt,iter,ifs,0⟩] scope pos) (some (.Name y py)) spos.line X.env=pure true:=by rfl)
  (hs:∀x,foldedSetIterable iter X.env x=pure x:=by intro _;rfl) (hf:X.fn y=true\/X.env.scope.names.lookup y=some .local:=by first | exact .inl rfl | exact .inr rfl | assumption) :
  PS X (.Assign [.Name y py] (.ListComp elt [⟨tgt,iter,ifs,0⟩] scope pos) spos) (kT (jy src wi g tt te) (fG i)):=by
 intro pins s σ H D0 I h;rw[exec_Assign_Name_used _ _ _ _ hsw];refine we (qW (we ?_))
 show wt _ X.A (do let _ <- comprehension (.ListComp elt [⟨tgt,iter,ifs,0⟩] scope pos) scope X.env _ (newList []) false (eval iter X.env) (some (assign (.Name y py) X.env))) _ _ s
 refine we (WF (Qu (Q:=λ_ s'=>SP X pins D0 .next s') rfl hs ok.jO.jO ok.kind ok.names (aD (hi pins s σ H _ I h) λv s1 h1=>aD h1 λitv s2 h2=>?_))
  (λ_ s' hq=>wp (wp hq)) λ_ _ e=>e)
 obtain⟨it,fp,tn,J,H2,e,I2,T,TC,st2,f2,rd⟩:=h2;subst e;refine Df (RQ:=λD H'=>fG i (.ref D) σ H' D0.nx) (RR:=λacc C=>compPost (model X.prog X.w) X.A X.xe (some (assign (.Name y py) X.env)) (λ_ s'=>SP X pins D0 .next s') acc C) (λ_ _ _=>TC _ ex C oe rfl rfl rfl hd.block) ok hg ht he I2 T st2 f2 rd ?_;intro D C H' s' m J hn hC q;obtain⟨c0,c1,_,c3,c4,c5⟩:=hC
 show wt _ _ (assign (.Name y py) X.env (.ref D)) _ _ s'
 refine wpAny_assign_Name (Fi J hN hy hly (v:=.ref D) rfl (λs'' J2 ⟨a,sb,ha⟩=>?_) hf)
 have hCa:C≠a:=by
  rcases ha with z | z
  ·rw[z];exact c1
  ·exact(c4 y a z).symm
 exact⟨m,hn.sameBut sb hCa,λh' sb'=>⟨_,H',J2.turned (t':=s''.toks) (λb o hb e=>(sb'.2 b hb).trans e) c0 c1 c3 c4 c5,q⟩⟩
end
variable{K:wb}{C x:wg}
structure gP(K:wb)(C:wg):Prop where
 ga:Xp K (.ref C) "__getattribute__"=some (some (.builtin "BaseException.__getattribute__"))
 gh:Xp K (.ref C) "__getattr__"=some none
 cl:(XH K C).isSome=true
 at_:Xp K (.ref C) "__class__"=some (some (.builtin "object.__class__"))
 gt:PySem.W.specialIn K (.builtin "object.__class__") "__get__"=some (some (.builtin "getset_descriptor.__get__"))
 tk:PySem.W.takesIn K (.builtin "object.__class__")=some true
 mr:UK K C (.type "object")=some true
 be:UK K C (.type "BaseException")=some true
theorem zp1(c:gP K C):Uk K C none "__class__"=some (.bind (.builtin "getset_descriptor.__get__") (.builtin "object.__class__")):=by
 obtain⟨cd,hc⟩:=Vq.mp c.cl;unfold Uk;rw[hc,u4,c.at_,u4];simp[c.gt,c.tk]
theorem zvw{M:Model}{A:w5}{E:wf->wl->Prop}{s:wl}{nm:wf}{Q:Unit->wl->Prop}(L0:xw M s.heap (typeOf (.ref x)) (.ref C))(L1:xw M s.heap (isSubtype (.ref C) (.type "BaseException")) true)
  (hq:Q () s):wt M A (checkBuiltinCall "BaseException.__getattribute__" ⟨[.ref x,nm],[]⟩) Q E s:=by
 have hk:builtinKind "BaseException.__getattribute__"=some .slot:=by decide +kernel
 have hp:splitId "BaseException.__getattribute__"=some ("BaseException","__getattribute__"):=by decide +kernel
 have ha:=F.args_bexc_ga (.ref x) nm;have LI:xw M s.heap (isInstance (.ref x) (.type "BaseException")) true:=L0.andThen L1;simp only[checkBuiltinCall,hk,hp];refine we (LI.at ?_)
 repeat(first | exact hq | assumption | wp_step)
theorem zv0{prog:wE}{w:World}{A:w5}{E:wf->wl->Prop}{s:wl}{ox:Obj}{Q:Option wf->wl->Prop}(c:gP K C)(X:K.In s.heap)(I:Xq s.heap x ox C none)
  (k:Q (some (.ref C)) {s with toks:=s.toks+1}):wt (model prog w) A (getAttr? (.ref x) "__class__") Q E s:=by
 obtain⟨hh,g,d,t,os⟩:=s;have L0:=I.type (M:=model prog w);have L1:=XC (M:=model prog w) X c.ga;have L2:=XC (M:=model prog w) X c.gh;have L3:=PySem.W.looks_mroIn (M:=model prog w) X c.be;have LF:=PySem.W.looks_find (M:=model prog w) X I (zp1 c);unfold getAttr? getAttrBy? getAttrBy;refine we (wpAny_mkText (we (WP (vD (we (L0.at (we (L1.at ?_))))))))
 show wt _ _ (getAttrByItsOwn _ _ _ _ _ _) _ _ _
 unfold getAttrByItsOwn
 show wt _ _ (typeLookup (.ref C) "__getattr__" >>= _) _ _ _
 refine we (L2.at ?_);refine we (WP (vD ?_))
 show wt _ _ (boundAndCalled _ _ _) _ _ _
 unfold boundAndCalled;rw[xk.ga.bind];refine we (wp ?_)
 show wt _ _ (call (.builtin "BaseException.__getattribute__") [.ref x,.str "__class__" t]) _ _ _
 refine wpAny_call (codeAny_call_builtin xk.ga.plain F.entry_bexc_ga (zvw L0 L3 ?_));unfold Builtin.«object.__getattribute__»;refine we (wp ?_);refine we (wp ?_);refine we (L0.at (we (LF.at ?_)))
 show wt _ _ (holding [_] (call (.builtin "getset_descriptor.__get__") [.builtin "object.__class__",.ref x,.ref C]) >>= ret) _ _ _
 refine we (vD (wpAny_call (PySem.W.class_get (ox:=ox) (od:=none) X I c.mr ?_)));exact wp (wp (wp k))
theorem NT{ox:Obj}(c:gP K C):PySem.W.KitX K (.ref x) (.ref C) (λh=>Xq h x ox C none) where
 ty:=λ_ _ _ I=>I.type
 it:=λ_ _ X _=>by
  obtain⟨cd,hc⟩:=Vq.mp c.cl;unfold XH at hc
  split at hc
  ·rename_i ho
   intro A' Q' E' s' k q;unfold isType loadHead;exact we (wpAny_loadPart (k _ _ (X _ _ ho)) (wp q))
  ·cases hc
 ne:=λh tp dd its n sl X htp=>by
  obtain⟨cd,hc⟩:=Vq.mp c.cl;refine Bool.eq_false_iff.mpr λq=>?_
  have e:C=tp:=Value.ref.inj (beq_iff_eq.mp q);subst e;unfold XH at hc
  split at hc
  ·rename_i ho
   have z:=(X _ _ ho).symm.trans htp;cases z
  ·cases hc
 ca:=λ{_ _ _ _ _ s} X I k=>zv0 c X I k
def Fx(K:wb)(ex:wg)(C:wf):List V->Hp->VK->Prop:=λxs H Q=>∃(C':wg)(b:Bool),C=.ref C'/\gP K C' /\
 ((∃D,xs=[.ref ex,.ref D]/\wC K (.ref C') (.ref D)=some b) \/ ∃T,xs=[.ref ex,.ty T]/\wC K (.ref C') (.type T)=some b)/\Q (.bl b) H
theorem jK{X:Cx}{ex:wg}{C:wf}{oe:Obj}(hd:Hd X ex C oe):bK X (.builtin "isinstance") (Fx X.K ex C):=by
 intro pins s σ H xs us Q I r h;obtain⟨C',b,rfl,c,h,q⟩:=h;obtain⟨e,_⟩:=I.pin (ex,oe) (Wp _ hd.pn);obtain⟨vs,d,_⟩:=hd.ob.fld;have J:Xq s.heap ex oe C' none:=⟨e,hd.ob.cls,by unfold PySem.W.notCls;rw[d],by rw[hd.ob.dict];trivial⟩;have fin:∀tk,EP X pins σ Q (.bool b) {s with toks:=tk}:=λtk=>⟨.bl b,H,I.tok _,rfl,q⟩
 rcases h with⟨D,rfl,k⟩ | ⟨T,rfl,k⟩
 ·obtain⟨u,w',rfl,rx,rt⟩:=kP r
  cases (show u=Value.ref ex from rx);cases (show w'=Value.ref D from rt);exact W3 (NT c) I.cU J k (λz=>nomatch z) fin
 ·obtain⟨u,w',rfl,rx,rt⟩:=kP r
  cases (show u=Value.ref ex from rx);cases (show w'=Value.type T from rt);exact W3 (NT c) I.cU J k (λz=>nomatch z) fin
def pN(K:wb)(g:TG)(tt:TT)(te:TE)(src:List (Option Nat))(σ : St)(x:V)(H1:Hp)(Q:VK):Prop :=
 ∃a,x=.ref a/\(∃xs,aG K H1 a xs) /\ ∀D,H1 D=none->jV g tt te (iZ K a) D (dF src σ) (upd H1 D (.lst [])) (λH'=>Q (.ref D) H')
def tK(K:wb)(g:TG)(tt:TT)(te:TE)(src:List (Option Nat))(σ : St)(x:V)(H1:Hp)(Q:VK):Prop :=
 ∃a,x=.ref a/\(∃xs,aI K H1 a xs) /\ ∀D,H1 D=none->jV g tt te (jx K a) D (dF src σ) (upd H1 D (.lst [])) (λH'=>Q (.ref D) H')
def En(g:TG)(tt:TT)(te:TE)(src:List (Option Nat))(σ : St)(vs:List V)(H1:Hp)(Q:VK):Prop :=
 ∃j:Int,vs=[.int j] /\ -(2^62)<=j/\j<2^62 /\ ∀D,H1 D=none->jV g tt te (gg 0 j.toNat) D (dF src σ) (upd H1 D (.lst [])) (λH'=>Q (.ref D) H')
section
variable{K:wb}{g:TG}{tt:TT}{te ta:TE}{tA:TA}{src:List (Option Nat)}{σ : St}{H:Hp}{Q:VK}{a:wg}{xs:List V}{n:Int}
theorem zx7(h:ta σ H λx H1=>pN K g tt te src σ x H1 Q):jy src (An K ta) g tt te σ H Q:=h
theorem zyH(h:ta σ H λx H1=>tK K g tt te src σ x H1 Q):jy src (Eg K ta) g tt te σ H Q:=h
theorem Zg(h:tA σ H λvs H1=>En g tt te src σ vs H1 Q):jy src (DZ tA) g tt te σ H Q:=h
def oN(Pv:wg->Nat->List V->St->Hp->Prop)(D:wg)(i:Nat)(σ3:St)(y:V)(H5:Hp):Prop :=
 ∃ys,H5 D=some (.lst ys)/\ys.length<wZ /\ ∃ys',Pv D (i+1) ys' σ3 (upd H5 D (.lst (ys++[y])))
def hZ(Pv:wg->Nat->List V->St->Hp->Prop)(g:TG)(tt:TT)(te:TE)(D:wg)(i:Nat)(x:V)(σ':St)(H':Hp):Prop :=
 g x σ' H' λσ3 H3=>tt σ3 H3 λok H4=>if ok=true then te σ3 H4 λy H5=>oN Pv D i σ3 y H5 else ∃ys',Pv D (i+1) ys' σ3 H4
theorem j3{Pv:wg->Nat->List V->St->Hp->Prop}{D:wg}{i:Nat}{σ3:St}{y:V}{H5:Hp}{ys:List V}(h:H5 D=some (.lst ys))(z:ys.length<=1000)(q:∀H6,Exc D H5 H6->H6 D=some (.lst (ys++[y]))->Pv D (i+1) (ys++[y]) σ3 H6):oN Pv D i σ3 y H5 :=
 ⟨ys,h,kS z,_,q _ (Exc.upd D H5 _) cA⟩
theorem Dp{J:It}{N:Nat}{D:wg}{σ0:St}{H0:Hp}{R:Hp->Prop}(Pv:wg->Nat->List V->St->Hp->Prop)(item:Nat->V->Prop)(h0:Pv D 0 [] σ0 H0)
  (stop:∀i ys σ' H',Pv D i ys σ' H'->N<=i->J.stop i H') (go:∀i ys σ' H',Pv D i ys σ' H'->i<N->J.go i H') (fC:∀i ys σ' H' x H2,Pv D i ys σ' H'->J.fC i H' x H2->H2=H'/\item i x)
  (hs:∀i x ys σ' H',i<N->item i x->Pv D i ys σ' H'->hZ Pv g tt te D i x σ' H') (hd:∀ys σ' H',Pv D N ys σ' H'->R H'):jV g tt te J D σ0 H0 R:=by
 refine⟨λi m σ' H'=>i+m=N /\ ∃ys,Pv D i ys σ' H',⟨N,by lia,[],h0⟩,?_⟩;rintro i m σ' H' ⟨him,ys,hp⟩
 by_cases hm:m=0
 ·subst hm
  have e:i=N:=by lia
  subst e;exact .inl ⟨stop _ _ _ _ hp (wo _),hd _ _ _ hp⟩
 ·refine .inr ⟨go _ _ _ _ hp (by lia),λσ2 H2=>∃ys,Pv D (i+1) ys σ2 H2,λσ2 H2 h=>⟨m-1,by lia,by lia,h⟩,λx H2 hy2=>?_⟩
  obtain⟨e,hit⟩:=fC _ _ _ _ _ _ hp hy2;subst e;exact hs i x ys σ' H2 (by lia) hit hp
theorem rY(hx:aG K H a xs)(Pv:wg->Nat->List V->St->Hp->Prop)(h0:∀D H',H D=none->aj H H'->H' D=some (.lst [])->Pv D 0 [] (dF src σ) H')(hl:∀D i ys σ' H',Pv D i ys σ' H'->aG K H' a xs)
  (hs:∀D i x ys σ' H',xs[i]? = some x->Pv D i ys σ' H'->hZ Pv g tt te D i x σ' H') (hd:∀D ys σ' H',Pv D xs.length ys σ' H'->Q (.ref D) H'):pN K g tt te src σ (.ref a) H Q:=by
 refine⟨a,rfl,⟨xs,hx⟩,λD hD=>Dp (N:=xs.length) Pv (λi x=>xs[i]? = some x) (h0 D _ hD (aj.upd hD) cA) (λi ys σ' H' hp hi=>⟨xs,hl _ _ _ _ _ hp,hi⟩) (λi ys σ' H' hp hi=>?_) (λi ys σ' H' x H2 hp hy=>?_)
  (λi x ys σ' H' _ hit hp=>hs D i x ys σ' H' hit hp) (hd D)⟩
 ·exact⟨xs,xs[i],hl _ _ _ _ _ hp,by simp[hi]⟩
 ·obtain⟨e,hy⟩:=hy
  exact⟨e,hy xs (hl _ _ _ _ _ hp)⟩
theorem zs5(hx:aI K H a xs)(Pv:wg->Nat->List V->St->Hp->Prop)(h0:∀D H',H D=none->aj H H'->H' D=some (.lst [])->Pv D 0 [] (dF src σ) H')(hl:∀D i ys σ' H',Pv D i ys σ' H'->aI K H' a xs)
  (hs:∀D i x ys σ' H',xs[i]? = some x->Pv D i ys σ' H'->hZ Pv g tt te D i x σ' H') (hd:∀D ys σ' H',Pv D xs.length ys σ' H'->Q (.ref D) H'):tK K g tt te src σ (.ref a) H Q:=by
 refine⟨a,rfl,⟨xs,hx⟩,λD hD=>Dp (N:=xs.length) Pv (λi x=>xs[i]? = some x) (h0 D _ hD (aj.upd hD) cA) (λi ys σ' H' hp hi=>⟨xs,hl _ _ _ _ _ hp,hi⟩) (λi ys σ' H' hp hi=>?_) (λi ys σ' H' x H2 hp hy=>?_)
  (λi x ys σ' H' _ hit hp=>hs D i x ys σ' H' hit hp) (hd D)⟩
 ·exact⟨xs,xs[i],hl _ _ _ _ _ hp,by simp[hi]⟩
 ·obtain⟨e,hy⟩:=hy
  exact⟨e,hy xs (hl _ _ _ _ _ hp)⟩
theorem BY(h0' : -1000000000<=n)(h1:n<1000000000)(Pv:wg->Nat->List V->St->Hp->Prop)(h0:∀D H',H D=none->aj H H'->H' D=some (.lst [])->Pv D 0 [] (dF src σ) H')
  (hs:∀D (i:Nat) ys σ' H',i<n.toNat->Pv D i ys σ' H'->hZ Pv g tt te D i (.int (i:Int)) σ' H') (hd:∀D ys σ' H',Pv D n.toNat ys σ' H'->Q (.ref D) H'):En g tt te src σ [.int n] H Q:=by
 refine⟨n,rfl,by lia,by lia,λD hD=>Dp (N:=n.toNat) Pv (λi x=>x=.int (i:Int)) (h0 D _ hD (aj.upd hD) cA) (λi ys σ' H' hp hi=>hi) (λi ys σ' H' hp hi=>hi) (λi ys σ' H' x H2 hp hy=>?_)
  (λi x ys σ' H' hi hit hp=>?_) (hd D)⟩
 ·obtain⟨e,hy⟩:=hy
  exact⟨e,by rw[hy,Int.zero_add]⟩
 ·subst hit
  exact hs D i ys σ' H' hi hp
end
variable{H:Hp}{X:Cx}
structure zL(u' u:TS):Prop where
 e:u'=u
theorem zzI{t u:TS}{D:cu}{σ : St}(h:∀u',zL u' u->t {D with nx:=u' D} σ H):Ct t u D σ H:=h u ⟨rfl⟩
theorem zL.go{u' u:TS}{D:cu}{σ : St}(e:zL u' u)(h:u D σ H):u' D σ H:=by rw[e.e];exact h
theorem znB :vJ "ValueError"=some (.type "ValueError"):=by decide +kernel
theorem zwA{ex:wg}{C:wf}{oe:Obj}{N':List Str}{scope:Scope}{cl:List (Str × wg)}{D:wg}{s₀ : wl}{H₀ : Hp}{fp:List wg}{pins:List (wg × Obj)}{es:List Expr}{k:Nat}{pos:Pos}{t:iJ}{n:Nat}(hd:Hd X ex C oe)
  (h:mL (dg X N' scope cl D s₀ H₀ fp pins) es t) (hn:(VI es (dg X N' scope cl D s₀ H₀ fp pins).env).length=n:=by rfl) (hst:(VI es (dg X N' scope cl D s₀ H₀ fp pins).env).findIdx? (·.1)=none:=by rfl) :
  PG (dg X N' scope cl D s₀ H₀ fp pins) (.Tuple es k pos) (gW X.K n t):=zzy hd.block h hn hst
theorem CY{P:wE}{w:World} : nk (eO P w) X E0:=λ_ _ _ _ _ _ _ h=>by
 obtain⟨_,_,_,_,_,_,_,_,_,_,_,q⟩:=h;exact q.elim
theorem jJ.pY{P:wE}{w:World}{K:wb}{mg:Str->Option wf}{base:wJ}{x qual:Str}{st:vo}{f:wg}{fd:wM}{N ps:List Str}{k:Nat}{sp:Sp}(F:jJ K x qual st f fd)(S:aQ N ps (aH st))(len:∀vs H Q E,sp vs H Q E->vs.length=ps.length)
  (hbody:∀(cdv:wf)(A:w5)(outer:List Env)(s:wl)(H:Hp)(vs:List V)(Q:VK)(E:XK),cZ k (A.deeper (envOfC qual (aH st) s.heap.objs.size f cdv))->sp vs H Q E ->
   ∃t,e_ (gy (eO P w) P w K mg base N qual (aH st) f cdv A outer s H E) (kg st) t/\t {nx:=λ_ H'=>Q .bC H',rt:=Q} (start N vs) H):aJ P w K mg base (eO P w) (k+1) f fd ps sp:=by
 obtain⟨oc,od,kV,doc,pm,an,cdv,ct,osl,rfl,lk,hcd⟩:=F.ex;exact Rj lk hcd S len λA outer s H vs Q E hr hsp=>hbody cdv A outer s H vs Q E hr hsp
theorem Exc.back{p:wg}{H' H2:Hp}(b:Exc p H' H2)(s:Exc p H H'):Exc p H H2:=s.trans b
theorem Td{i j v:Int}{k1 k2:Nat}{p1 p2 pos:Pos}(hc:Ju i j)(hv:i^j.toNat=v):PE X (.BinOp (.Constant (.int i) k1 p1) .Pow (.Constant (.int j) k2 p2) pos) (tC (.int v)):=by
 subst hv;exact λpins s σ H Q I h=>(aB zCa av av:PE X _ _) pins s σ H Q I ⟨i,j,rfl,rfl,hc,h⟩
theorem zvL{α : Type}[DecidableEq α]{x : α}{A B:Prop}(h:B):if(!decide (x=x))=true then A else B:=by simpa using h
theorem zwm{α : Type}[DecidableEq α]{x : α}{A B:Prop}(h:A):if decide (x=x)=true then A else B:=by simpa using h
section
variable{K:wb}{σ : St}{H H':Hp}{Q:VK}{QB:Bool->Hp->Prop}{D:cu}{t:TA}{v w:V}{xs ys:List V}{m n:Int}{r:Rat}{p:wg}
variable{a b:Int}{x y:Rat}
theorem zDc{A B:Prop}(h:B):if(!true)=true then A else B:=by simpa using h
theorem zDj{A B:Prop}(h:A):if(!false)=true then A else B:=by simpa using h
theorem Zx{a b:V}(h:H p=some (.lst [a,b]))(h0:0<=m)(h1:m<2)(q:∀z,z=a\/z=b->Q z H):cJ K (.ref p) (.int m) H Q :=
 AD (λz=>z=a\/z=b) (aG.of h) h0 (by simpa using h1) (by simp) q
theorem zy1(h:H p=some (.lst [.int a,.int b]))(h0:0<=m)(h1:m<2)(q:∀z,z=a\/z=b->Q (.int z) H):cJ K (.ref p) (.int m) H Q :=
 Zx h h0 h1 λz hz=>by rcases hz with rfl | rfl;exact q _ (.inl rfl);exact q _ (.inr rfl)
theorem zzF{c:Int}(h:H p=some (.lst [.int a,.int b,.int c]))(h0:0<=m)(h1:m<3)(q:∀z,z=a\/z=b\/z=c->Q (.int z) H):cJ K (.ref p) (.int m) H Q:=by
 refine AD (λv=>∃z,v=.int z/\(z=a\/z=b\/z=c)) (aG.of h) h0 (by simpa using h1) (λx hx=>?_) λx hx=>?_
 ·simp only[wK,Vd,or_false]at hx
  rcases hx with rfl | rfl | rfl
  ·exact⟨_,rfl,.inl rfl⟩
  ·exact⟨_,rfl,.inr (.inl rfl)⟩
  ·exact⟨_,rfl,.inr (.inr rfl)⟩
 ·obtain⟨z,rfl,hz⟩:=hx
  exact q z hz
theorem zAm{c d:Int}(h:H p=some (.lst [.int a,.int b,.int c,.int d]))(h0:0<=m)(h1:m<4)(q:∀z,z=a\/z=b\/z=c\/z=d->Q (.int z) H):cJ K (.ref p) (.int m) H Q:=by
 refine AD (λv=>∃z,v=.int z/\(z=a\/z=b\/z=c\/z=d)) (aG.of h) h0 (by simpa using h1) (λx hx=>?_) λx hx=>?_
 ·simp only[wK,Vd,or_false]at hx
  rcases hx with rfl | rfl | rfl | rfl
  ·exact⟨_,rfl,by simp⟩
  ·exact⟨_,rfl,by simp⟩
  ·exact⟨_,rfl,by simp⟩
  ·exact⟨_,rfl,by simp⟩
 ·obtain⟨z,rfl,hz⟩:=hx
  exact q z hz
theorem zpg(h1:x.num=y.num)(h2:(x.den:Int)=y.den):x=y:=by
 have h2':x.den=y.den:=by lia
 exact UA h1 h2'
theorem tN(x y:Rat):wR (N x) (N y)=decide (x=y):=by
 have e:wR (N x) (N y)=(decide (x.num=y.num)&&decide ((x.den:Int)=y.den)):=by
  simp only[N,wR,W9,XI,QP]
 rw[e,vL,w9,decide_eq_true_eq,decide_eq_true_eq,decide_eq_true_eq]
 constructor
 ·rintro ⟨h1,h2⟩;exact zpg h1 h2
 ·rintro rfl;exact⟨rfl,rfl⟩
theorem tY(x:Rat):vR (N x)=true:=by simp[N,vR,vA,vS,WO,Wl]
theorem zB9(h:Is K H v (N x))(k:Is K H w (N y))(q:Q (.bl (decide (x=y))) H):jq K v w H Q:=s_ h k (tY x) (tY y) (by rw[tN];exact q)
theorem zCK(h:Is K H v (N x))(k:Is K H w (N y))(q:Q (.bl (!decide (x=y))) H):ko K v w H Q:=nW h k (tY x) (tY y) (by rw[tN];exact q)
end
theorem zBU{X:Cx} : bL X (vU .In) (kz X.K false):=zu5
theorem zvF{X:Cx} : bL X (vU .NotIn) (kz X.K true):=zpD
def R(a b:Rat):wG:=.tuple [N a,N b]
theorem Dv(a b:Rat):cP (R a b)=true:=by simp[R,cP,bV,kO]
structure aO(a b:Rat):Prop where
 a0:0<a
 a4:a<=4
 ad:a.den<=8
 b0:0<=b
 b1:b<=1
 bd:b.den<=12
 ab:1<=a+b
theorem zAy{x y:Rat}{z u r w:Int}(e:x=wy z u)(h1:1<=u)(h2:u<=8)(h3:1<=z)(h4:z<=4*u)(e':y=wy r w)(g1:1<=w)(g2:w<=12)(g3:0<=r)(g4:r<=w)
  (h:x.num*(y.den:Int)+y.num*(x.den:Int)<(x.den:Int)*(y.den:Int)):aO x (1-x):=by
 obtain⟨a1,a2,a3⟩:=Aw e h1 h2 h3 h4;obtain⟨b1,b2,b3⟩:=Av e' g1 g2 g3 g4;have hs:=(NU x y).mp h;have hd:=zq8 x;exact⟨a1,a2,a3,by grind,by grind,by lia,by grind⟩
theorem zzJ{x y:Rat}{z u r w:Int}(e:x=wy z u)(h1:1<=u)(h2:u<=8)(h3:1<=z)(h4:z<=4*u)(e':y=wy r w)(g1:1<=w)(g2:w<=12)(g3:0<=r)(g4:r<=w)
  (h:¬ x.num*(y.den:Int)+y.num*(x.den:Int)<(x.den:Int)*(y.den:Int)):aO x y:=by
 obtain⟨a1,a2,a3⟩:=Aw e h1 h2 h3 h4;obtain⟨b1,b2,b3⟩:=Av e' g1 g2 g3 g4;have hs:=λz=>h ((NU x y).mpr z)
 exact⟨a1,a2,a3,b1,b2,b3,by grind⟩
theorem aO.ba{a b:Rat}(h:aO a b):af 10 a:=af.small (c:=4) (d:=8) (vX h.a0) h.a4 h.ad (by decide) (by decide)
theorem aO.bb{a b:Rat}(h:aO a b):af 10 b:=af.small (c:=1) (d:=12) h.b0 h.b1 h.bd (by decide) (by decide)
section
variable{K:wb}{H:Hp}{Q:VK}{v:V}{a b:Rat}{σ : St}{gs:iJ}{QS:St->Hp->Prop}
theorem zyZ(h:Is K H v (R a b))(q:∀x,Is K H x (N a)->Q x H):cJ K v (.int 0) H Q:=aF (j:=0) h rfl q
theorem zAB(h:Is K H v (R a b))(q:∀x,Is K H x (N b)->Q x H):cJ K v (.int 1) H Q:=aF (j:=1) h rfl q
theorem Is.Jf{H':Hp}(h:Is K H v (R a b))(s:aV H H'):Is K H' v (R a b):=Is.keep s _ v (Dv a b) h
theorem zyl(h:Is K H v (R a b))(q:∀x y,Is K H x (N a)->Is K H y (N b)->gs [x,y] σ H QS):gW K 2 gs v σ H QS :=
 K_ h rfl λxs t=>by
  obtain⟨x,r1,rfl,h1,t⟩:=dH.mp t;obtain⟨y,r2,rfl,h2,t⟩:=dH.mp t;rw[gc.mp t];exact q x y h1 h2
theorem Nu{x y:V}(h1:Is K H x (N a))(h2:Is K H y (N b))(q:∀v H',aj H H'->Is K H' v (R a b)->Q v H'):lz K [x,y] H Q :=
 cg (by show 2<=1000;decide) (.cons h1 (.cons h2 .nil)) q
end
section
variable{K:wb}{H H' H2:Hp}{Q:VK}{v w:V}{a b c d:Rat}{D:wg}
theorem ZX(h:Is K H v (R a b))(q:Q (.bl true) H):iD K [v,.ty "tuple"] H Q:=MJ h q
theorem zy7(h:Is K H v (R a b))(q:Q (.int 2) H):jX K [v] H Q:=oj h q
theorem aj.grow(s:aj H H')(n:H D=none)(e:Exc D H' H2):aj H H2:=λb o h=>e b o (km h n) (s b o h)
end
theorem zyR{σ : St}{H:Hp}{Q:Bool->Hp->Prop}(q:Q true H):Tt σ H Q:=q
theorem Ff{Pv:wg->Nat->List V->St->Hp->Prop}{g:TG}{tt:TT}{te:TE}{D:wg}{i:Nat}{x:V}{σ':St}{H':Hp}(h:g x σ' H' λσ3 H3=>tt σ3 H3 λok H4=>if ok=true then te σ3 H4 λy H5=>oN Pv D i σ3 y H5 else ∃ys',Pv D (i+1) ys' σ3 H4) :
  hZ Pv g tt te D i x σ' H':=h
section
variable{K:wb}{σ : St}{H:Hp}{Q:VK}{E:XK}{D:cu}{t:TA}{C G:wf}{i:Nat}{tb:(St->XK)->TS}{th:wg->wf->TS}{sp:Sp}{W:St->XK}{ex C':wg}{b:Bool}
theorem zyI(h:t σ H λvs H1=>vs.length<=wZ/\E C none H1):M0 C E t D σ H:=h
theorem zCb(W:St->XK)(h:tb W D σ H) (k:∀σ' C o H',W σ' C o H'->qL K C G=some true /\
  ∀ex,H' ex=none->th ex C {nx:=λσ2 H2=>D.nx (σ2.set i none) H2,rt:=D.rt,bk:=λσ2 H2=>D.bk (σ2.set i none) H2,ct:=λσ2 H2=>D.ct (σ2.set i none) H2} (σ'.set i (some (.ref ex))) H'):Kg K G i tb th D σ H:=⟨W,h,k⟩
theorem zyt(h:t σ H λvs H1=>sp vs H1 Q (W σ)):DG sp W t σ H Q:=h
theorem zv1{D':wg}(c:gP K C')(k:wC K (.ref C') (.ref D')=some b)(q:Q (.bl b) H):Fx K ex (.ref C') [.ref ex,.ref D'] H Q:=⟨C',b,rfl,c,.inl ⟨D',rfl,k⟩,q⟩
theorem zu6{T:String}(c:gP K C')(k:wC K (.ref C') (.type T)=some b)(q:Q (.bl b) H):Fx K ex (.ref C') [.ref ex,.ty T] H Q:=⟨C',b,rfl,c,.inr ⟨T,rfl,k⟩,q⟩
end
variable{K:wb}{H:Hp}{xs:List V}{ws:List (Str × Bool)}{p:Pos}{es:List Expr}{env:Env}
theorem rC(s:String):UU (vT s)=true:=by
 rw[Str.ofString_eq_toList,UU];simp only[List.all_toArray,X8,WW,Function.comp,decide_eq_true_eq];intro c _;have:=c.valid;simp only[Char.toNat];rcases this with h | h
 ·have:c.val.toNat<0xd800:=h
  lia
 ·exact h.2
inductive fI(K:wb)(H:Hp):List V->List (Str × Bool)->Prop
 | nil:fI K H [] []
 | cons {x:V} {xs:List V} {w:Str} {b:Bool} {ws:List (Str × Bool)} : Is K H x (.tuple [.str w,.bool b])->fI K H xs ws->fI K H (x::xs) ((w,b)::ws)
theorem fI.get(h:fI K H xs ws):∀(i:Nat)(x:V),xs[i]? = some x->∃w b,ws[i]? = some (w,b)/\Is K H x (.tuple [.str w,.bool b]):=by
 induction h with
 | nil=>intro i x e;simp at e
 | cons h _ ih =>
  intro i x e;cases i with
  | zero=>simp at e;subst e;exact⟨_,_,rfl,h⟩
  | succ i=>exact ih i x (by simpa using e)
theorem zzd{H':Hp}{v:V}{d:wG}(h:Is K H v d)(s:aj H H'):Is K H' v d:=h.by s
theorem fI.app{ys:List V}{us:List (Str × Bool)}(h:fI K H xs ws)(h':fI K H ys us):fI K H (xs++ys) (ws++us):=by
 induction h with
 | nil=>exact h'
 | cons h _ ih=>exact .cons h ih
theorem fI.len(h:fI K H xs ws):xs.length=ws.length:=by
 induction h with
 | nil=>rfl
 | cons _ _ ih=>simp[ih]
def jH(ws:List (Str × Bool)):List V:=(ws.filter (·.2)).map λp=>V.str p.1
theorem Tz{i:Nat}{w:Str}{b:Bool}(e:ws[i]? = some (w,b)):jH (ws.take (i+1))=jH (ws.take i)++if b=true then [V.str w]else []:=by
 unfold jH;rw[qF,e];cases b<;>simp
theorem zBH(ws:List (Str × Bool)):(jH ws).length<=ws.length:=by
 unfold jH;rw[wm];exact Wk _ _
theorem zxZ{Q:VK}{σ : St}{c:wg}(h:H c=some (.lst xs))(hw:fI K H xs ws)(hl:ws.length<=100)(q:∀D H',aj H H'->H' D=some (.lst (jH ws))->Q (.ref D) H') :
  pN K (gW K 2 (zg (fG 0) (zg (fG 1) EK))) (tB (fO 1)) (fO 0) [none,none] σ (.ref c) H Q:=by
 refine rY (aG.of h) (λD i ys σ' H'=>(∃o1 o2,σ'=[o1,o2])/\H D=none/\aj H H'/\H' D=some (.lst ys)/\ys=jH (ws.take i)) (λD H' n s e=>⟨⟨_,_,rfl⟩,n,s,e,by simp[jH]⟩) (λD i ys σ' H' h'=>aG.of (h'.2.2.1 _ _ h)) ?_ ?_
 ·rintro D i x ys σ' H' hx ⟨⟨o1,o2,rfl⟩,hn,S,hD,rfl⟩
  obtain⟨w,b,ew,iw⟩:=hw.get i x hx
  have hz:(jH (ws.take i)).length<=1000:=by
   have h1:=zBH (ws.take i);have h2:(ws.take i).length<=ws.length:=by rw[Wu];lia
   lia
  refine Ff (K_ (iw.by S) rfl λzs t=>?_);obtain⟨z1,r1,rfl,e1,t⟩:=dH.mp t;obtain⟨z2,r2,rfl,e2,t⟩:=dH.mp t;cases gc.mp t;cases cb.mp e1;cases ki.mp e2;refine BM (BJ (BM (BJ (MB ?_))));refine O3 (Bk rfl (OX ?_));cases b with
  | false =>
   refine lQ ⟨_,⟨_,_,rfl⟩,hn,S,hD,?_⟩;rw[Tz ew];simp
  | true =>
   refine lV (Bk rfl (j3 hD hz λH6 E6 e6=>⟨⟨_,_,rfl⟩,hn,S.grow hn E6,e6,?_⟩));rw[Tz ew];simp
 ·rintro D ys σ' H' ⟨_,hn,S,hD,rfl⟩
  rw[hw.len,Wv]at hD;exact q D H' S hD
theorem dU{c:wg}{p q:Int}(r:Rat)(h:aI K H c [.int p,.int q])(e1:r.num=p)(e2:(r.den:Int)=q):Is K H (.ref c) (N r):=by
 subst e1 e2;exact bQ.mpr ⟨c,_,rfl,h,dH.mpr ⟨_,_,rfl,bW.mpr rfl,dH.mpr ⟨_,_,rfl,bW.mpr rfl,gc.mpr rfl⟩⟩⟩
theorem SF(s:String):vR (.str (vT s))=true:=by
 simp[vR,vA,WO,rC]
theorem yD{c:Const}{k:Nat} : wX ((.Constant c k p)::es) env=(false,eval (.Constant c k p) env)::wX es env:=rfl
theorem KQ{o:Operator}{x y:Expr} : wX ((.BinOp x o y p)::es) env=(false,eval (.BinOp x o y p) env)::wX es env:=rfl
theorem dY{x:Str} : wX ((.Name x p)::es) env=(false,eval (.Name x p) env)::wX es env:=rfl
theorem iX{x y:Expr} : wX ((.Subscript x y p)::es) env=(false,eval (.Subscript x y p) env)::wX es env:=rfl
section
variable{K:wb}{H H' H2:Hp}{Q:VK}{R:Prop}{v w y:V}{p l:wg}{xs ys zs:List V}{ns:List Int}{m:Int}{σ : St}
end
section
variable{K:wb}{H H' H2:Hp}{Q:VK}{R:Prop}{v w y:V}{p l:wg}{xs ys zs:List V}{ns:List Int}{m:Int}{σ : St}{to:TE}{t:TA}{T:String}{r:V->List V->Hp->VK->Prop}
theorem zDG(h:to σ H λx H1=>zW K T x H1/\t σ H1 λxs H2=>r x xs H2 Q):OH K T r to t σ H Q:=h
theorem iC(h:aG K H p xs)(q:R):zW K "list" (.ref p) H/\R:=⟨.inl ⟨rfl,xs,h⟩,q⟩
theorem hW(h:H l=some (.lst xs))(z:xs.length<=1000)(q:∀H',Exc l H H'->H' l=some (.lst (xs++[y]))->Q .bC H'):SY (.ref l) [y] H Q:=⟨l,xs,y,rfl,rfl,h,kS z,q _ (Exc.upd l H _) cA⟩
end
variable{X:Cx}
def pH(K:wb):List V->Hp->VK->Prop:=λxs H Q=>∃p ys,xs=[.ref p]/\((aG K H p ys /\ ∀l,H l=none->Q (.ref l) (upd H l (.tup ys)))\/(aI K H p ys/\Q (.ref p) H))
def p7(K:wb):List V->Hp->VK->Prop:=λxs H Q=>∃p ys,xs=[.ref p]/\(aG K H p ys\/aI K H p ys) /\ ∀l,H l=none->Q (.ref l) (upd H l (.lst ys))
theorem zrs : bK X (.type "tuple") (pH X.K):=zns
theorem EU : bK X (.type "list") (p7 X.K):=zo3
def tU(K:wb):V->Option Int->Option Int->Hp->VK->Prop:=λx lo hi H Q=>Po K x lo hi H Q\/My K x lo hi H Q
theorem yZ : kX X (tU X.K):=zyV.or ZY
section
variable{K:wb}{H H' H2:Hp}{Q:VK}{QO:Option Int->Hp->Prop}{R:Prop}{v w y:V}{p l:wg}{xs ys zs:List V}{ds es:List wG}{m:Int}{σ : St}{te:TE}{tl th:TO}{r:V->Option Int->Option Int->Hp->VK->Prop}{lo hi:Option Int}
theorem p0(h:aG K H p ys)(q:∀l H',H l=none->aj H H'->H' l=some (.tup ys)->Q (.ref l) H'):pH K [.ref p] H Q:=⟨p,ys,rfl,.inl ⟨h,λl hl=>q l _ hl (aj.upd hl) cA⟩⟩
theorem gx(h:Is K H v (.list ds))(q:∀w H',aj H H'->Is K H' w (.tuple ds)->Q w H'):pH K [v] H Q:=by
 obtain⟨a,xs,rfl,hs,t⟩:=cf.mp h;exact p0 hs λl H' _ s e=>q _ H' s (bQ.mpr ⟨l,xs,rfl,.of e,ao.same s ds xs t⟩)
theorem yE(h:Is K H v (.tuple ds))(q:Q v H):pH K [v] H Q:=by
 obtain⟨a,xs,rfl,hs,t⟩:=bQ.mp h;exact⟨a,xs,rfl,.inr ⟨hs,q⟩⟩
theorem CD(h:Is K H v (.tuple ds))(q:∀l H' ys,H l=none->aj H H'->H' l=some (.lst ys)->ao K H' ys ds->Q (.ref l) H'):p7 K [v] H Q:=by
 obtain⟨a,xs,rfl,hs,t⟩:=bQ.mp h;exact⟨a,xs,rfl,.inr hs,λl hl=>q l _ xs hl (aj.upd hl) cA (ao.same (aj.upd hl) ds xs t)⟩
theorem zyo(h:te σ H λx H1=>tl σ H1 λl H2=>th σ H2 λu H3=>r x l u H3 Q):Nb r te tl th σ H Q:=h
theorem zwh(q:QO none H):Jy σ H QO:=q
theorem zAs(h:te σ H λx H1=>∃i,x=.int i/\QO (some i) H1):Pz te σ H QO:=h
theorem zwK{RI:Int->Prop}(q:RI m):∃i,V.int m=V.int i/\RI i:=⟨m,rfl,q⟩
def jv{α : Type}(xs:List α)(lo hi:Option Int):List α:=(xs.drop (HT.aU xs.length 0 lo)).take (HT.aU xs.length xs.length hi-HT.aU xs.length 0 lo)
theorem ao.take:∀{ds:List wG}{xs:List V}(n:Nat),ao K H xs ds->ao K H (xs.take n) (ds.take n)
 | _,_,0,h=>by simp[ao.nil]
 | [],_,n+1,h=>by rw[gc.mp h];simp[ao.nil]
 | d::ds,_,n+1,h=>by
  obtain⟨x,r,rfl,q,t⟩:=dH.mp h;rw[XR,XR];exact .cons q (ao.take n t)
theorem ao.drop:∀{ds:List wG}{xs:List V}(n:Nat),ao K H xs ds->ao K H (xs.drop n) (ds.drop n)
 | _,_,0,h=>by simpa using h
 | [],_,n+1,h=>by rw[gc.mp h];simp[ao.nil]
 | d::ds,_,n+1,h=>by
  obtain⟨x,r,rfl,q,t⟩:=dH.mp h;rw[Q1,Q1];exact ao.drop n t
theorem ao.cut(h:ao K H xs ds):ao K H (kc xs lo hi) (jv ds lo hi):=by
 unfold kc jv;rw[h.length];exact(h.drop _).take _
theorem zCD(h:aG K H p xs)(q:∀l H',H l=none->aj H H'->H' l=some (.lst (kc xs lo hi))->Q (.ref l) H'):tU K (.ref p) lo hi H Q:=.inl ⟨p,xs,rfl,h,λl hl=>q l _ hl (aj.upd hl) cA⟩
theorem DC(h:Is K H v (.list ds))(q:∀l H' ys,H l=none->aj H H'->H' l=some (.lst ys)->ao K H' ys (jv ds lo hi)->Q (.ref l) H'):tU K v lo hi H Q:=by
 obtain⟨a,xs,rfl,hs,t⟩:=cf.mp h;exact zCD hs λl H' hl s e=>q l H' _ hl s e (ao.same s _ _ t.cut)
theorem zy5(h:Is K H v (.tuple ds))(hw:¬ (HT.aU ds.length 0 lo=0/\HT.aU ds.length ds.length hi=ds.length))(q:∀w H',aj H H'->Is K H' w (.tuple (jv ds lo hi))->Q w H'):tU K v lo hi H Q:=by
 obtain⟨a,xs,rfl,hs,t⟩:=bQ.mp h;refine .inr ⟨a,xs,rfl,hs,by rw[t.length];exact hw,λl hl=>q _ _ (aj.upd hl) (bQ.mpr ⟨l,_,rfl,.of cA,ao.same (aj.upd hl) _ _ t.cut⟩)⟩
theorem LW{α : Type}(xs:List α):jv xs none (some (-1))=xs.dropLast:=by
 unfold jv
 show(xs.drop 0).take (((-1:Int)+(xs.length:Int)).toNat-0)=_
 rw[Xo,Xn]
 congr 1
 lia
theorem zvZ{α : Type}(xs:List α):jv xs (some 1) none=xs.tail:=by
 unfold jv
 show(xs.drop (min 1 xs.length)).take (xs.length-min 1 xs.length)=_
 cases xs with
 | nil=>rfl
 | cons x xs =>
  have e:min 1 (x::xs).length=1:=by rw[vx];lia
  rw[e,Q1,Xo,vx,Qo,Wv,Uy]
end
def TN(xs:List Rat):wG:=.tuple (xs.map N)
def LN(xs:List Rat):wG:=.list (xs.map N)
theorem fu:∀xs:List Rat,bV (xs.map N)=true
 | []=>by simp[bV]
 | x::xs=>by rw[wV,bV,kO,fu xs];rfl
theorem yo(xs:List Rat):cP (TN xs)=true:=by rw[TN,cP];exact fu xs
theorem zwz(x:Rat):(N x).canLay0=true:=by simp[N,vA,vS]
theorem zzC(x:Rat):(N x).depth=1:=by simp[N,WO,Wl]
theorem zS:∀xs:List Rat,vS (xs.map N)=true
 | []=>by simp[vS]
 | x::xs=>by rw[wV,vS,zwz,zS xs];rfl
theorem CO:∀xs:List Rat,Wl (xs.map N)<=1
 | []=>by simp[Wl]
 | x::xs=>by
  have:=CO xs;rw[wV,Wl,zzC];lia
theorem NS(xs:List Rat):vR (TN xs)=true:=by
 unfold vR TN;rw[vA,zS,WO,qV];have:=CO xs;exact decide_eq_true (by lia)
theorem OC(xs:List Rat):vR (LN xs)=true:=by
 unfold vR LN;rw[vA,zS,WO,qV];have:=CO xs;exact decide_eq_true (by lia)
theorem C4:∀xs ys:List Rat,W9 (xs.map N) (ys.map N)=decide (xs=ys)
 | [],[]=>by simp[W9]
 | [],y::ys=>by simp[W9]
 | x::xs,[]=>by simp[W9]
 | x::xs,y::ys=>by
  rw[wV,wV,W9,tN,C4 xs ys,vL,w9,decide_eq_true_eq,decide_eq_true_eq,decide_eq_true_eq,Ul]
theorem zB4(xs ys:List Rat):wR (TN xs) (TN ys)=decide (xs=ys):=by
 unfold TN;rw[wR,C4]
theorem zB5(xs ys:List Rat):wR (LN xs) (LN ys)=decide (xs=ys):=by
 unfold LN;rw[wR,C4]
section
variable{K:wb}{H H' H2:Hp}{Q:VK}{v w y:V}{p l:wg}{vs:List V}{xs ys:List Rat}{m:Int}{σ : St}
theorem BR(h:Is K H v (TN xs))(k:Is K H w (TN ys))(q:Q (.bl (decide (xs=ys))) H):jq K v w H Q:=s_ h k (NS xs) (NS ys) (by rw[zB4];exact q)
theorem zy9(h:Is K H v (LN xs))(k:Is K H w (LN ys))(q:Q (.bl (!decide (xs=ys))) H):ko K v w H Q:=nW h k (OC xs) (OC ys) (by rw[zB5];exact q)
theorem DN{i:Nat}(t:ao K H vs (xs.map N))(h:i<xs.length):∃x,vs[i]? = some x/\Is K H x (N (xs.getD i 0)):=by
 refine t.get ?_;rw[wx,wa,wc h]
 rfl
theorem dB{i:Nat}{x:V}(t:ao K H vs (xs.map N))(h:vs[i]? = some x):i<xs.length/\Is K H x (N (xs.getD i 0)):=by
 have hl:=t.length;rw[wm]at hl
 have hi:i<xs.length:=by
  rcases wB i vs.length with z | z
  ·lia
  ·rw[wQ z]at h;cases h
 obtain⟨x',e,hx⟩:=DN t hi;rw[h]at e;cases e;exact⟨hi,hx⟩
theorem zAF(h:Is K H v (TN xs))(h0:0<=m)(h1:m<xs.length)(q:∀x,Is K H x (N (xs.getD m.toNat 0))->Q x H):cJ K v (.int m) H Q:=by
 obtain⟨a,vs,rfl,hs,t⟩:=bQ.mp h;obtain⟨n,rfl⟩:∃n:Nat,m=(n:Int):=⟨m.toNat,by lia⟩;obtain⟨x,e,hx⟩:=DN (i:=n) t (by lia);exact yp hs (mw e) (q x hx)
theorem ml(h:Is K H v (LN xs))(h0:0<=m)(h1:m<xs.length)(q:∀x,Is K H x (N (xs.getD m.toNat 0))->Q x H):cJ K v (.int m) H Q:=by
 obtain⟨a,vs,rfl,hs,t⟩:=cf.mp h;obtain⟨n,rfl⟩:∃n:Nat,m=(n:Int):=⟨m.toNat,by lia⟩;obtain⟨x,e,hx⟩:=DN (i:=n) t (by lia);exact gJ hs (mw e) (q x hx)
theorem zxh(h:Is K H v (LN xs))(q:Q (.int xs.length) H):jX K [v] H Q:=by
 obtain⟨a,vs,rfl,hs,t⟩:=cf.mp h;have:=t.length;rw[wm]at this;exact iu hs (by rw[this];exact q)
theorem dC(h:H l=some (.lst vs))(t:ao K H vs (xs.map N)):Is K H (.ref l) (LN xs):=cf.mpr ⟨l,vs,rfl,.of h,t⟩
theorem gI:∀{xs:List Rat}{vs:List V},vs.length=xs.length->(∀i x,vs[i]? = some x->Is K H x (N (xs.getD i 0)))->ao K H vs (xs.map N)
 | [],vs,hl,_=>by
  have:vs=[]:=Vy hl;subst this;exact .nil
 | x::xs,[],hl,_=>by cases hl
 | x::xs,u::vs,hl,h=>by
  rw[wV];exact .cons (h 0 u rfl) (gI (by simpa using hl) λi y e=>h (i+1) y e)
end
section
variable{K:wb}{g:TG}{tt:TT}{te:TE}{src:List (Option Nat)}{σ : St}{H:Hp}{Q:VK}{a:wg}{vs:List V}{n:Int}{tl:St}{o0:Option V}
def gF(H:Hp)(tl:St)(Rel:Nat->V->Hp->Prop)(D:wg)(i:Nat)(ys:List V)(σ':St)(H':Hp):Prop :=
 (∃o,σ'=o::tl)/\H D=none/\aj H H'/\H' D=some (.lst ys)/\ys.length=i /\ ∀j y,ys[j]? = some y->Rel j y H'
theorem gF.same{Rel:Nat->V->Hp->Prop}{D:wg}{i:Nat}{ys:List V}{σ':St}{H':Hp}(h:gF H tl Rel D i ys σ' H'):aj H H':=h.2.2.1
theorem eU{Rel:Nat->V->Hp->Prop}{D:wg}{i:Nat}{ys:List V}{σ' σ3:St}{H1 H5:Hp}{y:V}(inv:gF H tl Rel D i ys σ' H1)(hi:i<=1000)(hk:∀i v H1 H2,aV H1 H2->Rel i v H1->Rel i v H2)(hσ : ∃o,σ3=o::tl)(s:aj H1 H5)(r:Rel i y H5):oN (gF H tl Rel) D i σ3 y H5:=by
 obtain⟨_,hn,s1,hD,hl,hr⟩:=inv;have hD5:=s _ _ hD;refine j3 hD5 (by lia) λH6 E6 e6=>⟨hσ,hn,(s1.trans s).grow hn E6,e6,by simp[hl],λj z hz=>?_⟩
 have k6:aV H5 H6:=E6.keep hD5;rcases wB j ys.length with hj | hj
 ·rw[Wc hj]at hz
  exact hk _ _ _ _ (s.keep.trans k6) (hr j z hz)
 ·have hj':j=ys.length:=by
   rcases wB ys.length j with q | q
   ·rw[wQ (by simp;lia)]at hz;cases hz
   ·lia
  subst hj';rw[vK (wo _),Vt]at hz;cases hz;rw[hl];exact hk _ _ _ _ k6 r
theorem mM(hx:aG K H a vs)(hsrc:dF src σ = o0::tl)(Rel:Nat->V->Hp->Prop)(hs:∀D i x ys o H1,vs[i]? = some x->gF H tl Rel D i ys (o::tl) H1->hZ (gF H tl Rel) g tt te D i x (o::tl) H1)
  (hd:∀D ys H',H D=none->aj H H'->H' D=some (.lst ys)->ys.length=vs.length->(∀j y,ys[j]? = some y->Rel j y H')->Q (.ref D) H'):pN K g tt te src σ (.ref a) H Q:=by
 refine rY hx (gF H tl Rel) (λD H' n s e=>⟨⟨o0,hsrc⟩,n,s,e,rfl,λj y z=>by simp at z⟩) (λD i ys σ' H' h=>h.same.seq hx) ?_ λD ys σ' H' ⟨_,n,s,e,hl,r⟩=>hd D ys H' n s e hl r
 rintro D i x ys σ' H' hx' h;obtain⟨⟨o,rfl⟩,_⟩:=id h;exact hs D i x ys o H' hx' h
theorem jC(hx:aI K H a vs)(hsrc:dF src σ = o0::tl)(Rel:Nat->V->Hp->Prop)(hs:∀D i x ys o H1,vs[i]? = some x->gF H tl Rel D i ys (o::tl) H1->hZ (gF H tl Rel) g tt te D i x (o::tl) H1)
  (hd:∀D ys H',H D=none->aj H H'->H' D=some (.lst ys)->ys.length=vs.length->(∀j y,ys[j]? = some y->Rel j y H')->Q (.ref D) H'):tK K g tt te src σ (.ref a) H Q:=by
 refine zs5 hx (gF H tl Rel) (λD H' n s e=>⟨⟨o0,hsrc⟩,n,s,e,rfl,λj y z=>by simp at z⟩) (λD i ys σ' H' h=>h.same.kf hx) ?_ λD ys σ' H' ⟨_,n,s,e,hl,r⟩=>hd D ys H' n s e hl r
 rintro D i x ys σ' H' hx' h;obtain⟨⟨o,rfl⟩,_⟩:=id h;exact hs D i x ys o H' hx' h
theorem zAp(h0:0<=n)(h1:n<1000000000)(hsrc:dF src σ = o0::tl)(Rel:Nat->V->Hp->Prop)(hs:∀D (i:Nat) ys o H1,i<n.toNat->gF H tl Rel D i ys (o::tl) H1->hZ (gF H tl Rel) g tt te D i (.int (i:Int)) (o::tl) H1)
  (hd:∀D ys H',H D=none->aj H H'->H' D=some (.lst ys)->ys.length=n.toNat->(∀j y,ys[j]? = some y->Rel j y H')->Q (.ref D) H'):En g tt te src σ [.int n] H Q:=by
 refine BY (by lia) h1 (gF H tl Rel) (λD H' n s e=>⟨⟨o0,hsrc⟩,n,s,e,rfl,λj y z=>by simp at z⟩) ?_ λD ys σ' H' ⟨_,n,s,e,hl,r⟩=>hd D ys H' n s e hl r
 rintro D i ys σ' H' hi h;obtain⟨⟨o,rfl⟩,_⟩:=id h;exact hs D i ys o H' hi h
theorem gM{xs:List Rat} : ∀(i:Nat)(v:V)(H1 H2:Hp),aV H1 H2->Is K H1 v (N (xs.getD i 0))->Is K H2 v (N (xs.getD i 0)):=λi v H1 H2 k h=>h.fP k
end
theorem zD7{H:Hp}{G:Hp->Prop}{P:Prop}(use:(∀H1,aj H H1->G H1)->P)(b7:∀H1,aj H H1->G H1):P:=use b7
theorem lP{H H':Hp}{l:wg}(s:aj H H')(h:H' l=none):H l=none:=by
 cases e:H l with
 | none=>rfl
 | some o=>rw[s _ _ e]at h;cases h
def TZ(ns:List Int):wG:=.tuple (ns.map PyData.int)
def LL(rss:List (List Rat)):wG:=.list (rss.map LN)
theorem KW:∀ns:List Int,bV (ns.map PyData.int)=true
 | []=>by simp[bV]
 | n::ns=>by rw[wV,bV,KW ns];rfl
theorem zCi(ns:List Int):cP (TZ ns)=true:=by rw[TZ,cP];exact KW ns
section
variable{K:wb}{H H' H2:Hp}{Q:VK}{v w y:V}{p l:wg}{vs:List V}{ns:List Int}{rss:List (List Rat)}{m:Int}{σ : St}
theorem p6:∀{ns:List Int}{vs:List V},ao K H vs (ns.map PyData.int) ↔ vs=ns.map V.int
 | [],vs=>by rw[Qk,gc];rfl
 | n::ns,vs=>by
  rw[wV,dH,wV]
  constructor
  ·rintro ⟨x,r,rfl,h,t⟩
   rw[bW.mp h,p6.mp t]
  ·rintro rfl
   exact⟨_,_,rfl,bW.mpr rfl,p6.mpr rfl⟩
theorem oU:Is K H v (TZ ns) ↔ ∃a,v=.ref a/\aI K H a (ns.map V.int):=by
 unfold TZ;rw[bQ]
 constructor
 ·rintro ⟨a,xs,e,h,t⟩
  rw[p6.mp t]at h;exact⟨a,e,h⟩
 ·rintro ⟨a,e,h⟩
  exact⟨a,_,e,h,p6.mpr rfl⟩
theorem Bn(h:Is K H v (TZ ns))(q:Q (.int ns.length) H):jX K [v] H Q:=oj h (by rw[wm];exact q)
theorem Rf{i:Nat}(t:ao K H vs (rss.map LN))(h:i<rss.length):∃x,vs[i]? = some x/\Is K H x (LN (rss.getD i [])):=by
 refine t.get ?_;rw[wx,wa,wc h]
 rfl
theorem Ki(h:Is K H v (LL rss))(h0:0<=m)(h1:m<rss.length)(q:∀x,Is K H x (LN (rss.getD m.toNat []))->Q x H):cJ K v (.int m) H Q:=by
 obtain⟨a,vs,rfl,hs,t⟩:=cf.mp h;obtain⟨n,rfl⟩:∃n:Nat,m=(n:Int):=⟨m.toNat,by lia⟩;obtain⟨x,e,hx⟩:=Rf (i:=n) t (by lia);exact gJ hs (mw e) (q x hx)
theorem Bw{α : Type}{xs:List α}{x : α}(h:xs[xs.length-1]? = some x):gq xs (-1)=some x:=by
 have hl:0<xs.length:=by
  cases xs with
  | nil=>cases h
  | cons _ _=>simp
 unfold gq ja;rw[if_neg (by lia),if_pos (by lia)]
 show xs[((-1:Int)+(xs.length:Int)).toNat]? = some x
 rw[show((-1:Int)+(xs.length:Int)).toNat=xs.length-1 by lia];exact h
theorem Zq(h:Is K H v (LL rss))(h0:0<rss.length)(q:∀x,Is K H x (LN (rss.getD (rss.length-1) []))->Q x H):cJ K v (.int (-1)) H Q:=by
 obtain⟨a,vs,rfl,hs,t⟩:=cf.mp h;have hl:=t.length;rw[wm]at hl;obtain⟨x,e,hx⟩:=Rf (i:=rss.length-1) t (by lia);rw[<- hl]at e;exact gJ hs (Bw e) (q x hx)
theorem Sa:∀{rss:List (List Rat)}{vs:List V},vs.length=rss.length->(∀i x,vs[i]? = some x->Is K H x (LN (rss.getD i [])))->ao K H vs (rss.map LN)
 | [],vs,hl,_=>by
  have:vs=[]:=Vy hl;subst this;exact .nil
 | x::xs,[],hl,_=>by cases hl
 | x::xs,u::vs,hl,h=>by
  rw[wV];exact .cons (h 0 u rfl) (Sa (by simpa using hl) λi y e=>h (i+1) y e)
end
def zV(K:wb):R2:=λx y H Q=>PK K x y H Q \/ ∃a b ys,x=.ref a/\y=.ref b/\aI K H a []/\aI K H b ys/\Q (.ref b) H
theorem Mm{X:Cx} : bL X (Ve .Add) (zV X.K):=by
 intro pins s σ H x y v u Q I rx ry h;rcases h with h | ⟨a,b,ys,rfl,rfl,ha,hb,q⟩
 ·exact zy4 pins s σ H x y v u Q I rx ry h
 ·cases rx
  cases ry;obtain⟨its,r1,p1,_⟩:=I.tuple ha;cases r1;obtain⟨its2,r2,p2,_⟩:=I.tuple hb;obtain⟨⟨cls,dd,data,sl⟩,ho,hc,n,hd⟩:=id p1;obtain⟨⟨cls2,dd2,data2,sl2⟩,ho2,hc2,n2,hd2⟩:=id p2;simp only at hc hd hc2 hd2;subst hc hd hc2 hd2;exact concat_meets ⟨_,ho,rfl⟩ ⟨_,ho2,rfl⟩ noFill_tuple_add seq_tuple_add QJ Qy (Ql _ _) (tuple_addW0 a b _ its2.toArray n n2 dd dd2 sl sl2 rfl) ⟨ho,ho2,⟨.ref b,H,I,rfl,q⟩⟩
theorem RD{K:wb}{H:Hp}{Q:VK}{v w:V}{ds es:List wG}(h1:Is K H v (.tuple ds))(h2:Is K H w (.tuple es))(z:ds.length+es.length<=1000)(q:∀u H',aj H H'->Is K H' u (.tuple (ds++es))->Q u H'):zV K v w H Q:=by
 obtain⟨a,xs,rfl,ha,ta⟩:=bQ.mp h1;obtain⟨b,ys,rfl,hb,tb⟩:=bQ.mp h2;have la:=ta.length;have lb:=tb.length;cases xs with
 | nil =>
  obtain rfl:ds=[]:=Vy (by simpa using la.symm);exact .inr ⟨a,b,ys,rfl,rfl,ha,hb,q _ H (aj.refl _) h2⟩
 | cons x xs =>
  refine .inl ⟨a,b,x::xs,ys,rfl,rfl,ha,hb,by simp,qg (kS (by lia)),λhy=>?_,λhy p hp=>?_⟩
  ·obtain rfl:es=[]:=Vy (by rw[hy]at lb;simpa using lb.symm)
   exact q _ H (aj.refl _) (by rw[vP];exact h1)
  ·exact q _ _ (aj.upd hp) (bQ.mpr ⟨p,_,rfl,.of cA,(ao.same (aj.upd hp) _ _ ta).append (ao.same (aj.upd hp) _ _ tb)⟩)
theorem Inv.sF{X:Cx}{pins:List (wg × Obj)}{σ : St}{H:Hp}{s:wl}{h':wJ}{t':Nat}{ch:List wg}(I:Inv X pins σ H s)(k:∀b o,b ∉ ch->s.heap.get? b=some o->h'.get? b=some o)(hf:∀b∈ch,d6 X pins H b):Inv X pins σ H {s with heap:=h',toks:=t'}:=by
 have nit:∀b u,H b=some u->b ∉ ch:=λb u e z=>by rw[(hf b z).1]at e;cases e
 refine I.step (g':=s.gens) (d':=s.drawn) (ch:=ch) (λb hb=>⟨(hf b hb).2.2.2.1,(hf b hb).2.1,(hf b hb).2.2.2.2.1,(hf b hb).2.2.2.2.2⟩) (λb o _ _ hc e _=>k b o hc e)
  (λb o _ _ hc e _=>⟨o.slots,k b o hc e⟩) (λ_ _ _ _ n=>n) (λb o hc e=>⟨o,k b o hc e⟩) (λ_ _ e=>e) (λ_ _ _ e=>e) (λb ps e=>⟨#[],by rw[e];simp⟩) (λm hm=>?_) (λb u e=>?_) I.bare
 ·obtain⟨o,es,ep,ho,r⟩:=hm
  exact⟨o,es,ep,k _ o (λz=>(hf _ z).2.1 rfl) ho,r⟩
 ·refine(I.aA b u e).jP (λc v hc q=>k c v ?_ q) (λ_ q=>q) λ_ _ q=>q
  rcases hc with z | z
  ·rw[z];exact nit b u e
  ·exact nit c _ z
section
variable{prog:wE}{w:World}{A:w5}{E:wf->wl->Prop}{s:wl}
theorem ZF{it tu:wg}{i:Nat}{its:Array wf}{x:wf}{Q:wf->wl->Prop}(ei:s.heap.IsTupleIter it tu i)(et:s.heap.IsTuple tu its)(ex:its[i]? = some x)
  (fin:∀h',h'.IsTupleIter it tu (i+1)->vv it s.heap h'->Q x {s with heap:=h'}):wt (model prog w) A (vN (.ref it)) Q E s:=by
 obtain⟨ob,eo,ec,ed⟩:=id ei;obtain⟨ot,eot,_,nt,edt⟩:=et;unfold vN;refine we (wpAny_callSpecial?_slot (name:=vT "__next__") ei.typeIs VX (vZ VX ei.typeIs xl ?_ (Q6 _)))
 show wt _ _ (field (.ref it) 0 >>= _) _ _ s;refine we (vt eo ed (x:=.ref tu) rfl ?_)
 show wt _ _ (if(Value.ref tu == Value.none)=true then _ else _) _ _ s;rw[if_neg (show ¬ ((Value.ref tu == Value.none)=true)from vI)]
 show wt _ _ (field (.ref it) 1 >>= _) _ _ s;refine we (vt eo ed (x:=.int i 0) rfl ?_)
 show wt _ _ (seqItems? (.ref tu) >>= _) _ _ s;refine we (Wf eot edt ?_)
 simp only[wY,ex];refine we (VD eo ed (by simp) (wp ⟨x,rfl,wp (fin _ ?_ (Qb ..))⟩));exact⟨_,Vi _ eo (qK (qy ed _)),(uv ..).trans ec,by rw[qy ed];simp[V6]⟩
theorem Lc{it tu:wg}{i:Nat}{its:Array wf}{Q:wf->wl->Prop}(hh:A.handled=none)(ei:s.heap.IsTupleIter it tu i)(et:s.heap.IsTuple tu its)(ex:its[i]? = none)
  (fin:∀h' e,Xg it s.heap h'->(∃o,h'.get? e=some o/\o.cls=.type "StopIteration")->E (.ref e) {s with heap:=h'}):wt (model prog w) A (vN (.ref it)) Q E s:=by
 obtain⟨ob,eo,ec,ed⟩:=id ei;obtain⟨ot,eot,_,nt,edt⟩:=et;unfold vN;refine we (wpAny_callSpecial?_slot (name:=vT "__next__") ei.typeIs VX (vZ VX ei.typeIs xl ?_ (Q6 _)))
 show wt _ _ (field (.ref it) 0 >>= _) _ _ s;refine we (vt eo ed (x:=.ref tu) rfl ?_)
 show wt _ _ (if(Value.ref tu == Value.none)=true then _ else _) _ _ s;rw[if_neg (show ¬ ((Value.ref tu == Value.none)=true)from vI)]
 show wt _ _ (field (.ref it) 1 >>= _) _ _ s;refine we (vt eo ed (x:=.int i 0) rfl ?_)
 show wt _ _ (seqItems? (.ref tu) >>= _) _ _ s;refine we (Wf eot edt ?_)
 simp only[wY,ex];refine we (qA (we (VD eo ed (by simp) ?_)))
 show wt _ _ (newExc (.type "StopIteration") [] >>= _) _ _ _;refine we ?_;simp only[newExc,newTuple]
 refine we (WA ?_ (by size_fits));refine we (m:=firstArgMember _ _) (wpAny_of_eq (a:=Value.none) (by first | rfl | (simp only[firstArgMember];rfl)) ?_);refine WA ?_ (by size_fits);simp only[raiseNew];refine we (wpAny_handled ?_)
 first | rw[hh] | rw[show A.in1.handled=none from hh]
 exact we (wp (wpAny_throw (fin _ _ (((Qb ..).extBut.push _).push _) ⟨_,wO _ rfl,rfl⟩)))
theorem jG(hh:A.handled=none)(it tu:wg)(hne:tu≠it)(its:Array wf):Draws prog w A it [it,tu] its.size (λi v=>its[i]? = some v) (λi h=>h.IsTupleIter it tu i/\h.IsTuple tu its) where
 live:=λ_ _ st=>let ⟨o,ho,_⟩:=st.1;⟨o,ho⟩
 frame:=λ_ _ _ st hk=>⟨st.1.at λo e=>hk it (by simp) o e,st.2.at λo e=>hk tu (by simp) o e⟩
 item:=λi s Q E hi st hQ=>ZF st.1 st.2 (x:=its[i]) (by simp[hi]) λh' hit' hs'=>hQ _ h' s.toks (by simp[hi]) ⟨hit',st.2.extBut hs'.extBut hne⟩ hs'
 done:=λs Q E st hE=>Lc hh st.1 st.2 (by simp) hE
open AutoSeq1 (wpAny_loadPart') in
theorem zr7(tu:wg)(its:Array wf)(n:Nat)(dct:Option wg)(sl:Array (Option wf)):Meets (Builtin.«enumerate.__new__» ⟨[.type "enumerate",.ref tu],[]⟩) (λ_ R s=>s.heap.get? tu=some {cls:=.type "tuple",dict:=dct,data:=.seq its n,slots:=sl} /\
  R (.ok (.ret (.ref (s.heap.push {cls:=.type "tuple_iterator",data:=.fields #[.ref tu,.int 0 0]}).objs.size))) {s with heap:=(s.heap.push {cls:=.type "tuple_iterator",data:=.fields #[.ref tu,.int 0 0]}).push {cls:=.type "enumerate",data:=.fields #[.none,.bool false,.ref s.heap.objs.size,V6 0,.none,.none]}}) :=
 .of_wp λprog w A R s h=>by
  obtain⟨hp,g,d,tk,os⟩:=s;obtain⟨et,h⟩:=h;have hsub:=sub_enumerate;have hT:X9 (uI ⟨hp,g,d,tk,os⟩) tu its:=⟨_,et,rfl,n,rfl⟩
  wp_walk using wpAny_loadPart' et
  refine wpAny_stack_any λst=>wp ?_
  split
  ·rename_i c _ _ _ _ _
   cases (c == Value.type "enumerate")<;>(wp_walk using wpAny_loadPart' et,Vo hT;exact⟨_,rfl,h⟩)
  ·wp_walk using wpAny_loadPart' et,Vo hT
   exact⟨_,rfl,h⟩
theorem zta{tu:wg}{its:Array wf}{Q:wf->wl->Prop}(hT:s.heap.IsTuple tu its)(fin:∀h',IsEnum h' (s.heap.objs.size+1) s.heap.objs.size 0 .none->h'.IsTupleIter s.heap.objs.size tu 0->(∀b o,s.heap.get? b=some o->h'.get? b=some o)->Q (.ref (s.heap.objs.size+1)) {s with heap:=h'}) :
  wt (model prog w) A (call (.type "enumerate") [.ref tu]) Q E s:=by
 obtain⟨⟨c,dct,dt,sl⟩,et,hc,n,hd⟩:=hT;obtain rfl:c=.type "tuple":=hc;obtain rfl:dt=.seq its n:=hd;refine callType_new F.called_enumerate (by decide) (F.typeCall_enumerate_1 _) (F.newCall_enumerate_1 _) (λobj=>F.args_object_init_2 obj _) F.entry_enumerate_new (zr7 tu its n dct sl) ⟨et,?_⟩;have hz:(s.heap.push {cls:=.type "tuple_iterator",data:=.fields #[.ref tu,.int 0 0]}).objs.size=s.heap.objs.size+1:=W0 ..
 show _/\_
 rw[hz]
 have he:IsEnum ((s.heap.push {cls:=.type "tuple_iterator",data:=.fields #[.ref tu,.int 0 0]}).push {cls:=.type "enumerate",data:=.fields #[.none,.bool false,.ref s.heap.objs.size,V6 0,.none,.none]}) (s.heap.objs.size+1) s.heap.objs.size 0 .none:=by
  rw[<- hz];exact wO _ rfl
 exact⟨⟨_,he,rfl⟩,fin _ he ⟨_,wn _ (wO _ rfl),rfl,rfl⟩ λb o x=>wn _ (wn _ x)⟩
end
def mW(K:wb)(a:wg):It :=
 ⟨λi H=>∃xs x,aI K H a xs/\xs[i]? = some x,λi H y H'=>∃t x,y=.ref t/\H t=none/\(∀xs,aI K H a xs->xs[i]? = some x)/\H'=upd H t (.tup [.int (i:Int),x]),λi H=>∃xs,aI K H a xs/\xs.length<=i⟩
theorem ztd{P:wE}{w:World}{K:wb}{elts:List Expr}{k1}{tpos:Pos}(a e it:wg)(hne:e≠it):iL P w K (.Tuple elts k1 tpos) (mW K a) [e,it] e (λi h=>(∃old,IsEnum h e it (i:Int) old)/\h.IsTupleIter it a i) where
 mem:=by simp
 obj:=λi h st b hb=>by
  obtain⟨⟨old,he⟩,o,eo,c,d⟩:=st;rcases wK.mp hb with rfl | hb
  ·exact⟨_,he,λv z=>by cases (show Data.fields _=Data.cell v from z)⟩
  ·rw[vi.mp hb]
   exact⟨o,eo,λv z=>by rw[d]at z;cases z⟩
 keep:=λi h h' st k=>⟨let ⟨old,he⟩:=st.1;⟨old,k e (by simp) _ he⟩,st.2.at λo eo=>k it (by simp) o eo⟩
 item:=by
  intro X hP hw hK hc i pins s σ H E I hf st hg;subst hP hw hK;obtain⟨⟨old,he⟩,st⟩:=st;obtain⟨xs,x,hq,hx⟩:=hg;obtain⟨its,rv,p,hz⟩:=I.tuple hq;obtain⟨u,hu,ru⟩:=rv.get hx;have p':s.heap.IsTuple a its.toArray:=p
  have hai:a≠it:=λz=>by
   subst z;obtain⟨o,e1,c1,_⟩:=st;obtain⟨o',e2,c2,_⟩:=p';rw[e1]at e2;cases e2;rw[c1]at c2;exact absurd c2 (by decide)
  have hae:e≠a:=λz=>by
   subst z;obtain⟨o',e2,c2,_⟩:=p';rw[he]at e2;cases e2;exact absurd (show Value.type "enumerate"=Value.type "tuple" from c2) (by decide)
  have hlt:i<its.toArray.size:=by
   rcases wB i its.length with z | z
   ·simpa using z
   ·rw[wQ z]at hu;cases hu
  refine wpAny_pyNext_enum_itemD (jG (A:=X.A.in1) (I.ok.hd hc) it a hai its.toArray) he ⟨st,p'⟩ hlt hne (by simp[hne,hae]) λv h1 tk hv ho hs1 hT hsz hk=>?_
  have hvu:v=u:=by
   have hv':its[i]? = some v:=by simpa using hv
   rw[hu]at hv';exact(wN hv').symm
  subst hvu
  have I1:Inv X pins σ (upd H s.heap.objs.size (.tup [.int (i:Int),x])) {s with heap:=s.heap.push {cls:=.type "tuple",data:=.seq ([.int (i:Int) tk,v]:List wf).toArray},toks:=tk+1} :=
   I.laid (λb o q=>wn _ q) (wo _) (show cw X.prog X.w _ _ _ (.tup [.int (i:Int),x])from⟨m6 (by simp),_,.cons ⟨_,rfl⟩ (.cons ru .nil),QN _ _⟩)
  have lt1:∀b∈[e,it],b<s.heap.objs.size:=λb hb=>by
   rcases wK.mp hb with rfl | hb
   ·exact wz he
   ·rw[vi.mp hb]
    obtain⟨o,eo,_⟩:=st;exact wz eo
  have hf1:∀b∈[e,it],d6 X pins (upd H s.heap.objs.size (.tup [.int (i:Int),x])) b:=λb hb=>⟨by rw[dW (wL (lt1 b hb))];exact(hf b hb).1,(hf b hb).2⟩
  refine⟨_,rfl,wpAny_letOwnedTupleGo_enum ho λh2 he2 hs2=>?_⟩;refine⟨.ref s.heap.objs.size,_,Inv.sF (s:={s with heap:=s.heap.push {cls:=.type "tuple",data:=.seq ([.int (i:Int) tk,v]:List wf).toArray},toks:=tk+1}) (ch:=[e,it]) I1 (λb o hb q=>?_) hf1,rfl,⟨_,x,rfl,I.aA.fresh (wo _),λys hy=>by rw[I.AX hy hq];exact hx,rfl⟩,⟨⟨_,by simpa using he2⟩,hs1.1.at λo eo=>(hs2.2 it (WI hne)).trans eo⟩,λb hb=>(hf1 b hb).1⟩;have hbe:b≠e:=λz=>hb (by simp[z])
  have hbi:b≠it:=λz=>hb (by simp[z])
  refine(hs2.2 b hbe).trans ?_
  by_cases hb2:b=s.heap.objs.size
  ·subst hb2
   rw[wO _ rfl]at q;cases q;exact hT
  ·exact hk b o hbe hbi (by rw[xA _ _ _ hb2]at q;exact q)
 done:=by
  intro X hP hw hK hc i pins s σ H E I hf st hg;subst hP hw hK;obtain⟨⟨old,he⟩,st⟩:=st;obtain⟨xs,hq,hx⟩:=hg;obtain⟨its,rv,p,hz⟩:=I.tuple hq;have p':s.heap.IsTuple a its.toArray:=p
  have hai:a≠it:=λz=>by
   subst z;obtain⟨o,e1,c1,_⟩:=st;obtain⟨o',e2,c2,_⟩:=p';rw[e1]at e2;cases e2;rw[c1]at c2;exact absurd c2 (by decide)
  have hl:=rv.length;have hT:s.TypeIs (.ref e) "enumerate":=⟨_,he,rfl⟩;unfold Vn;refine we (WP (wpAny_callSpecial?_slot (name:=vT "__next__") hT qM (vZ qM hT Xh ?_ (xS _))))
  show wt _ _ (field (.ref e) 2 >>= _) _ _ _;refine we (vt he rfl (x:=.ref it) rfl ?_)
  refine we (Lc (A:=X.A.in1) (I.ok.hd hc) st p' (by simp;lia) λh' y he' hx'=>?_);obtain⟨o,ho,hcl⟩:=hx';refine we (WY (T:="StopIteration") (b:=true) ⟨o,ho,hcl⟩ qf (wp ⟨rfl,?_⟩));obtain⟨f0,f1,f2,f3,f4,f5⟩:=hf it (by simp);exact I.turned (t':=s.toks) (λb o hb e=>he' b o hb e) f0 f1 f3 f4 f5
 self:=λ_ _ _ _ _ st h=>let ⟨_,he⟩:=st.1;wpAny_pyIter_enum he h
def B6(K:wb)(ta:TA):TI:=λσ H R=>ta σ H λvs H1=>∃a,vs=[.ref a]/\(∃xs,aI K H1 a xs)/\R (mW K a) H1
theorem Kt:vJ "enumerate"=some (.type "enumerate"):=by decide +kernel
theorem N3{X:Cx}{elts:List Expr}{k1}{tpos p pos:Pos}{l:Expr}{ta:TA}(hg:Gl X "enumerate")(hm:X.mg "enumerate"=none)(ha:PA X [l] ta)(hs:wX [l] X.env=[(false,eval l X.env)]:=by rfl) :
  PI X (.Tuple elts k1 tpos) (.Call (.Name "enumerate" p) [l] [] pos) (B6 X.K ta):=by
 intro pins s σ H R I h;refine Call_ (gK I hg hm Kt (vE (aD (ha pos pins s σ H _ I h) λus s1 ⟨vs,H1,I1,r1,q1⟩=>?_) hs rfl));obtain⟨a,rfl,⟨xs,hq⟩,q⟩:=q1;obtain⟨u,rfl,ru⟩:=ff r1;cases ru;obtain⟨its,rv,p,hz⟩:=I1.tuple hq;refine zta (show s1.heap.IsTuple a its.toArray from p) λh' he hit kp=>?_
 refine wpAny_pyIter_enum he ?_;refine⟨s1.heap.objs.size+1,[s1.heap.objs.size+1,s1.heap.objs.size],_,_,H1,rfl,I1.kept (t':=s1.toks) kp,ztd a (s1.heap.objs.size+1) s1.heap.objs.size (u5 _),⟨⟨_,he⟩,hit⟩,λb hb=>?_,q⟩
 have hb':s1.heap.objs.size<=b:=by
  rcases wK.mp hb with rfl | hb
  ·lia
  ·rw[vi.mp hb];exact wo _
 exact I1.jj hb' (I1.aA.fresh hb')
def NO(K:wb)(g:TG)(tb:TS)(D:cu)(σ : St)(vs:List V)(H1:Hp):Prop:=∃a,vs=[.ref a]/\(∃xs,aI K H1 a xs) /\
 ∃W:Nat->Nat->St->Hp->Prop,(∃m,W 0 m σ H1) /\ ∀i m σ H,W i m σ H ->
  ((mW K a).stop i H/\D.nx σ H)\/((mW K a).go i H /\ ∃M:St->Hp->Prop,(∀σ' H',M σ' H'->∃m',m'<m/\W (i+1) m' σ' H') /\ ∀x H',(mW K a).fC i H x H'->g x σ H' λσ2 H2=>tb {D with nx:=M,ct:=M,bk:=D.nx} σ2 H2)
section
variable{K:wb}{ta:TA}{g:TG}{tb:TS}{D:cu}{σ : St}{H:Hp}{a:wg}{xs:List V}
theorem zzN(h:ta σ H λvs H1=>NO K g tb D σ vs H1):lT (B6 K ta) g tb D σ H:=h
theorem zwi(hx:aI K H a xs)(Pv:Nat->St->Hp->Prop)(h0:Pv 0 σ H)(hl:∀i σ H,i<=xs.length->Pv i σ H->aI K H a xs)
  (hs:∀i x σ H t H',xs[i]? = some x->Pv i σ H->H t=none->aj H H'->H' t=some (.tup [.int (i:Int),x])->g (.ref t) σ H' λσ2 H2=>tb {D with nx:=Pv (i+1),ct:=Pv (i+1),bk:=D.nx} σ2 H2) (hd:∀σ H,Pv xs.length σ H->D.nx σ H):NO K g tb D σ [.ref a] H:=by
 refine⟨a,rfl,⟨xs,hx⟩,λi m σ H=>i+m=xs.length/\Pv i σ H,⟨xs.length,by lia,h0⟩,?_⟩;rintro i m σ H ⟨him,hp⟩;have hq:=hl i σ H (by lia) hp
 by_cases hm:m=0
 ·have e:i=xs.length:=by lia
  subst e;exact .inl ⟨⟨xs,hq,wo _⟩,hd _ _ hp⟩
 ·have hi:i<xs.length:=by lia
  refine .inr ⟨⟨xs,xs[i],hq,by simp[hi]⟩,λσ' H'=>Pv (i+1) σ' H',λσ' H' h=>⟨m-1,by lia,by lia,h⟩,?_⟩;rintro y H' ⟨t,x,rfl,hn,hx',rfl⟩;exact hs i x σ H t _ (hx' xs hq) hp hn (aj.upd hn) cA
end
structure ZA(z TI TO i1 i2:wg)(f1 f2:List wg):Prop where
 a1:TI≠z
 a2:TO≠z
 a3:i1≠z
 a4:i2≠z
 a5:TI≠TO
 a6:TI≠i1
 a7:TI≠i2
 a8:TO≠i1
 a9:TO≠i2
 b0:i1≠i2
 b1:z ∉ f1
 b2:z ∉ f2
 b3:TO ∉ f1
 b4:TO ∉ f2
 b5:i1 ∉ f2
 b6:i2 ∉ f1
section
variable{prog:wE}{w:World}{A:w5}{E:wf->wl->Prop}{s:wl}{z TI TO i1 i2:wg}{f1 f2:List wg}{n1 n2 k:Nat}{P1 P2:Nat->wf->Prop}{S1 S2:Nat->wJ->Prop}{a b:wf}
theorem Jt{Q:wf->wl->Prop}(D1:Draws prog w A i1 f1 n1 P1 S1)(D2:Draws prog w A i2 f2 n2 P2 S2)(ap:ZA z TI TO i1 i2 f1 f2)(hz:IsZip s.heap z TI TO .none)(hi:WM s.heap TI (.ref i1) (.ref i2))(ho:WM s.heap TO a b)
  (h1:S1 k s.heap) (h2:S2 k s.heap) (l1:k<n1) (l2:k<n2)
  (fin:∀x y h' tk,P1 k x->P2 k y->IsZip h' z TI TO (V6 s.heap.objs.size)->WM h' TO x y->S1 (k+1) h'->S2 (k+1) h'->WM h' s.heap.objs.size x y ->
   (∀c o,c≠z->c≠TO->c≠i1->c≠i2->s.heap.get? c=some o->h'.get? c=some o)->Q (.ref s.heap.objs.size) {s with heap:=h',toks:=tk}) :
  wt (model prog w) A (Builtin.«zip.__next__» ⟨[.ref z],[]⟩) (λr s'=>∃v,r=.done (.ret v)/\Q v s') E s:=by
 show wt _ _ (field (.ref z) 2 >>= _) _ _ _;refine we (vt hz rfl (x:=.bool false) rfl ?_)
 show wt _ _ (field (.ref z) 3 >>= _) _ _ _;refine we (vt hz rfl (x:=.ref TI) rfl ?_)
 refine we (Wf hi rfl ?_);show wt _ _ (vM (.ref z) >>= _) _ _ _
 refine we ?_;unfold vM;refine we (vt hz rfl (x:=.none) rfl (wp ?_));simp only[if_true];refine we (qA ?_);refine we (vt hz rfl (x:=.ref TO) rfl ?_);refine we (Vp hz (by simp) λg1 zz1 sb1=>?_);have zz1:IsZip g1 z TI TO .ellipsis:=zz1;refine we ?_;simp only[u6,Um,Qg,Q7];refine we (we (wpAny_onRaise ?_));show wt _ _ (vN (.ref i1) >>= _) _ _ _
 have h1a:S1 k g1:=D1.frame _ _ _ h1 λc hc o e=>sb1.extBut c o (λq=>ap.b1 (q ▸ hc)) e
 have h2a:S2 k g1:=D2.frame _ _ _ h2 λc hc o e=>sb1.extBut c o (λq=>ap.b2 (q ▸ hc)) e
 refine we (D1.item k _ _ _ l1 h1a λx g2 t2 px h1b sb2=>wp ?_);have ho2:WM g2 TO a b:=sb2.extBut _ _ ap.a8 (sb1.extBut _ _ ap.a2 ho);have h2b:S2 k g2:=D2.frame _ _ _ h2a λc hc o e=>sb2.extBut c o (λq=>ap.b5 (q ▸ hc)) e
 refine we (Wf ho2 rfl ?_);refine we (wpAny_updateSeq_pair ho2 λg3 ho3 sb3=>?_);have ho3:WM g3 TO x b:=ho3;have sb3:vv TO g2 g3:=sb3;have h1c:S1 (k+1) g3:=D1.frame _ _ _ h1b λc hc o e=>sb3.extBut c o (λq=>ap.b3 (q ▸ hc)) e
 have h2c:S2 k g3:=D2.frame _ _ _ h2b λc hc o e=>sb3.extBut c o (λq=>ap.b4 (q ▸ hc)) e
 refine we (wpAny_letGo (wp ?_));refine we (we (wpAny_onRaise ?_))
 show wt _ _ (vN (.ref i2) >>= _) _ _ _;refine we (D2.item k _ _ _ l2 h2c λy g4 t4 py h2d sb4=>wp ?_)
 have sb4:vv i2 g3 g4:=sb4;have ho4:WM g4 TO x b:=sb4.extBut _ _ ap.a9 ho3;have h1d:S1 (k+1) g4:=D1.frame _ _ _ h1c λc hc o e=>sb4.extBut c o (λq=>ap.b6 (q ▸ hc)) e
 refine we (Wf ho4 rfl ?_);refine we (wpAny_updateSeq_pair ho4 λg5 ho5 sb5=>?_);have ho5:WM g5 TO x y:=ho5;have sb5:vv TO g4 g5:=sb5;have h1e:S1 (k+1) g5:=D1.frame _ _ _ h1d λc hc o e=>sb5.extBut c o (λq=>ap.b3 (q ▸ hc)) e
 have h2e:S2 (k+1) g5:=D2.frame _ _ _ h2d λc hc o e=>sb5.extBut c o (λq=>ap.b4 (q ▸ hc)) e
 refine we (wpAny_letGo (wp (wp ?_)));refine we (Wf ho5 rfl ?_);refine we (wpAny_newTuple ?_);have sb2:vv i1 g1 g2:=sb2;have sb1:vv z s.heap g1:=sb1;have hsz:g5.objs.size=s.heap.objs.size:=by rw[sb5.1,sb4.1,sb3.1,sb2.1,sb1.1]
 have zz5:IsZip g5 z TI TO .ellipsis:=sb5.extBut _ _ ap.a2.symm (sb4.extBut _ _ ap.a4.symm (sb3.extBut _ _ ap.a2.symm (sb2.extBut _ _ ap.a3.symm zz1)));have kept:∀c o,c≠z->c≠TO->c≠i1->c≠i2->s.heap.get? c=some o->g5.get? c=some o:=λc o c1 c2 c3 c4 e=>sb5.extBut _ _ c2 (sb4.extBut _ _ c4 (sb3.extBut _ _ c2 (sb2.extBut _ _ c3 (sb1.extBut _ _ c1 e))))
 have zlt:z<g5.objs.size:=wz zz5
 show wt _ _ (Qq (.ref z) (.ref g5.objs.size) >>= _) _ _ _;refine we ?_;unfold Qq
 have zz6:IsZip (g5.push {cls:=.type "tuple",data:=.seq #[x,y]}) z TI TO .ellipsis:=wn _ zz5;refine we (Vp zz6 (by simp) λg7 zz7 sb7=>?_);have zz7:IsZip g7 z TI TO (V6 g5.objs.size):=zz7;refine Vp zz7 (by simp) λg8 zz8 sb8=>?_
 have zz8:IsZip g8 z TI TO (V6 g5.objs.size):=zz8;have sb7:vv z (g5.push {cls:=.type "tuple",data:=.seq #[x,y]}) g7:=sb7;have sb8:vv z g7 g8:=sb8;have up:∀c o,c≠z->g5.get? c=some o->g8.get? c=some o:=λc o c1 e=>sb8.extBut _ _ c1 (sb7.extBut _ _ c1 (wn _ e))
 have new8:WM g8 g5.objs.size x y:=sb8.extBut _ _ (vn zlt) (sb7.extBut _ _ (vn zlt) (wO _ rfl));rw[hsz]at zz8 new8;refine wp ⟨_,rfl,?_⟩
 show Q (.ref g5.objs.size) _
 rw[hsz];exact fin x y g8 _ px py zz8 (up _ _ ap.a2 ho5) (D1.frame _ _ _ h1e λc hc o e=>up c o (λq=>ap.b1 (q ▸ hc)) e) (D2.frame _ _ _ h2e λc hc o e=>up c o (λq=>ap.b2 (q ▸ hc)) e) new8 λc o c1 c2 c3 c4 e=>up c o c1 (kept c o c1 c2 c3 c4 e)
theorem Jl{Q:Fin->wl->Prop}(D1:Draws prog w A i1 f1 n1 P1 S1)(D2:Draws prog w A i2 f2 n2 P2 S2)(ap:ZA z TI TO i1 i2 f1 f2)(hz:IsZip s.heap z TI TO .none)(hi:WM s.heap TI (.ref i1) (.ref i2))(ho:WM s.heap TO a b)
  (h1:S1 k s.heap) (h2:S2 k s.heap) (hk:k=n1\/(k<n1/\k=n2))
  (fin:∀h' e tk,(∀c o,c≠z->c≠TO->c≠i1->c≠i2->s.heap.get? c=some o->h'.get? c=some o)->(∃o,h'.get? e=some o/\o.cls=.type "StopIteration")->E (.ref e) {s with heap:=h',toks:=tk}) :
  wt (model prog w) A (Builtin.«zip.__next__» ⟨[.ref z],[]⟩) Q E s:=by
 show wt _ _ (field (.ref z) 2 >>= _) _ _ _;refine we (vt hz rfl (x:=.bool false) rfl ?_)
 show wt _ _ (field (.ref z) 3 >>= _) _ _ _;refine we (vt hz rfl (x:=.ref TI) rfl ?_)
 refine we (Wf hi rfl ?_);show wt _ _ (vM (.ref z) >>= _) _ _ _
 refine we ?_;unfold vM;refine we (vt hz rfl (x:=.none) rfl (wp ?_));simp only[if_true];refine we (qA ?_);refine we (vt hz rfl (x:=.ref TO) rfl ?_);refine we (Vp hz (by simp) λg1 zz1 sb1=>?_);have zz1:IsZip g1 z TI TO .ellipsis:=zz1;have sb1:vv z s.heap g1:=sb1;refine we ?_;simp only[u6,Um,Qg,Q7];refine we (we (wpAny_onRaise ?_));show wt _ _ (vN (.ref i1) >>= _) _ _ _
 have h1a:S1 k g1:=D1.frame _ _ _ h1 λc hc o e=>sb1.extBut c o (λq=>ap.b1 (q ▸ hc)) e
 have h2a:S2 k g1:=D2.frame _ _ _ h2 λc hc o e=>sb1.extBut c o (λq=>ap.b2 (q ▸ hc)) e
 rcases hk with rfl | ⟨l1,rfl⟩
 ·refine we (D1.done _ _ _ h1a λg2 e sb2 he=>?_)
  obtain⟨oe,hoe,hce⟩:=he;have zz2:IsZip g2 z TI TO .ellipsis:=sb2 _ _ ap.a3.symm zz1;have hez:e≠z:=λq=>by subst q;rw[zz2]at hoe;cases hoe;simp at hce
  exact Vp zz2 (by simp) λg3 _ sb3=>fin g3 e _ (λc o c1 _ c3 _ q=>sb3.extBut _ _ c1 (sb2 _ _ c3 (sb1.extBut _ _ c1 q))) ⟨oe,sb3.extBut _ _ hez hoe,hce⟩
 ·refine we (D1.item k _ _ _ l1 h1a λx g2 t2 px h1b sb2=>wp ?_)
  have sb2:vv i1 g1 g2:=sb2;have ho2:WM g2 TO a b:=sb2.extBut _ _ ap.a8 (sb1.extBut _ _ ap.a2 ho);have h2b:S2 k g2:=D2.frame _ _ _ h2a λc hc o e=>sb2.extBut c o (λq=>ap.b5 (q ▸ hc)) e
  refine we (Wf ho2 rfl ?_);refine we (wpAny_updateSeq_pair ho2 λg3 ho3 sb3=>?_);have sb3:vv TO g2 g3:=sb3;have h2c:S2 k g3:=D2.frame _ _ _ h2b λc hc o e=>sb3.extBut c o (λq=>ap.b4 (q ▸ hc)) e
  refine we (wpAny_letGo (wp ?_));refine we (we (wpAny_onRaise ?_))
  show wt _ _ (vN (.ref i2) >>= _) _ _ _;refine we (D2.done _ _ _ h2c λg4 e sb4 he=>?_)
  obtain⟨oe,hoe,hce⟩:=he;have zz4:IsZip g4 z TI TO .ellipsis:=sb4 _ _ ap.a4.symm (sb3.extBut _ _ ap.a2.symm (sb2.extBut _ _ ap.a3.symm zz1));have hez:e≠z:=λq=>by subst q;rw[zz4]at hoe;cases hoe;simp at hce
  exact Vp zz4 (by simp) λg5 _ sb5=>fin g5 e _ (λc o c1 c2 c3 c4 q=>sb5.extBut _ _ c1 (sb4 _ _ c4 (sb3.extBut _ _ c2 (sb2.extBut _ _ c3 (sb1.extBut _ _ c1 q))))) ⟨oe,sb5.extBut _ _ hez hoe,hce⟩
end
variable{t:Bool}{a:wg}
def dA(t:Bool)(K:wb)(H:Hp)(a:wg)(xs:List V):Prop:=match t with
 | true=>aI K H a xs
 | false=>aG K H a xs
def jB(t:Bool)(h:wJ)(it a:wg)(i:Nat):Prop:=match t with
 | true=>h.IsTupleIter it a i
 | false=>h.IsListIter it a i
def PB(t:Bool)(h:wJ)(a:wg)(its:Array wf):Prop:=match t with
 | true=>h.IsTuple a its
 | false=>h.IsList a its
theorem oA{prog:wE}{w:World}{A:w5}(t:Bool)(hh:A.handled=none)(it a:wg)(hne:a≠it)(its:Array wf):Draws prog w A it [it,a] its.size (λi v=>its[i]? = some v) (λi h=>jB t h it a i/\PB t h a its):=by
 cases t
 ·exact Draws.list hh it a hne its
 ·exact jG hh it a hne its
theorem Inv.jk{X:Cx}{pins:List (wg × Obj)}{σ : L2.St}{H:Hp}{s:wl}{xs:List V}(I:Inv X pins σ H s)(h:dA t X.K H a xs):∃its:List wf,aM xs its/\PB t s.heap a its.toArray:=by
 cases t
 ·obtain⟨its,r,p,_⟩:=I.list h
  exact⟨its,r,p.isList⟩
 ·obtain⟨its,r,p,_⟩:=I.tuple h
  exact⟨its,r,p⟩
theorem Inv.Il{X:Cx}{pins:List (wg × Obj)}{σ : L2.St}{H:Hp}{s:wl}{xs ys:List V}(I:Inv X pins σ H s)(h:dA t X.K H a xs)(k:dA t X.K H a ys):xs=ys:=by
 cases t
 ·exact I.sk h k
 ·exact I.AX h k
theorem jB.obj{h:wJ}{it:wg}{i:Nat}(st:jB t h it a i):∃o,h.get? it=some o /\ ∀v,o.data≠.cell v:=by
 cases t
 ·obtain⟨o,e,_,d⟩:=st
  exact⟨o,e,λv z=>by rw[d]at z;cases z⟩
 ·obtain⟨o,e,_,d⟩:=st
  exact⟨o,e,λv z=>by rw[d]at z;cases z⟩
theorem jB.at{h h':wJ}{it:wg}{i:Nat}(st:jB t h it a i)(k:∀o,h.get? it=some o->h'.get? it=some o):jB t h' it a i:=by
 cases t
 ·exact Heap.IsListIter.at st k
 ·exact Heap.IsTupleIter.at st k
def z_(t u:Bool)(K:wb)(a b:wg):It :=
 ⟨λi H=>∃xs x ys y,dA t K H a xs/\xs[i]? = some x/\dA u K H b ys/\ys[i]? = some y,
  λi H v H'=>∃(c:wg)(x y:V),v=.ref c/\H c=none/\(∀xs,dA t K H a xs->xs[i]? = some x)/\(∀ys,dA u K H b ys->ys[i]? = some y)/\H'=upd H c (.tup [x,y]),
  λi H=>∃xs ys,dA t K H a xs/\dA u K H b ys/\(xs.length=i\/(i<xs.length/\ys.length=i))⟩
theorem zwS{P:wE}{w:World}{K:wb}{elts:List Expr}{k1}{tpos:Pos}{u:Bool}(a b z TI TO i1 i2:wg)(ap:ZA z TI TO i1 i2 [i1,a] [i2,b])(na:a≠i1)(nb:b≠i2) :
  iL P w K (.Tuple elts k1 tpos) (z_ t u K a b) [z,TI,TO,i1,i2] z (λi h=>IsZip h z TI TO .none/\WM h TI (.ref i1) (.ref i2)/\(∃p q,WM h TO p q)/\jB t h i1 a i/\jB u h i2 b i) where
 mem:=by simp
 obj:=λi h st c hc=>by
  obtain⟨hz,hi,⟨p,q,ho⟩,s1,s2⟩:=st;simp only[wK,Vd,or_false]at hc;rcases hc with rfl | rfl | rfl | rfl | rfl
  ·exact⟨_,hz,λv z=>by cases (show Data.fields _=Data.cell v from z)⟩
  ·exact⟨_,hi,λv z=>by cases (show Data.seq _ _=Data.cell v from z)⟩
  ·exact⟨_,ho,λv z=>by cases (show Data.seq _ _=Data.cell v from z)⟩
  ·exact s1.obj
  ·exact s2.obj
 keep:=λi h h' st k=>by
  obtain⟨hz,hi,⟨p,q,ho⟩,s1,s2⟩:=st;exact⟨k z (by simp) _ hz,k TI (by simp) _ hi,⟨p,q,k TO (by simp) _ ho⟩,s1.at λo e=>k i1 (by simp) o e,s2.at λo e=>k i2 (by simp) o e⟩
 item:=by
  intro X hP hw hK hc i pins s σ H E I hf st hg;subst hP hw hK;obtain⟨hz,hi,⟨p,q,ho⟩,s1,s2⟩:=st;obtain⟨xs,x,ys,y,hq1,hx,hq2,hy⟩:=hg;obtain⟨its,r1,p1⟩:=I.jk hq1;obtain⟨jts,r2,p2⟩:=I.jk hq2;obtain⟨ux,hux,rux⟩:=r1.get hx;obtain⟨uy,huy,ruy⟩:=r2.get hy
  have lt1:i<its.toArray.size:=by
   rcases wB i its.length with q | q
   ·simpa using q
   ·rw[wQ q]at hux;cases hux
  have lt2:i<jts.toArray.size:=by
   rcases wB i jts.length with q | q
   ·simpa using q
   ·rw[wQ q]at huy;cases huy
  have hT:s.TypeIs (.ref z) "zip":=⟨_,hz,rfl⟩;unfold Vn
  refine we (WP (wpAny_callSpecial?_slot (name:=vT "__next__") hT WE (vZ WE hT qm
   (Jt (oA (A:=X.A.in1) t (I.ok.hd hc) i1 a na its.toArray) (oA (A:=X.A.in1) u (I.ok.hd hc) i2 b nb jts.toArray) ap hz hi ho ⟨s1,p1⟩ ⟨s2,p2⟩ lt1 lt2 λv1 v2 h1 tk e1 e2 hz1 ho1 st1 st2 hT1 hk=>wp ?_) (V4 _))))
  have ev1:v1=ux:=by
   have e1':its[i]? = some v1:=by simpa using e1
   rw[hux]at e1';exact(wN e1').symm
  have ev2:v2=uy:=by
   have e2':jts[i]? = some v2:=by simpa using e2
   rw[huy]at e2';exact(wN e2').symm
  subst ev1 ev2
  have I1:Inv X pins σ (upd H s.heap.objs.size (.tup [x,y])) {s with heap:=s.heap.push {cls:=.type "tuple",data:=.seq ([v1,v2]:List wf).toArray},toks:=tk} :=
   I.laid (λc o q=>wn _ q) (wo _) (show cw X.prog X.w _ _ _ (.tup [x,y])from⟨m6 (by simp),_,.cons rux (.cons ruy .nil),QN _ _⟩)
  have ltf:∀c∈[z,TI,TO,i1,i2],c<s.heap.objs.size:=λc hc=>by
   simp only[wK,Vd,or_false]at hc;rcases hc with rfl | rfl | rfl | rfl | rfl
   ·exact wz hz
   ·exact wz hi
   ·exact wz ho
   ·obtain⟨o,e,_⟩:=s1.obj;exact wz e
   ·obtain⟨o,e,_⟩:=s2.obj;exact wz e
  have hf1:∀c∈[z,TI,TO,i1,i2],d6 X pins (upd H s.heap.objs.size (.tup [x,y])) c:=λc hc=>⟨by rw[dW (wL (ltf c hc))];exact(hf c hc).1,(hf c hc).2⟩
  refine⟨_,rfl,wpAny_letOwnedTupleGo_zip hz1 λh2 hz2 hs2=>?_⟩;have hs2:vv z h1 h2:=hs2
  refine⟨.ref s.heap.objs.size,_,Inv.sF (s:={s with heap:=s.heap.push {cls:=.type "tuple",data:=.seq ([v1,v2]:List wf).toArray},toks:=tk}) (ch:=[z,TI,TO,i1,i2]) I1 (λc o hc q=>?_) hf1,rfl,
   ⟨_,x,y,rfl,I.aA.fresh (wo _),λzs hzs=>by rw[I.Il hzs hq1];exact hx,λzs hzs=>by rw[I.Il hzs hq2];exact hy,rfl⟩,
   ⟨hz2,hs2.extBut _ _ ap.a1 (hk _ _ ap.a1 ap.a5 ap.a6 ap.a7 hi),⟨_,_,hs2.extBut _ _ ap.a2 ho1⟩,st1.1.at λo e=>hs2.extBut _ _ ap.a3 e,st2.1.at λo e=>hs2.extBut _ _ ap.a4 e⟩,λc hc=>(hf1 c hc).1⟩
  have c1:c≠z:=λq=>hc (by simp[q])
  have c2:c≠TO:=λq=>hc (by simp[q])
  have c3:c≠i1:=λq=>hc (by simp[q])
  have c4:c≠i2:=λq=>hc (by simp[q])
  refine hs2.extBut _ _ c1 ?_
  by_cases hcs:c=s.heap.objs.size
  ·subst hcs
   rw[wO _ rfl]at q;cases q;exact hT1
  ·exact hk c o c1 c2 c3 c4 (by rw[xA _ _ _ hcs]at q;exact q)
 done:=by
  intro X hP hw hK hc i pins s σ H E I hf st hg;subst hP hw hK;obtain⟨hz,hi,⟨p,q,ho⟩,s1,s2⟩:=st;obtain⟨xs,ys,hq1,hq2,hend⟩:=hg;obtain⟨its,r1,p1⟩:=I.jk hq1;obtain⟨jts,r2,p2⟩:=I.jk hq2;have e1:=r1.length;have e2:=r2.length;have hT:s.TypeIs (.ref z) "zip":=⟨_,hz,rfl⟩;unfold Vn
  refine we (WP (wpAny_callSpecial?_slot (name:=vT "__next__") hT WE (vZ WE hT qm
   (Jl (k:=i) (oA (A:=X.A.in1) t (I.ok.hd hc) i1 a na its.toArray) (oA (A:=X.A.in1) u (I.ok.hd hc) i2 b nb jts.toArray) ap hz hi ho ⟨s1,p1⟩ ⟨s2,p2⟩ (by simp only[wS];lia) λh' y tk hk hx'=>?_) (V4 _))))
  obtain⟨o,ho',hcl⟩:=hx';refine we (WY (T:="StopIteration") (b:=true) ⟨o,ho',hcl⟩ qf (wp ⟨rfl,?_⟩));exact Inv.sF (ch:=[z,TI,TO,i1,i2]) I (λc o hc e=>hk c o (λq=>hc (by simp[q])) (λq=>hc (by simp[q])) (λq=>hc (by simp[q])) (λq=>hc (by simp[q])) e) hf
 self:=λ_ _ _ _ _ st h=>wpAny_pyIter_zip st.1 h
abbrev yQ(h:wJ)(a:wg):wJ:=h.push {cls:=.type "tuple_iterator",data:=.fields #[.ref a,.int 0 0]}
abbrev AB(h:wJ)(a b:wg):wJ:=(yQ h a).push {cls:=.type "tuple_iterator",data:=.fields #[.ref b,.int 0 0]}
abbrev yG(h:wJ)(a b:wg):wJ:=(AB h a b).push {cls:=.type "tuple",data:=.seq #[.ref h.objs.size,.ref (yQ h a).objs.size]}
abbrev sS(h:wJ)(a b:wg):wJ:=(yG h a b).push {cls:=.type "tuple",data:=.seq #[.none,.none]}
abbrev nS(h:wJ)(a b:wg):wJ:=(sS h a b).push {cls:=.type "zip",data:=.fields #[.none,.bool false,.bool false,.ref (AB h a b).objs.size,.ref (yG h a b).objs.size]}
theorem zs6(a b:wg)(xs ys:Array wf):Meets (Builtin.«zip.__new__» ⟨[.type "zip",.ref a,.ref b],[]⟩) (λ_ R s=>s.heap.IsTuple a xs/\s.heap.IsTuple b ys/\R (.ok (.ret (.ref (sS s.heap a b).objs.size))) {s with heap:=nS s.heap a b}) :=
 .of_wp λprog w A R s h=>by
  obtain⟨hp,g,d,tk,os⟩:=s;obtain⟨ha,hb,h⟩:=h;have hsub:=sub_zip;have hA:X9 (uI ⟨hp,g,d,tk,os⟩) a xs:=ha;have hB:X9 (uI ⟨hp.push {cls:=.type "tuple_iterator",data:=.fields #[.ref a,.int 0 0]},g,d,tk,os⟩) b ys:=hb.at λo e=>wn _ e
  wp_walk using Vo hA,Vo hB
  exact⟨_,rfl,h⟩
section
variable{prog:wE}{w:World}{A:w5}{E:wf->wl->Prop}{s:wl}
theorem SD{a b:wg}{xs ys:Array wf}{Q:wf->wl->Prop}(ha:s.heap.IsTuple a xs)(hb:s.heap.IsTuple b ys)
  (fin:∀h',IsZip h' (s.heap.objs.size+4) (s.heap.objs.size+2) (s.heap.objs.size+3) .none->WM h' (s.heap.objs.size+2) (.ref s.heap.objs.size) (.ref (s.heap.objs.size+1))->WM h' (s.heap.objs.size+3) .none .none ->
   h'.IsTupleIter s.heap.objs.size a 0->h'.IsTupleIter (s.heap.objs.size+1) b 0->(∀c o,s.heap.get? c=some o->h'.get? c=some o)->Q (.ref (s.heap.objs.size+4)) {s with heap:=h'}):wt (model prog w) A (call (.type "zip") [.ref a,.ref b]) Q E s:=by
 refine callType_new F.called_zip (by decide) (F.typeCall_zip_2 _ _) (F.newCall_zip_2 _ _) (λobj=>F.args_object_init_3 obj _ _) F.entry_zip_new (zs6 a b xs ys) ⟨ha,hb,?_⟩;have z1:(yQ s.heap a).objs.size=s.heap.objs.size+1:=W0 ..;have z2:(AB s.heap a b).objs.size=s.heap.objs.size+2:=by rw[W0,z1]
 have z3:(yG s.heap a b).objs.size=s.heap.objs.size+3:=by rw[W0,z2]
 have z4:(sS s.heap a b).objs.size=s.heap.objs.size+4:=by rw[W0,z3]
 have g5:(nS s.heap a b).get? (sS s.heap a b).objs.size=some _:=wO _ rfl;have g4:(nS s.heap a b).get? (yG s.heap a b).objs.size=some _:=wn _ (wO _ rfl);have g3:(nS s.heap a b).get? (AB s.heap a b).objs.size=some _:=wn _ (wn _ (wO _ rfl));have g2:(nS s.heap a b).get? (yQ s.heap a).objs.size=some _:=wn _ (wn _ (wn _ (wO _ rfl)));have g1:(nS s.heap a b).get? s.heap.objs.size=some _:=wn _ (wn _ (wn _ (wn _ (wO _ rfl))))
 show _/\_
 rw[z2,z3,z4]at g5;rw[z1,z2]at g3;rw[z3]at g4;rw[z1]at g2;rw[z4];exact⟨⟨_,g5,rfl⟩,fin _ g5 g3 g4 ⟨_,g1,rfl,rfl⟩ ⟨_,g2,rfl,rfl⟩ λc o x=>wn _ (wn _ (wn _ (wn _ (wn _ x))))⟩
end
variable{a:wg}{X:Cx}{elts:List Expr}{tpos:Pos}
def Ef(t u:Bool)(K:wb)(ta:TA):TI:=λσ H R=>ta σ H λvs H1=>∃a b,vs=[.ref a,.ref b]/\(∃xs,dA t K H1 a xs)/\(∃ys,dA u K H1 b ys)/\R (z_ t u K a b) H1
theorem FD :vJ "zip"=some (.type "zip"):=by decide +kernel
theorem mY{x b:wg}(h:x≠a)(k:x≠b):x ∉ [a,b]:=by simp[h,k]
theorem Lv{n a b:Nat}(la:a<n)(lb:b<n):ZA (n+4) (n+2) (n+3) n (n+1) [n,a] [n+1,b] where
 a1:=wL (by lia)
 a2:=wL (by lia)
 a3:=wL (by lia)
 a4:=wL (by lia)
 a5:=wL (by lia)
 a6:=vn (by lia)
 a7:=vn (by lia)
 a8:=vn (by lia)
 a9:=vn (by lia)
 b0:=wL (by lia)
 b1:=mY (vn (by lia)) (vn (by lia))
 b2:=mY (vn (by lia)) (vn (by lia))
 b3:=mY (vn (by lia)) (vn (by lia))
 b4:=mY (vn (by lia)) (vn (by lia))
 b5:=mY (wL (by lia)) (vn (by lia))
 b6:=mY (vn (by lia)) (vn (by lia))
theorem M9{k1}{pins:List (wg × Obj)}{σ : L2.St}{H:Hp}{s:wl}{R:It->Hp->Prop}{h':wJ}{E:wf->wl->Prop}{t u:Bool}{b:wg}(I:Inv X pins σ H s)(la:a<s.heap.objs.size)(lb:b<s.heap.objs.size)
  (hz:IsZip h' (s.heap.objs.size+4) (s.heap.objs.size+2) (s.heap.objs.size+3) .none) (hi:WM h' (s.heap.objs.size+2) (.ref s.heap.objs.size) (.ref (s.heap.objs.size+1))) (ho:WM h' (s.heap.objs.size+3) .none .none)
  (s1:jB t h' s.heap.objs.size a 0) (s2:jB u h' (s.heap.objs.size+1) b 0) (kp:∀c o,s.heap.get? c=some o->h'.get? c=some o) (q:R (z_ t u X.K a b) H):wt (model X.prog X.w) X.A (pyIter (.ref (s.heap.objs.size+4))) (Cz X pins σ (.Tuple elts k1 tpos) R) E {s with heap:=h'}:=by
 refine wpAny_pyIter_zip hz ?_;refine⟨s.heap.objs.size+4,[s.heap.objs.size+4,s.heap.objs.size+2,s.heap.objs.size+3,s.heap.objs.size,s.heap.objs.size+1],_,_,H,rfl,I.kept (t':=s.toks) kp,zwS a b _ (s.heap.objs.size+2) (s.heap.objs.size+3) s.heap.objs.size (s.heap.objs.size+1) (Lv la lb) (wL la) (wL (WS lb)),⟨hz,hi,⟨_,_,ho⟩,s1,s2⟩,λc hc=>?_,q⟩
 ·have hb':s.heap.objs.size<=c:=by
   simp only[wK,Vd,or_false]at hc;rcases hc with rfl | rfl | rfl | rfl | rfl
   ·exact WX _ 4
   ·exact WX _ 2
   ·exact WX _ 3
   ·exact wo _
   ·exact WX _ 1
  exact I.jj hb' (I.aA.fresh hb')
theorem zzc{k1}{p pos:Pos}{l m:Expr}{ta:TA}(hg:Gl X "zip")(hm:X.mg "zip"=none)(ha:PA X [l,m] ta)(hs:wX [l,m] X.env=[(false,eval l X.env),(false,eval m X.env)]:=by rfl)(hs2:wX [m] X.env=[(false,eval m X.env)]:=by rfl) :
  PI X (.Tuple elts k1 tpos) (.Call (.Name "zip" p) [l,m] [] pos) (Ef true true X.K ta):=by
 intro pins s σ H R I h;refine Call_ (gK I hg hm FD (vE (aD (ha pos pins s σ H _ I h) λus s1 ⟨vs,H1,I1,r1,q1⟩=>?_) (by rw[hs,hs2]) (by rw[hs2];rfl)));obtain⟨a,b,rfl,⟨xs,hq1⟩,⟨ys,hq2⟩,q⟩:=q1;obtain⟨u,v,rfl,ru,rv⟩:=kP r1;cases ru;cases rv;obtain⟨its,_,p1⟩:=I1.jk hq1;obtain⟨jts,_,p2⟩:=I1.jk hq2;have la:a<s1.heap.objs.size:=by obtain⟨o,e,_⟩:=(show s1.heap.IsTuple a its.toArray from p1);exact wz e
 have lb:b<s1.heap.objs.size:=by obtain⟨o,e,_⟩:=(show s1.heap.IsTuple b jts.toArray from p2);exact wz e
 exact SD p1 p2 λh' hz hi ho t1 t2 kp=>M9 (t:=true) (u:=true) I1 la lb hz hi ho t1 t2 kp q
theorem zzT{k1}{p pos:Pos}{l m:Expr}{ta:TA}(hg:Gl X "zip")(hm:X.mg "zip"=none)(ha:PA X [l,m] ta)(hs:wX [l,m] X.env=[(false,eval l X.env),(false,eval m X.env)]:=by rfl)(hs2:wX [m] X.env=[(false,eval m X.env)]:=by rfl) :
  PI X (.Tuple elts k1 tpos) (.Call (.Name "zip" p) [l,m] [] pos) (Ef false false X.K ta):=by
 intro pins s σ H R I h;refine Call_ (gK I hg hm FD (vE (aD (ha pos pins s σ H _ I h) λus s1 ⟨vs,H1,I1,r1,q1⟩=>?_) (by rw[hs,hs2]) (by rw[hs2];rfl)));obtain⟨a,b,rfl,⟨xs,hq1⟩,⟨ys,hq2⟩,q⟩:=q1;obtain⟨u,v,rfl,ru,rv⟩:=kP r1;cases ru;cases rv;obtain⟨its,_,p1⟩:=I1.jk hq1;obtain⟨jts,_,p2⟩:=I1.jk hq2;have la:a<s1.heap.objs.size:=by obtain⟨o,e,_⟩:=(show s1.heap.IsList a its.toArray from p1);exact wz e
 have lb:b<s1.heap.objs.size:=by obtain⟨o,e,_⟩:=(show s1.heap.IsList b jts.toArray from p2);exact wz e
 exact call_zip_2 p1 p2 λh' hz hi ho t1 t2 _ kp=>M9 (t:=false) (u:=false) I1 la lb hz hi ho t1 t2 kp q
theorem dA.same{t:Bool}{K:wb}{H H':Hp}{xs:List V}(s:aj H H')(h:dA t K H a xs):dA t K H' a xs:=by
 cases t
 ·exact s.seq h
 ·exact s.kf h
def FY(t u:Bool)(K:wb)(g:TG)(tt:TT)(te:TE)(src:List (Option Nat))(σ : L2.St)(vs:List V)(H1:Hp)(Q:VK):Prop:=∃a b,vs=[.ref a,.ref b]/\(∃xs,dA t K H1 a xs)/\(∃ys,dA u K H1 b ys) /\
 ∀D,H1 D=none->jV g tt te (z_ t u K a b) D (dF src σ) (upd H1 D (.lst [])) (λH'=>Q (.ref D) H')
section
variable{t u:Bool}{K:wb}{ta:TA}{g:TG}{tb:TS}{tt:TT}{te:TE}{D:cu}{σ : L2.St}{H:Hp}{Q:VK}{a b:wg}{xs ys:List V}{src:List (Option Nat)}{o0 o0':Option V}{tl:L2.St}
theorem zwu(h:ta σ H λvs H1=>FY t u K g tt te src σ vs H1 Q):jy src (Ef t u K ta) g tt te σ H Q:=h
def gj(H:Hp)(tl:L2.St)(Rel:Nat->V->Hp->Prop)(D:wg)(i:Nat)(zs:List V)(σ':L2.St)(H':Hp):Prop :=
 (∃o1 o2,σ'=o1::o2::tl)/\H D=none/\aj H H'/\H' D=some (.lst zs)/\zs.length=i /\ ∀j y,zs[j]? = some y->Rel j y H'
theorem tR{Rel:Nat->V->Hp->Prop}{D:wg}{i:Nat}{zs:List V}{σ' σ3:L2.St}{H1 H5:Hp}{y:V}(inv:gj H tl Rel D i zs σ' H1)(hi:i<=1000)(hk:∀i v H1 H2,aV H1 H2->Rel i v H1->Rel i v H2)(hσ : ∃o1 o2,σ3=o1::o2::tl)(s:aj H1 H5)(r:Rel i y H5):oN (gj H tl Rel) D i σ3 y H5:=by
 obtain⟨_,hn,s1,hD,hl,hr⟩:=inv;have hD5:=s _ _ hD;refine j3 hD5 (by lia) λH6 E6 e6=>⟨hσ,hn,(s1.trans s).grow hn E6,e6,by simp[hl],λj z hz=>?_⟩
 have k6:aV H5 H6:=E6.keep hD5;rcases wB j zs.length with hj | hj
 ·rw[Wc hj]at hz
  exact hk _ _ _ _ (s.keep.trans k6) (hr j z hz)
 ·have hj':j=zs.length:=by
   rcases wB zs.length j with q | q
   ·rw[wQ (by simp;lia)]at hz;cases hz
   ·lia
  subst hj';rw[vK (wo _),Vt]at hz;cases hz;rw[hl];exact hk _ _ _ _ k6 r
theorem zAb(hx:dA t K H a xs)(hy:dA u K H b ys)(hxy:xs.length=ys.length)(hsrc:dF src σ = o0::o0'::tl)(Rel:Nat->V->Hp->Prop)(hk:∀i v H1 H2,aV H1 H2->Rel i v H1->Rel i v H2)
  (hs:∀D i x y zs o1 o2 H1 c,xs[i]? = some x->ys[i]? = some y->gj H tl Rel D i zs (o1::o2::tl) H1->H1 c=some (.tup [x,y])->hZ (gj H tl Rel) g tt te D i (.ref c) (o1::o2::tl) H1)
  (hd:∀D zs H',H D=none->aj H H'->H' D=some (.lst zs)->zs.length=xs.length->(∀j y,zs[j]? = some y->Rel j y H')->Q (.ref D) H'):FY t u K g tt te src σ [.ref a,.ref b] H Q:=by
 refine⟨a,b,rfl,⟨xs,hx⟩,⟨ys,hy⟩,λD hD=>⟨λi m σ' H'=>i+m=xs.length /\ ∃zs,gj H tl Rel D i zs σ' H',⟨xs.length,by lia,[],⟨o0,o0',hsrc⟩,hD,aj.upd hD,cA,rfl,λj y z=>by simp at z⟩,?_⟩⟩;rintro i m σ' H' ⟨him,zs,inv⟩;have hq1:=dA.same inv.2.2.1 hx;have hq2:=dA.same inv.2.2.1 hy
 by_cases hm:m=0
 ·have e:i=xs.length:=by lia
  subst e;obtain⟨_,n,s,e,hl,r⟩:=inv;exact .inl ⟨⟨xs,ys,hq1,hq2,.inl rfl⟩,hd D zs H' n s e hl r⟩
 ·have hi:i<xs.length:=by lia
  have hj:i<ys.length:=by lia
  refine .inr ⟨⟨xs,xs[i],ys,ys[i],hq1,by simp[hi],hq2,by simp[hj]⟩,λσ2 H2=>∃zs,gj H tl Rel D (i+1) zs σ2 H2,λσ2 H2 h=>⟨m-1,by lia,by lia,h⟩,?_⟩;rintro v H2 ⟨c,x,y,rfl,hn,hx',hy',rfl⟩;obtain⟨⟨o1,o2,rfl⟩,n,s,e,hl,r⟩:=inv;have su:=aj.upd (o:=.tup [x,y]) hn;exact hs D i x y zs o1 o2 _ c (hx' xs hq1) (hy' ys hq2) ⟨⟨o1,o2,rfl⟩,n,s.trans su,su _ _ e,hl,λj y hy=>hk _ _ _ _ su.keep (r j y hy)⟩ cA
end
def C7(K:wb):List V->Hp->VK->Prop:=λxs H Q=>∃(p:wg)(ns:List Int),xs=[.ref p]/\aI K H p (ns.map V.int)/\Q (.int ns.sum) H
theorem zBE:vJ "sum"=some (.builtin "sum"):=by decide +kernel
open PyProof.V PySem.Calls in
theorem zvx{X:Cx}(hc:X.calm=true):bK X (.builtin "sum") (C7 X.K):=by
 intro pins s σ H xs us Q I r h;obtain⟨p,ns,rfl,hq,q⟩:=h;obtain⟨u,rfl,rx⟩:=ff r;cases rx;obtain⟨its,r',pl,hz⟩:=I.tuple hq;have hI:=zb r';have hT:s.heap.IsTuple p its.toArray:=pl;obtain⟨zs,hx⟩:=hI.allInts.items;have hn:numsOf its.toArray.toList=ns:=by rw[show its.toArray.toList=its from rfl,hI.numsOf]
 rw[hx]at hT hn;rw[nums_intItems]at hn;refine PySem.W.ktm_sumG (I.ok.hd hc) hT λh' tk t' hk=>?_
 rw[preSum_eq,W5 (by simp),hn];exact⟨.int ns.sum,H,I.kept (t':=tk) hk,⟨_,rfl⟩,q⟩
theorem zyK{K:wb}{H:Hp}{Q:VK}{v:V}{ns:List Int}(h:Is K H v (TZ ns))(q:Q (.int ns.sum) H):C7 K [v] H Q:=by
 obtain⟨a,rfl,hs⟩:=oU.mp h;exact⟨a,ns,rfl,hs,q⟩
theorem ZC{α : Type}(xs:List α)(k:Nat)(h:k<=xs.length):jv xs (some (k:Int)) none=xs.drop k:=by
 unfold jv;rw[HT.YG,HT.YR,Nat.min_eq_left h];exact W5 (by rw[vW];lia)
def ny(K:wb):List V->Hp->VK->Prop:=λxs H Q=>∃(p:wg)(bs:List Bool),xs=[.ref p]/\aG K H p (bs.map V.bl)/\Q (.bl (bs.all id)) H
theorem zj:vJ "all"=some (.builtin "all"):=by decide +kernel
theorem TV{bs:List Bool} : ∀{us:List wf},aM (bs.map V.bl) us->us=bs.map Value.bool:=by
 induction bs with
 | nil=>intro us r;rw[Qk]at r;cases r;rfl
 | cons b bs ih =>
  intro us r;rw[wV]at r;cases r with
  | cons r1 r2 =>
   cases r1;rw[wV,ih r2]
theorem zsC(bs:List Bool):((wq bs.length).all λi=>(bs[i]?).getD true)=bs.all id:=by
 rw[vL,WW,WW]
 constructor
 ·intro h b hb
  obtain⟨i,hi,rfl⟩:=w6 hb;have:=h i (wF.mpr hi);rw[wc hi]at this;exact this
 ·intro h i hi
  rw[wF]at hi;rw[wc hi];exact h _ (vY hi)
open PyProof.V PySem.Calls in
theorem tM{X:Cx}(hc:X.calm=true):bK X (.builtin "all") (ny X.K):=by
 intro pins s σ H xs us Q I r h;obtain⟨p,bs,rfl,hq,q⟩:=h;obtain⟨u,rfl,rx⟩:=ff r;cases rx;obtain⟨its,r',pl,hz⟩:=I.list hq;have hi:its=bs.map Value.bool:=TV r';have hl:s.heap.IsList p its.toArray:=pl.isList;have hlt:p<s.heap.objs.size:=by obtain⟨_,e,_⟩:=hl;exact wz e
 refine call_all_walk (V7 hl ?_)
 refine⟨s.heap.objs.size,[s.heap.objs.size,p],[s.heap.objs.size],its.toArray.size,_,_,λi=>(bs[i]?).getD true,rfl,Uo (A:=X.A.in1) (I.ok.hd hc) _ p (wL hlt) its.toArray,
  ⟨⟨_,wO _ rfl,rfl,rfl⟩,hl.push _⟩,λi v s' Q' E' hP hQ=>?_,λh' tk hk=>?_⟩
 ·have hP:its.toArray[i]? = some v:=hP
  rw[hi]at hP;simp only[Xr,wx,VE]at hP;obtain⟨b,e,rfl⟩:=hP;simp only[e,qP]at hQ;exact Wo hQ
 ·have e:((wq its.toArray.size).all λi=>(bs[i]?).getD true)=bs.all id:=by
   rw[wS,hi,wm];exact zsC bs
  rw[e];exact⟨.bl (bs.all id),H,I.kept (t':=tk) (λb x e=>hk b x (λhm=>by rw[vi.mp hm]at e;exact VU _ (wz e)) (wn _ e)),rfl,q⟩
theorem oI{K:wb}{H:Hp}{Q:VK}{p:wg}{bs:List Bool}(h:aG K H p (bs.map V.bl))(q:Q (.bl (bs.all id)) H):ny K [.ref p] H Q:=⟨p,bs,rfl,h,q⟩
section
variable{t u:Bool}{K:wb}{g:TG}{tt:TT}{te:TE}{σ : L2.St}{H:Hp}{Q:VK}{a b:wg}{xs ys:List V}{src:List (Option Nat)}{o0 o0':Option V}{tl:L2.St}
theorem Zm(hx:dA t K H a xs)(hy:dA u K H b ys)(hxy:ys.length<xs.length)(hsrc:dF src σ = o0::o0'::tl)(Rel:Nat->V->Hp->Prop)(hk:∀i v H1 H2,aV H1 H2->Rel i v H1->Rel i v H2)
  (hs:∀D i x y zs o1 o2 H1 c,xs[i]? = some x->ys[i]? = some y->gj H tl Rel D i zs (o1::o2::tl) H1->H1 c=some (.tup [x,y])->hZ (gj H tl Rel) g tt te D i (.ref c) (o1::o2::tl) H1)
  (hd:∀D zs H',H D=none->aj H H'->H' D=some (.lst zs)->zs.length=ys.length->(∀j y,zs[j]? = some y->Rel j y H')->Q (.ref D) H'):FY t u K g tt te src σ [.ref a,.ref b] H Q:=by
 refine⟨a,b,rfl,⟨xs,hx⟩,⟨ys,hy⟩,λD hD=>⟨λi m σ' H'=>i+m=ys.length /\ ∃zs,gj H tl Rel D i zs σ' H',⟨ys.length,by lia,[],⟨o0,o0',hsrc⟩,hD,aj.upd hD,cA,rfl,λj y z=>by simp at z⟩,?_⟩⟩;rintro i m σ' H' ⟨him,zs,inv⟩;have hq1:=dA.same inv.2.2.1 hx;have hq2:=dA.same inv.2.2.1 hy
 by_cases hm:m=0
 ·have e:i=ys.length:=by lia
  subst e;obtain⟨_,n,s,e,hl,r⟩:=inv;exact .inl ⟨⟨xs,ys,hq1,hq2,.inr ⟨hxy,rfl⟩⟩,hd D zs H' n s e hl r⟩
 ·have hi:i<xs.length:=by lia
  have hj:i<ys.length:=by lia
  refine .inr ⟨⟨xs,xs[i],ys,ys[i],hq1,by simp[hi],hq2,by simp[hj]⟩,λσ2 H2=>∃zs,gj H tl Rel D (i+1) zs σ2 H2,λσ2 H2 h=>⟨m-1,by lia,by lia,h⟩,?_⟩;rintro v H2 ⟨c,x,y,rfl,hn,hx',hy',rfl⟩;obtain⟨⟨o1,o2,rfl⟩,n,s,e,hl,r⟩:=inv;have su:=aj.upd (o:=.tup [x,y]) hn;exact hs D i x y zs o1 o2 _ c (hx' xs hq1) (hy' ys hq2) ⟨⟨o1,o2,rfl⟩,n,s.trans su,su _ _ e,hl,λj y hy=>hk _ _ _ _ su.keep (r j y hy)⟩ cA
end
variable{H:Hp}
def PH(g:TG)(tb:TS)(D:cu)(σ : L2.St)(vs:List V)(H1:Hp):Prop:=∃i j:Int,vs=[.int i,.int j]/\(-(2^62)<=i/\i<2^62 /\ -(2^62)<=j/\j<2^62) /\
 ∃W:Nat->Nat->L2.St->Hp->Prop,(∃m,W 0 m σ H1) /\ ∀k m σ H,W k m σ H ->
  ((gg i (j-i).toNat).stop k H/\D.nx σ H)\/((gg i (j-i).toNat).go k H /\ ∃M:L2.St->Hp->Prop,(∀σ' H',M σ' H'->∃m',m'<m/\W (k+1) m' σ' H') /\ ∀x H',(gg i (j-i).toNat).fC k H x H'->g x σ H' λσ2 H2=>tb {D with nx:=M,ct:=M,bk:=D.nx} σ2 H2)
theorem zyj{ta:TA}{g:TG}{tb:TS}{D:cu}{σ : L2.St}(h:ta σ H λvs H1=>PH g tb D σ vs H1):lT (OG ta) g tb D σ H:=h
theorem zsl{g:TG}{tb:TS}{D:cu}{σ : L2.St}{lo hi:Int}(h0 : -1000000000<=lo)(h1:lo<1000000000)(h2 : -1000000000<=hi)(h3:hi<1000000000)(Pv:Nat->L2.St->Hp->Prop)(p:Pv 0 σ H)
  (hs:∀(i:Nat) σ H,i<(hi-lo).toNat->Pv i σ H->g (.int (lo+(i:Int))) σ H λσ2 H2=>tb {D with nx:=Pv (i+1),ct:=Pv (i+1),bk:=D.nx} σ2 H2)
  (hd:∀σ H,Pv (hi-lo).toNat σ H->D.nx σ H):PH g tb D σ [.int lo,.int hi] H :=
 ⟨lo,hi,rfl,⟨by lia,by lia,by lia,by lia⟩,O4 (lo:=lo) Pv p hs hd⟩
def CK(K:wb):List V->Hp->VK->Prop:=λxs H Q=>∃x tp S T d b,xs=[x,.ref tp]/\aI K H tp [.ty S,.ty T]/\Is K H x d/\UB K (.type (kindOf d)) [.type S,.type T]=some b/\Q (.bl b) H
theorem ztj{X:Cx} : bK X (.builtin "isinstance") (CK X.K):=by
 intro pins s σ H xs us Q I r h;obtain⟨x,tp,S,T,d,b,rfl,ht,hd,e,q⟩:=h;obtain⟨u,w',rfl,rx,rt⟩:=kP r;cases (show w'=Value.ref tp from rt);obtain⟨tts,rv,⟨ot,ht1,ht2,n,ht3⟩,_⟩:=I.tuple ht;obtain⟨t1,t2,rfl,r1,r2⟩:=kP rv;cases (show t1=Value.type S from r1);cases (show t2=Value.type T from r2);obtain⟨c,dd,da,sl⟩:=ot;cases ht2;cases ht3;have fin:∀tk,EP X pins σ Q (.bool b) {s with toks:=tk}:=λtk=>⟨.bl b,H,I.tok _,rfl,q⟩
 cases d with
 | none =>
  cases oq.mp hd;cases (show u=Value.none from rx);exact VR uo I.cU True.intro ht1 e (λz=>nomatch z) fin
 | bool y =>
  cases ki.mp hd;cases (show u=Value.bool y from rx);exact VR ur I.cU True.intro ht1 e (λz=>nomatch z) fin
 | int i =>
  cases bW.mp hd;obtain⟨t,q⟩:=(show ∃t,u=Value.int i t from rx);cases q;exact VR uW I.cU True.intro ht1 e (λz=>nomatch z) fin
 | str y =>
  cases cb.mp hd;obtain⟨t,q⟩:=(show ∃t,u=Value.str y t from rx);cases q;exact VR uX I.cU True.intro ht1 e (λz=>nomatch z) fin
 | tuple ds =>
  obtain⟨a,xs,e1,hq,_⟩:=bQ.mp hd;subst e1;cases (show u=Value.ref a from rx);obtain⟨its,_,⟨o,h1,h2,_⟩,_⟩:=I.tuple hq;exact VR X6 I.cU ⟨o,h1,h2⟩ ht1 e (λz=>nomatch z) fin
 | list ds =>
  obtain⟨a,xs,e1,hq,_⟩:=cf.mp hd;subst e1;cases (show u=Value.ref a from rx);obtain⟨its,_,⟨o,n,h1,h2,_⟩,_⟩:=I.list hq;exact VR ut I.cU ⟨o,h1,h2⟩ ht1 e (λz=>nomatch z) fin
 | dict kv =>
  obtain⟨a,kvs,e1,hq⟩:=Az.mp hd;subst e1;cases (show u=Value.ref a from rx);obtain⟨_,_,vs,_,o,es,ep,h1,h2,_⟩:=(show cw X.prog X.w H s.heap a (.dK kvs)from I.aA a _ hq);exact VR uu I.cU ⟨o,h1,h2.1⟩ ht1 e (λz=>nomatch z) fin
theorem zAI{K:wb}(d:wG):UB K (.type (kindOf d)) [.type "list",.type "tuple"]=some (oF d || jh d):=by cases d<;>rfl
theorem B4{K:wb}{Q:VK}{v:V}{tp:wg}{d:wG}(h:Is K H v d)(t:H tp=some (.tup [.ty "list",.ty "tuple"]))(q:Q (.bl (oF d || jh d)) H):CK K [v,.ref tp] H Q :=
 ⟨v,tp,"list","tuple",d,_,rfl,.of t,h,zAI d,q⟩
section
variable{X:Cx}{tg:Expr}
def CJ(K:wb)(tl:TE):TI:=λσ H R=>tl σ H λx H1=>(∃a,x=.ref a/\(∃xs,aG K H1 a xs)/\R (iZ K a) H1)\/(∃a,x=.ref a/\(∃xs,aI K H1 a xs)/\R (jx K a) H1)
theorem Nt{l:Expr}{tl:TE}(hl:PE X l tl):PI X tg l (CJ X.K tl):=by
 intro pins s σ H R I h;refine aD (hl pins s σ H _ I h) λv s1 ⟨x,H1,I1,r1,q1⟩=>?_
 rcases q1 with⟨a,e,⟨xs,hq⟩,q⟩ | ⟨a,e,⟨xs,hq⟩,q⟩
 ·subst e
  cases r1;obtain⟨its,rv,p,hz⟩:=I1.list hq;refine V7 p.isList ?_;refine⟨s1.heap.objs.size,[s1.heap.objs.size],_,_,H1,rfl,I1.kept (t':=s1.toks) λb o e=>wn _ e,EV a _,⟨_,wO _ rfl,rfl,rfl⟩,λb hb=>?_,q⟩;have e:b=s1.heap.objs.size:=by simpa using hb
  subst e;exact I1.jj (wo _) (I1.aA.fresh (wo _))
 ·subst e
  cases r1;obtain⟨its,rv,p,hz⟩:=I1.tuple hq;refine Vo (show s1.heap.IsTuple a its.toArray from p) ?_;refine⟨s1.heap.objs.size,[s1.heap.objs.size],_,_,H1,rfl,I1.kept (t':=s1.toks) λb o e=>wn _ e,N_ a _,⟨_,wO _ rfl,rfl,rfl⟩,λb hb=>?_,q⟩;have e:b=s1.heap.objs.size:=by simpa using hb
  subst e;exact I1.jj (wo _) (I1.aA.fresh (wo _))
end
section
variable{K:wb}{g:TG}{tt:TT}{te ta tb' tc:TE}{tb:TS}{D:cu}{src:List (Option Nat)}{σ : St}{H:Hp}{Q:VK}{r r':R2}
theorem zyx(h:ta σ H λx H1=>pN K g tt te src σ x H1 Q\/tK K g tt te src σ x H1 Q):jy src (CJ K ta) g tt te σ H Q:=h
theorem zAE(h:te σ H λx H1=>Cw K g tb D σ x H1\/Dt K g tb D σ x H1):lT (CJ K te) g tb D σ H:=h
theorem zwB(h:ta σ H λx H1=>tb' σ H1 λy H2=>r x y H2 λz H3=>∃k,z=.bl k/\(if k=true then tc σ H3 λw' H4=>r' y w' H4 Q else Q (.bl false) H3)):Fn r r' ta tb' tc σ H Q:=h
theorem zCZ{b:Bool}{P:Bool->Prop}(h:P b):∃k,V.bl b=.bl k/\P k:=⟨b,rfl,h⟩
end
def bo(a b:Rat)(xs:List Rat):wG:=.tuple [R a b,TN xs]
theorem zze(a b:Rat)(xs:List Rat):cP (bo a b xs)=true:=by rw[bo,cP,bV,bV,bV,Dv,yo];rfl
theorem Z1{x y:Rat}(h:N x=N y):x=y:=by
 have h':PyData.tuple [.int x.num,.int (x.den:Int)]=PyData.tuple [.int y.num,.int (y.den:Int)]:=h
 injection h' with h1
 injection h1 with h2 h3
 injection h2 with h4
 injection h3 with h5 _
 injection h5 with h6
 exact UA h4 (by lia)
theorem rz{K:wb}{H:Hp}{us:List V}{ds:List wG}{i:Nat}{x:V}(t:ao K H us ds)(h:us[i]? = some x):i<ds.length/\Is K H x (ds.getD i .none):=by
 have hl:=t.length
 have hi:i<ds.length:=by
  rcases wB i ds.length with z | z
  ·exact z
  ·rw[wQ (by lia)]at h;cases h
 obtain⟨y,e,k⟩:=t.get (i:=i) (d:=ds.getD i .none) (by rw[wa,wc hi];rfl);rw[e]at h;cases h;exact⟨hi,k⟩
def Cj(K:wb)(a:wg):It :=
 ⟨λi H=>∃xs x,aG K H a xs/\xs[i]? = some x,λi H y H'=>∃t x,y=.ref t/\H t=none/\(∀xs,aG K H a xs->xs[i]? = some x)/\H'=upd H t (.tup [.int (i:Int),x]),λi H=>∃xs,aG K H a xs/\xs.length<=i⟩
theorem zsY{P:wE}{w:World}{K:wb}{elts:List Expr}{k1}{tpos:Pos}(a e it:wg)(hne:e≠it):iL P w K (.Tuple elts k1 tpos) (Cj K a) [e,it] e (λi h=>(∃old,IsEnum h e it (i:Int) old)/\h.IsListIter it a i) where
 mem:=by simp
 obj:=λi h st b hb=>by
  obtain⟨⟨old,he⟩,o,eo,c,d⟩:=st;rcases wK.mp hb with rfl | hb
  ·exact⟨_,he,λv z=>by cases (show Data.fields _=Data.cell v from z)⟩
  ·rw[vi.mp hb]
   exact⟨o,eo,λv z=>by rw[d]at z;cases z⟩
 keep:=λi h h' st k=>⟨let ⟨old,he⟩:=st.1;⟨old,k e (by simp) _ he⟩,st.2.at λo eo=>k it (by simp) o eo⟩
 item:=by
  intro X hP hw hK hc i pins s σ H E I hf st hg;subst hP hw hK;obtain⟨⟨old,he⟩,st⟩:=st;obtain⟨xs,x,hq,hx⟩:=hg;obtain⟨its,rv,p,hz⟩:=I.list hq;obtain⟨u,hu,ru⟩:=rv.get hx;have p':s.heap.IsList a its.toArray:=p.isList
  have hai:a≠it:=λz=>by
   subst z;obtain⟨o,e1,c1,_⟩:=st;obtain⟨o',e2,c2,_⟩:=p';rw[e1]at e2;cases e2;rw[c1]at c2;exact absurd c2 (by decide)
  have hae:e≠a:=λz=>by
   subst z;obtain⟨o',e2,c2,_⟩:=p';rw[he]at e2;cases e2;exact absurd (show Value.type "enumerate"=Value.type "list" from c2) (by decide)
  have hlt:i<its.toArray.size:=by
   rcases wB i its.length with z | z
   ·simpa using z
   ·rw[wQ z]at hu;cases hu
  refine wpAny_pyNext_enum_itemD (Draws.list (A:=X.A.in1) (I.ok.hd hc) it a hai its.toArray) he ⟨st,p'⟩ hlt hne (by simp[hne,hae]) λv h1 tk hv ho hs1 hT hsz hk=>?_
  have hvu:v=u:=by
   have hv':its[i]? = some v:=by simpa using hv
   rw[hu]at hv';exact(wN hv').symm
  subst hvu
  have I1:Inv X pins σ (upd H s.heap.objs.size (.tup [.int (i:Int),x])) {s with heap:=s.heap.push {cls:=.type "tuple",data:=.seq ([.int (i:Int) tk,v]:List wf).toArray},toks:=tk+1} :=
   I.laid (λb o q=>wn _ q) (wo _) (show cw X.prog X.w _ _ _ (.tup [.int (i:Int),x])from⟨m6 (by simp),_,.cons ⟨_,rfl⟩ (.cons ru .nil),QN _ _⟩)
  have lt1:∀b∈[e,it],b<s.heap.objs.size:=λb hb=>by
   rcases wK.mp hb with rfl | hb
   ·exact wz he
   ·rw[vi.mp hb]
    obtain⟨o,eo,_⟩:=st;exact wz eo
  have hf1:∀b∈[e,it],d6 X pins (upd H s.heap.objs.size (.tup [.int (i:Int),x])) b:=λb hb=>⟨by rw[dW (wL (lt1 b hb))];exact(hf b hb).1,(hf b hb).2⟩
  refine⟨_,rfl,wpAny_letOwnedTupleGo_enum ho λh2 he2 hs2=>?_⟩;refine⟨.ref s.heap.objs.size,_,Inv.sF (s:={s with heap:=s.heap.push {cls:=.type "tuple",data:=.seq ([.int (i:Int) tk,v]:List wf).toArray},toks:=tk+1}) (ch:=[e,it]) I1 (λb o hb q=>?_) hf1,rfl,⟨_,x,rfl,I.aA.fresh (wo _),λys hy=>by rw[I.sk hy hq];exact hx,rfl⟩,⟨⟨_,by simpa using he2⟩,hs1.1.at λo eo=>(hs2.2 it (WI hne)).trans eo⟩,λb hb=>(hf1 b hb).1⟩;have hbe:b≠e:=λz=>hb (by simp[z])
  have hbi:b≠it:=λz=>hb (by simp[z])
  refine(hs2.2 b hbe).trans ?_
  by_cases hb2:b=s.heap.objs.size
  ·subst hb2
   rw[wO _ rfl]at q;cases q;exact hT
  ·exact hk b o hbe hbi (by rw[xA _ _ _ hb2]at q;exact q)
 done:=by
  intro X hP hw hK hc i pins s σ H E I hf st hg;subst hP hw hK;obtain⟨⟨old,he⟩,st⟩:=st;obtain⟨xs,hq,hx⟩:=hg;obtain⟨its,rv,p,hz⟩:=I.list hq;have p':s.heap.IsList a its.toArray:=p.isList;have hl:=rv.length;have hT:s.TypeIs (.ref e) "enumerate":=⟨_,he,rfl⟩;unfold Vn;refine we (WP (wpAny_callSpecial?_slot (name:=vT "__next__") hT qM (vZ qM hT Xh ?_ (xS _))))
  show wt _ _ (field (.ref e) 2 >>= _) _ _ _;refine we (vt he rfl (x:=.ref it) rfl ?_)
  refine we (wpAny_nextOf_list_end (A:=X.A.in1) (I.ok.hd hc) st p' (by simp;lia) λh' y he' hx'=>?_);obtain⟨o,ho,hcl⟩:=hx';refine we (WY (T:="StopIteration") (b:=true) ⟨o,ho,hcl⟩ qf (wp ⟨rfl,?_⟩));obtain⟨f0,f1,f2,f3,f4,f5⟩:=hf it (by simp);exact I.turned (t':=s.toks) (λb o hb e=>he' b o hb e) f0 f1 f3 f4 f5
 self:=λ_ _ _ _ _ st h=>let ⟨_,he⟩:=st.1;wpAny_pyIter_enum he h
def O0(K:wb)(ta:TA):TI:=λσ H R=>ta σ H λvs H1=>∃a,vs=[.ref a]/\(∃xs,aG K H1 a xs)/\R (Cj K a) H1
theorem Zh{X:Cx}{elts:List Expr}{k1}{tpos p pos:Pos}{l:Expr}{ta:TA}(hg:Gl X "enumerate")(hm:X.mg "enumerate"=none)(ha:PA X [l] ta)(hs:wX [l] X.env=[(false,eval l X.env)]:=by rfl) :
  PI X (.Tuple elts k1 tpos) (.Call (.Name "enumerate" p) [l] [] pos) (O0 X.K ta):=by
 intro pins s σ H R I h;refine Call_ (gK I hg hm Kt (vE (aD (ha pos pins s σ H _ I h) λus s1 ⟨vs,H1,I1,r1,q1⟩=>?_) hs rfl));obtain⟨a,rfl,⟨xs,hq⟩,q⟩:=q1;obtain⟨u,rfl,ru⟩:=ff r1;cases ru;obtain⟨its,rv,p,hz⟩:=I1.list hq;refine call_enumerate_list p.isList λh' he hit _ kp=>?_
 refine wpAny_pyIter_enum he ?_;refine⟨s1.heap.objs.size+1,[s1.heap.objs.size+1,s1.heap.objs.size],_,_,H1,rfl,I1.kept (t':=s1.toks) kp,zsY a (s1.heap.objs.size+1) s1.heap.objs.size (u5 _),⟨⟨_,he⟩,hit⟩,λb hb=>?_,q⟩
 have hb':s1.heap.objs.size<=b:=by
  rcases wK.mp hb with rfl | hb
  ·lia
  ·rw[vi.mp hb];exact wo _
 exact I1.jj hb' (I1.aA.fresh hb')
def LR(K:wb)(g:TG)(tt:TT)(te:TE)(src:List (Option Nat))(σ : St)(vs:List V)(H1:Hp)(Q:VK):Prop:=∃a,vs=[.ref a]/\(∃xs,aG K H1 a xs) /\
 ∀D,H1 D=none->jV g tt te (Cj K a) D (dF src σ) (upd H1 D (.lst [])) (λH'=>Q (.ref D) H')
section
variable{K:wb}{ta:TA}{g:TG}{tb:TS}{tt c:TT}{te:TE}{D:cu}{σ : St}{H:Hp}{Q:VK}{a:wg}{xs:List V}{src:List (Option Nat)}{o0 o0':Option V}{tl:St}
theorem zvv(h:ta σ H λvs H1=>LR K g tt te src σ vs H1 Q):jy src (O0 K ta) g tt te σ H Q:=h
theorem zwR(hx:aG K H a xs)(hsrc:dF src σ = o0::o0'::tl)(Rel:Nat->V->Hp->Prop)(hk:∀i v H1 H2,aV H1 H2->Rel i v H1->Rel i v H2)
  (hs:∀D i x zs o1 o2 H1 c,xs[i]? = some x->gj H tl Rel D i zs (o1::o2::tl) H1->H1 c=some (.tup [.int (i:Int),x])->hZ (gj H tl Rel) g tt te D i (.ref c) (o1::o2::tl) H1)
  (hd:∀D zs H',H D=none->aj H H'->H' D=some (.lst zs)->zs.length=xs.length->(∀j y,zs[j]? = some y->Rel j y H')->Q (.ref D) H'):LR K g tt te src σ [.ref a] H Q:=by
 refine⟨a,rfl,⟨xs,hx⟩,λD hD=>⟨λi m σ' H'=>i+m=xs.length /\ ∃zs,gj H tl Rel D i zs σ' H',⟨xs.length,by lia,[],⟨o0,o0',hsrc⟩,hD,aj.upd hD,cA,rfl,λj y z=>by simp at z⟩,?_⟩⟩;rintro i m σ' H' ⟨him,zs,inv⟩;have hq1:=inv.2.2.1.seq hx
 by_cases hm:m=0
 ·have e:i=xs.length:=by lia
  subst e;obtain⟨_,n,s,e,hl,r⟩:=inv;exact .inl ⟨⟨xs,hq1,wo _⟩,hd D zs H' n s e hl r⟩
 ·have hi:i<xs.length:=by lia
  refine .inr ⟨⟨xs,xs[i],hq1,by simp[hi]⟩,λσ2 H2=>∃zs,gj H tl Rel D (i+1) zs σ2 H2,λσ2 H2 h=>⟨m-1,by lia,by lia,h⟩,?_⟩;rintro v H2 ⟨c,x,rfl,hn,hx',rfl⟩;obtain⟨⟨o1,o2,rfl⟩,n,s,e,hl,r⟩:=inv;have su:=aj.upd (o:=.tup [.int (i:Int),x]) hn;exact hs D i x zs o1 o2 _ c (hx' xs hq1) ⟨⟨o1,o2,rfl⟩,n,s.trans su,su _ _ e,hl,λj y hy=>hk _ _ _ _ su.keep (r j y hy)⟩ cA
def Ts(Pv:Nat->St->Hp->Prop)(m:Nat)(tb:TS)(D:cu)(σ':St)(H1:Hp):Prop :=
 ∃M:St->Hp->Prop,(∀σ2 H2,M σ2 H2->∃m',m'<m/\Pv m' σ2 H2)/\tb {D with nx:=M,ct:=M,bk:=D.nx} σ' H1
theorem rq(Pv:Nat->St->Hp->Prop)(m0:Nat)(h0:Pv m0 σ H)(hs:∀m σ' H',Pv m σ' H'->c σ' H' λb H1=>if b=true then Ts Pv m tb D σ' H1 else D.nx σ' H1):B1 c tb D σ H:=⟨Pv,⟨m0,h0⟩,hs⟩
theorem oW{Pv:Nat->St->Hp->Prop}{m:Nat}{σ':St}{H1:Hp}(h:tb {D with nx:=λσ2 H2=>∃m',m'<m/\Pv m' σ2 H2,ct:=λσ2 H2=>∃m',m'<m/\Pv m' σ2 H2,bk:=D.nx} σ' H1):Ts Pv m tb D σ' H1:=⟨_,λ_ _ q=>q,h⟩
def Au(K:wb)(x:V)(H:Hp)(Q:Bool->Hp->Prop):Prop:=∃k,FG K x H k/\Q k H
def Lz(K:wb)(te:TE):TT:=λσ H Q=>te σ H λx H'=>Au K x H' Q
theorem ET{X:Cx}{e:Expr}{t:TE}(h:PE X e t)(he:∀whole,isTrue e X.env whole=(do let v <- whole;standAt e.pos;holding [v] (truthy v)):=by intro _;rfl):PT X e (Lz X.K t):=zyz h he
theorem zCE{QB:Bool->Hp->Prop}(h:te σ H λx H'=>Au K x H' QB):Lz K te σ H QB:=h
theorem zzR{QB:Bool->Hp->Prop}{v:V}{ds:List wG}(h:Is K H v (.tuple ds))(q:QB (!ds.isEmpty) H):Au K v H QB:=by
 obtain⟨p,us,rfl,hs,t⟩:=bQ.mp h;have hl:=t.length;refine⟨_,.inr (.inl ⟨us,hs,rfl⟩),?_⟩
 have e:us.isEmpty=ds.isEmpty:=by
  cases us<;>cases ds<;>simp_all
 rw[e];exact q
theorem Rm{QB:Bool->Hp->Prop}{v:V}{ds:List wG}(h:Is K H v (.list ds))(q:QB (!ds.isEmpty) H):Au K v H QB:=by
 obtain⟨p,us,rfl,hs,t⟩:=cf.mp h;have hl:=t.length;refine⟨_,.inl ⟨us,hs,rfl⟩,?_⟩
 have e:us.isEmpty=ds.isEmpty:=by
  cases us<;>cases ds<;>simp_all
 rw[e];exact q
end
theorem JB:∀(ys:List V)(us:List wf),ys.length=us.length->(∀(i:Nat) y u,ys[i]? = some y->us[i]? = some u->aP y u)->aM ys us
 | [],[],_,_=>.nil
 | [],_::_,h,_=>by simp at h
 | _::_,[],h,_=>by simp at h
 | y::ys,u::us,h,r=>.cons (r 0 y u rfl rfl) (JB ys us (by simpa using h) λi y u h1 h2=>r (i+1) y u h1 h2)
def vz(l:List Nat):List V:=l.map λ(w:Nat)=>V.int (w:Int)
theorem gm(l:List Nat):(vz l).length=l.length:=wm ..
def DQ(vs:List V)(H1:Hp)(Q:VK):Prop:=∃j:Int,vs=[.int j]/\0<=j/\j<=1000 /\ ∀l,H1 l=none->Q (.ref l) (upd H1 l (.lst (vz (wq j.toNat))))
def LV(ta:TA):TE:=λσ H Q=>ta σ H λvs H1=>DQ vs H1 Q
theorem zp4{X:Cx}{a:Expr}{ta:TA}{p p2 pos pos2:Pos}(hc:X.calm=true)(hg:Gl X "list")(hm:X.mg "list"=none)(hg2:Gl X "range")(hm2:X.mg "range"=none)(ha:PA X [a] ta)(hs:wX [a] X.env=[(false,eval a X.env)]:=by rfl)
  (hs2:wX [Expr.Call (.Name "range" p2) [a] [] pos2] X.env=[(false,eval (.Call (.Name "range" p2) [a] [] pos2) X.env)]:=by rfl):PE X (.Call (.Name "list" p) [.Call (.Name "range" p2) [a] [] pos2] [] pos) (LV ta):=by
 intro pins s σ H Q I h;refine Call_ (gK I hg hm pk ?_);refine vE ?_ hs2 rfl;rw[hs2]
 show wt _ _ (spliced ((false,eval _ X.env)::VN pos [])) _ _ s
 refine xc ?_;refine Call_ (gK I hg2 hm2 boot_range (vE (aD (ha pos2 pins s σ H _ I h) λus s1 ⟨vs,H1,I1,r1,q1⟩=>?_) hs rfl));obtain⟨j,e,j0,j1,q⟩:=q1;subst e;obtain⟨u,rfl,ru⟩:=ff r1;obtain⟨t,rfl⟩:=ru;refine call_range_1 ?_;refine xy ?_;have I2:Inv X pins σ H1 {s1 with heap:=s1.heap.push {cls:=.type "range",data:=.fields #[.int 0 s1.toks,.int j t,.int 1 (s1.toks+1)]},toks:=s1.toks+1+1}:=I1.kept λb o e=>wn _ e
 refine call_list_range (n:=j.toNat) (I1.ok.hd hc) (UY ..) (small_one (by lia) (by lia) (by lia) (by lia)) (by rw[rangeSize_one];split<;>lia) (by lia) λh' tk acc c hk hD hI=>?_
 refine⟨.ref _,_,I2.laid (t':=tk) hk (wo _) ?_,rfl,q _ (I2.aA.fresh (wo _))⟩;refine⟨m6 (by rw[gm,ve];lia),acc.toList,c,JB _ _ (by rw[gm,ve,wI,hI.1]) λi y u hy hu=>?_,by simpa using hD⟩;have hu':acc[i]? = some u:=by simpa using hu
 obtain⟨t',e'⟩:=hI.2 i u hu'
 have hi:i<j.toNat:=by
  have:=(W8.mp hu').1;rw[hI.1]at this;exact this
 have hy':y=V.int (i:Int):=by
  unfold vz at hy;rw[wx,Wm hi]at hy;exact(wN hy).symm
 subst hy';exact⟨t',by rw[e'];congr 1;lia⟩
theorem zpv{ta:TA}{σ : St}{H:Hp}{Q:VK}(h:ta σ H λvs H1=>DQ vs H1 Q):LV ta σ H Q:=h
theorem zwe{n:Nat}{H:Hp}{Q:VK}(hn:n<=1000)(q:∀l H',H l=none->aj H H'->H' l=some (.lst (vz (wq n)))->Q (.ref l) H'):DQ [V.int (n:Int)] H Q :=
 ⟨_,rfl,by lia,by lia,λl hl=>q l _ hl (aj.upd hl) (by rw[wY];exact cA)⟩
theorem KI(w:Nat)(l:List Nat):AE (.int (w:Int)) (vz l)=decide (w∈l):=by
 unfold AE vz
 induction l with
 | nil=>rfl
 | cons x l ih =>
  rw[wV,W7,ih]
  show((x:Int) == (w:Int) || _)=_
  by_cases h:w=x
  ·subst h;simp
  ·have h':¬ (x:Int)=(w:Int):=λz=>h (by lia)
   simp[h,h']
theorem SV(l:List Nat):(vz l).all kn=true:=by
 unfold vz;rw[WW];intro y hy;obtain⟨w,_,rfl⟩:=wU.mp hy
 rfl
section
variable{K:wb}{H H':Hp}{Q:VK}{v:V}{p:wg}{l:List Nat}{w:Nat}
theorem zsw(h:aI K H p (vz l))(q:Q (.bl (!decide (w∈l))) H):kz K true (.int (w:Int)) (.ref p) H Q:=⟨p,vz l,rfl,.inr h,rfl,SV l,by rw[KI];exact q⟩
theorem zzs(h:aG K H p (vz l))(q:Q (.bl (decide (w∈l))) H):kz K false (.int (w:Int)) (.ref p) H Q:=⟨p,vz l,rfl,.inl h,rfl,SV l,by rw[KI];exact q⟩
def TW(l:List Nat):wG:=TZ (l.map λ(w:Nat)=>(w:Int))
theorem Aj :Is K H v (TW l) ↔ ∃a,v=.ref a/\aI K H a (vz l):=by
 unfold TW vz;rw[oU,WD];exact Iff.rfl
theorem sR(l:List Nat):cP (TW l)=true:=zCi _
def kJ(ws:List (List Nat)):wG:=.tuple (ws.map TW)
theorem zev:∀ws:List (List Nat),bV (ws.map TW)=true
 | []=>rfl
 | w::ws=>by rw[wV,bV,sR,zev ws];rfl
theorem zAC(ws:List (List Nat)):cP (kJ ws)=true:=by rw[kJ,cP];exact zev ws
theorem pO{i:Nat}{x:V}(h:(vz l)[i]? = some x):∃hi:i<l.length,x=.int ((l[i]:Nat):Int):=by
 have hi:i<l.length:=by
  rcases wB i l.length with z | z
  ·exact z
  ·rw[wQ (by rw[gm];exact z)]at h;cases h
 refine⟨hi,?_⟩;unfold vz at h;rw[wx,wc hi]at h;exact(wN h).symm
def GD(a b:Rat)(xs:List Rat):wG:=.tuple [N (1-bG xs),kJ (bS a b xs),bo a b (cz a b xs)]
def yt(h:Rat)(ws:List (List Nat))(xs:List Rat):wG:=.tuple [N h,kJ ws,TN xs]
theorem R3(h:Rat)(ws:List (List Nat))(xs:List Rat):cP (yt h ws xs)=true:=by rw[yt,cP,bV,bV,bV,bV,kO,zAC,yo];rfl
def Rv(a b:Rat)(xs:List Rat)(k:Nat):wG:=yt (aT a b xs (k+1)) (bS a b (ai a b xs k)) (ai a b xs (k+1))
def hV(a b:Rat)(xs:List Rat)(n:Nat):List wG:=(wq n).map (Rv a b xs)
theorem rS{α : Type}(f : α -> wG)(hf:∀x,cP (f x)=true):∀l:List α,bV (l.map f)=true
 | []=>rfl
 | x::l=>by rw[wV,bV,hf,rS f hf l];rfl
theorem ao.snoc{vs:List V}{ds:List wG}{d:wG}(h:ao K H vs ds)(k:Is K H v d):ao K H (vs++[v]) (ds++[d]):=h.append (.cons k .nil)
theorem nA{i:Nat}(h:i<l.length):l.take (i+1)=l.take i++[l[i]]:=by
 rw[qF,wc h];rfl
theorem N5(h:Is K H v (TW l))(q:Q (.int (l.length:Int)) H):jX K [v] H Q:=Bn h (by rw[wm];exact q)
end
variable{l:List Nat}{n w:Nat}{d:wG}
theorem TY:∀ns:List Int,vS (ns.map PyData.int)=true
 | []=>by simp[vS]
 | n::ns=>by rw[wV,vS,TY ns];simp[vA]
theorem Ll:∀ns:List Int,Wl (ns.map PyData.int)<=1
 | []=>by simp[Wl]
 | n::ns=>by
  have:=Ll ns;rw[wV,Wl];simp[WO]
  lia
theorem zv3(a b:Rat)(xs:List Rat)(n:Nat):(hV a b xs n).length=n:=by simp[hV]
theorem Ej(a b:Rat)(xs:List Rat)(n:Nat):hV a b xs (n+1)=hV a b xs n++[Rv a b xs n]:=by
 unfold hV;rw[xZ,vQ];rfl
theorem zpG(a b:Rat)(xs:List Rat)(n:Nat):bV (hV a b xs n)=true:=rS _ (λk=>R3 _ _ _) _
theorem zw9{ps:List Rat}(h:¬ ps.getD w 0<1):az ps (l++[w])=az ps l++[w]:=by
 unfold az;rw[Vl,WT,decide_eq_false h];rfl
theorem zwf{ps:List Rat}(h:ps.getD w 0<1):az ps (l++[w])=az ps l:=by
 unfold az;rw[Vl,WT,decide_eq_true h];exact vP _
theorem zvt{wave:List Nat}(h:¬ w∈wave):aW (l++[w]) wave=aW l wave++[w]:=by
 unfold aW;rw[Vl];simp[WT,h]
theorem Zb{wave:List Nat}(h:w∈wave):aW (l++[w]) wave=aW l wave:=by
 unfold aW;rw[Vl];simp[WT,h]
theorem pJ(l:List Nat)(w:Nat):vz (l++[w])=vz l++[V.int (w:Int)]:=by unfold vz;rw[vQ];rfl
theorem zvP{xs:List Rat}{j:Nat}(h:j<xs.length):(aZ xs).getD j 0=xs.getD j 0+(1-bG xs):=by
 unfold aZ;rw[wa,wx,wc h,wa,wc h];rfl
theorem zm{P:wG->Prop}{a b:wG}(ha:P a)(hb:P b):∀d∈[a,b],P d:=λd hd=>by
 simp only[wK,Vd,or_false]at hd;rcases hd with rfl | rfl
 ·exact ha
 ·exact hb
def Sh(n:Nat)(d:wG):Prop:=d.canLay0=true/\d.depth<=n
theorem OR{n:Nat} : ∀ds:List wG,(∀d∈ds,Sh n d)->vS ds=true/\Wl ds<=n
 | [],_=>by simp[vS,Wl]
 | d::ds,h=>by
  have h1:=h d (wD ..);have h2:=OR ds λe he=>h e (wA _ he)
  rw[vS,Wl,h1.1,h2.1];exact⟨rfl,by have:=h1.2;have:=h2.2;lia⟩
theorem MQ{ds:List wG}(h:∀d∈ds,Sh n d):Sh (n+1) (.tuple ds):=by
 have:=OR ds h;unfold Sh;rw[vA,WO];exact⟨this.1,by have:=this.2;lia⟩
theorem Sh.mono{m:Nat}(h:Sh m d)(e:m<=n):Sh n d:=⟨h.1,Wb h.2 e⟩
theorem Sh.shaped(h:Sh n d)(e:n<=64):vR d=true:=by
 unfold vR;rw[h.1,qV];exact decide_eq_true (Wb h.2 e)
theorem DI(i:Int):Sh 1 (.int i):=⟨by simp[vA],by simp[WO]⟩
theorem Z3(x:Rat):Sh 2 (N x):=MQ (zm (DI _) (DI _))
theorem nE{K:wb}{H:Hp}{Q:VK}{v w:V}(h:Is K H v d)(k:Is K H w d)(s:Sh n d)(e:n<=64)(r:wR d d=true)(q:Q (.bl false) H):ko K v w H Q:=nW h k (s.shaped e) (s.shaped e) (by rw[r];exact q)
def F7(K:wb):List V->Hp->VK->Prop:=λxs H Q=>∃(p:wg)(ns:List Int),xs=[.ref p]/\aG K H p (ns.map V.int)/\0<ns.length /\ ∀M,M∈ns->(∀t∈ns,t<=M)->Q (.int M) H
theorem zCo :vJ "max"=some (.builtin "max"):=by decide +kernel
open PyProof.V PySem.Calls in
theorem zvm{X:Cx}(hc:X.calm=true):bK X (.builtin "max") (F7 X.K):=by
 intro pins s σ H xs us Q I r h;obtain⟨p,ns,rfl,hq,hne,q⟩:=h;obtain⟨u,rfl,rx⟩:=ff r;cases rx;obtain⟨its,r',pl,hz⟩:=I.list hq;have hI:=zb r';have hL:s.heap.IsList p its.toArray:=pl.isList;obtain⟨zs,hx⟩:=hI.allInts.items;have hn:numsOf its.toArray.toList=ns:=by rw[show its.toArray.toList=its from rfl,hI.numsOf]
 rw[hx]at hL hn;rw[nums_intItems]at hn;have hsz:zs.size=ns.length:=by rw[<- hn,wm,wI]
 refine max_intList (I.ok.hd hc) hL (by lia) λv h' tk hv hk=>?_
 obtain⟨t,rfl⟩:=intItems_at hv;obtain⟨h1,h2⟩:=argBest_gt (numAt zs) (zs.size-1);refine⟨.int _,H,I.kept (t':=tk) hk,⟨_,rfl⟩,q _ ?_ λa ha=>?_⟩
 ·rw[numAt_eq,hn]
  exact GM.getD_mem (by lia)
 ·obtain⟨j,hj,rfl⟩:=w6 ha
  have:=h2 j (by lia);rw[numAt_eq,hn,wa,wc hj]at this;exact this
theorem zAK{K:wb}{H:Hp}{Q:VK}{p:wg}{ns:List Int}(h:aG K H p (ns.map V.int))(hn:0<ns.length)(q:∀M,M∈ns->(∀t∈ns,t<=M)->Q (.int M) H):F7 K [.ref p] H Q:=⟨p,ns,rfl,h,hn,q⟩
section
variable{K:wb}{H H':Hp}{Q:VK}{D:cu}{σ : St}{td ty tv:TE}{a:wg}{kvs:List (Key × V)}{k:Int}{v:V}
theorem zzt(h:tv σ H λv H1=>td σ H1 λx H2=>ty σ H2 λy H3=>∃a H4,x=.ref a/\mB H3 a y v H4/\D.nx σ H4):Nx td ty tv D σ H:=h
theorem zzv{R:Hp->Prop}(e:H a=some (.dK kvs))(hl:kvs.length<=1000)(q:∀H',Exc a H H'->H' a=some (.dK (fV kvs (.inl k) v))->R H'):∃a' H4,V.ref a=.ref a'/\mB H a' (.int k) v H4/\R H4 :=
 ⟨a,_,rfl,mB.k (k:=.inl k) e (kS hl),q _ (Exc.upd a H _) cA⟩
theorem zBQ(h:ty σ H λy H1=>td σ H1 λx H2=>∃a o,x=.ref a/\jI H2 a y o/\Q (.bl o.isSome) H2):OV ty td σ H Q:=h
theorem zu7(h:ty σ H λy H1=>td σ H1 λx H2=>∃a o,x=.ref a/\jI H2 a y o/\Q (.bl (!o.isSome)) H2):Pj ty td σ H Q:=h
theorem KU{R:Option V->Prop}(e:H a=some (.dK kvs))(q:R (df kvs (.inl k))):∃a' o,V.ref a=.ref a'/\jI H a' (.int k) o/\R o:=⟨a,_,rfl,jI.k (k:=.inl k) e,q⟩
theorem Exc.YW(e:Exc a H H')(h:H a=some (.dK kvs)):aV H H' :=
 ⟨λb ys hb=>e b _ (λz=>by subst z;rw[h]at hb;cases hb) hb,λb o u hb=>e b _ (λz=>by subst z;rw[h]at hb;cases hb) hb⟩
theorem zBy{p r:wg}{l:List Nat}(h:H p=some (.lst (vz l)))(e:H r=some (.lst []))(q:Q (.bl (decide (l≠[]))) H):ko K (.ref p) (.ref r) H Q:=by
 have i1:Is K H (.ref p) (.list ((l.map λ(w:Nat)=>(w:Int)).map PyData.int)):=cf.mpr ⟨p,vz l,rfl,.of h,by
  have e1:vz l=(l.map λ(w:Nat)=>(w:Int)).map V.int:=by unfold vz;rw[WD];rfl
  rw[e1];exact p6.mpr rfl⟩
 have i2:Is K H (.ref r) (.list []):=cf.mpr ⟨r,[],rfl,.of e,.nil⟩;refine nW i1 i2 ?_ rfl ?_
 ·unfold vR
  rw[vA,TY,WO,qV];have:=Ll (l.map λ(w:Nat)=>(w:Int));exact decide_eq_true (by lia)
 ·cases l with
  | nil=>simpa [wR,W9] using q
  | cons x l=>simpa [wR,W9] using q
end
variable{i:Nat}
theorem pZ:∀{ts:List Int}{ys:List V},ys.length=ts.length->(∀(j:Nat)(y:V),ys[j]? = some y->y=V.int (ts.getD j 0))->ys=ts.map V.int
 | [],[],_,_=>rfl
 | [],_::_,h,_=>by simp at h
 | _::_,[],h,_=>by simp at h
 | t::ts,y::ys,h,e=>by
  rw[wV,e 0 y rfl,pZ (ts:=ts) (ys:=ys) (by simpa using h) λj z hz=>e (j+1) z hz]
  rfl
theorem Cp{α : Type}{f : α -> Int}{xs:List α}{d : α}(h:i<xs.length):(xs.map f).getD i 0=f (xs.getD i d):=by
 rw[wa,wx,wc h,wa,wc h];rfl
theorem pB{α : Type}{ys:List α}{j:Nat}{y : α}(h:ys[j]? = some y):j<ys.length:=by
 rcases wB j ys.length with z | z
 ·exact z
 ·rw[wQ z]at h;cases h
theorem M3{ts:List Int}{x:V}(h:(ts.map V.int)[i]? = some x):i<ts.length/\x=.int (ts.getD i 0):=by
 have hi:=pB h;rw[wm]at hi;rw[wx,wc hi]at h;refine⟨hi,?_⟩;rw[wa,wc hi];exact(wN h).symm
theorem Zz{ts:List Int}(h:i<ts.length):ts.getD i 0∈ts:=GM.getD_mem h
theorem my{n:Nat}(p:Nat->Bool)(i:Nat):(wq (i+1)).filter p=(wq i).filter p++(if p i then [i]else []):=by
 rw[xZ,Vl];cases h:p i<;>simp[h]
def Kx(K:wb)(g:TG)(tt:TT)(te:TE)(src:List (Option Nat))(σ : St)(vs:List V)(H1:Hp)(Q:VK):Prop:=∃a,vs=[.ref a]/\(∃xs,aI K H1 a xs) /\
 ∀D,H1 D=none->jV g tt te (mW K a) D (dF src σ) (upd H1 D (.lst [])) (λH'=>Q (.ref D) H')
section
variable{K:wb}{ta:TA}{g:TG}{tt:TT}{te:TE}{σ : St}{H:Hp}{Q:VK}{a:wg}{xs:List V}{src:List (Option Nat)}
theorem zwk(h:ta σ H λvs H1=>Kx K g tt te src σ vs H1 Q):jy src (B6 K ta) g tt te σ H Q:=h
theorem zrE(hx:aI K H a xs)(Pv:wg->Nat->List V->St->Hp->Prop)(h0:∀D H',H D=none->aj H H'->H' D=some (.lst [])->Pv D 0 [] (dF src σ) H')(hl:∀D i ys σ' H',Pv D i ys σ' H'->aI K H' a xs)
  (hs:∀D i x ys σ' H1 c H2,xs[i]? = some x->Pv D i ys σ' H1->H1 c=none->aj H1 H2->H2 c=some (.tup [.int (i:Int),x])->hZ Pv g tt te D i (.ref c) σ' H2) (hd:∀D ys σ' H',Pv D xs.length ys σ' H'->Q (.ref D) H'):Kx K g tt te src σ [.ref a] H Q:=by
 refine⟨a,rfl,⟨xs,hx⟩,λD hD=>⟨λi m σ' H'=>i+m=xs.length /\ ∃ys,Pv D i ys σ' H',⟨xs.length,by lia,[],h0 D _ hD (aj.upd hD) cA⟩,?_⟩⟩;rintro i m σ' H' ⟨him,ys,inv⟩;have hq:=hl _ _ _ _ _ inv
 by_cases hm:m=0
 ·have e:i=xs.length:=by lia
  subst e;exact .inl ⟨⟨xs,hq,wo _⟩,hd _ _ _ _ inv⟩
 ·have hi:i<xs.length:=by lia
  refine .inr ⟨⟨xs,xs[i],hq,by simp[hi]⟩,λσ2 H2=>∃ys,Pv D (i+1) ys σ2 H2,λσ2 H2 h=>⟨m-1,by lia,by lia,h⟩,?_⟩;rintro v H2 ⟨c,x,rfl,hn,hx',rfl⟩;exact hs D i x ys σ' H' c _ (hx' xs hq) inv hn (aj.upd hn) cA
end
def Cb(K:wb):R2:=λx y H Q=>∃d ds,Is K H x d/\Is K H y (.tuple ds)/\Sh 60 d/\vA (.tuple ds)=true/\Q (.bl (ds.any λe=>wR e d)) H
theorem zCQ{X:Cx}(hu:X.A.units+64<cLine):bL X (vU .In) (Cb X.K):=by
 intro pins s σ H x y v u Q I rx ry h;obtain⟨d,ds,hd,he,sd,se,q⟩:=h;obtain⟨as,h1⟩:=I.reads d x v sd.1 hd rx;obtain⟨bs,h2⟩:=I.reads (.tuple ds) y u se he ry;have sd2:=sd.2;have hm:=xI (Wl ds) d.depth;exact SeqAt.in_tuple_reads h2 h1 (by rw[vA]at se;exact se) sd.1 (by lia) ⟨.bl _,H,I,rfl,q⟩
theorem zD1(xs:List Rat)(x:Rat):((xs.map N).any λe=>wR e (N x))=decide (x∈xs):=by
 induction xs with
 | nil=>rfl
 | cons y xs ih =>
  rw[wV,W7,ih,tN]
  by_cases h:x=y
  ·subst h;simp
  ·have h':¬ y=x:=λz=>h z.symm
   simp[h,h']
theorem zAi{K:wb}{H:Hp}{Q:VK}{v w:V}{xs:List Rat}{x:Rat}(h:Is K H v (N x))(k:Is K H w (TN xs))(q:Q (.bl (decide (x∈xs))) H):Cb K v w H Q :=
 ⟨N x,xs.map N,h,k,(Z3 x).mono (by decide),by rw[vA];exact zS xs,by rw[zD1];exact q⟩
def jR(xs:List Rat)(v:Rat):wG:=.tuple [N v,TW (fQ xs v)]
theorem OI(xs:List Rat)(v:Rat):cP (jR xs v)=true:=by rw[jR,cP,bV,bV,bV,kO,sR];rfl
theorem zvY(xs:List Rat)(l:List Rat):bV (l.map (jR xs))=true:=rS _ (OI xs) l
section
variable{K:wb}{H:Hp}{Q:VK}{v w:V}{ds:List wG}{n:Nat}{l b:wg}{xs zs:List V}
theorem zAw{d:wG}(h:Is K H v d)(k:Is K H w d)(s:Sh n d)(e:n<=64)(r:wR d d=true)(q:Q (.bl true) H):jq K v w H Q:=s_ h k (s.shaped e) (s.shaped e) (by rw[r];exact q)
theorem ZJ(a b:Bool):wR (.bool a) (.bool b)=(a == b):=by rw[wR]
theorem Sv(b:Bool):Sh 1 (.bool b):=⟨by simp[vA],by simp[WO]⟩
theorem Oz{a b:Bool}(q:Q (.bl (!(a == b))) H):ko K (.bl a) (.bl b) H Q:=nW (ki.mpr rfl) (ki.mpr rfl) ((Sv a).shaped (by decide)) ((Sv b).shaped (by decide)) (by rw[ZJ];exact q)
end
theorem rL{K:wb}{H:Hp}{Q:VK}{v:V}{ds:List wG}{d:wG}(h:Is K H v (.list (ds++[d])))(q:∀x,Is K H x d->Q x H):cJ K v (.int (-1)) H Q:=by
 obtain⟨a,xs,rfl,hs,t⟩:=cf.mp h;have hl:=t.length;rw[wT,Wi]at hl;obtain⟨x,e1,hx⟩:=t.get (i:=ds.length) (d:=d) (by rw[vK (wo _),Vt];rfl);exact gJ hs (Bw (by rw[hl];exact e1)) (q x hx)
def EX(K:wb):List V->Hp->VK->Prop:=λxs H Q=>∃(p:wg)(bs:List Bool),xs=[.ref p]/\aG K H p (bs.map V.bl)/\Q (.bl (bs.any id)) H
theorem zBG:vJ "any"=some (.builtin "any"):=by decide +kernel
theorem zsF(bs:List Bool):((wq bs.length).any λi=>(bs[i]?).getD true)=bs.any id:=by
 rw[vL,u7,u7]
 constructor
 ·rintro ⟨i,hi,h⟩
  rw[wF]at hi;rw[wc hi]at h;exact⟨bs[i],vY hi,h⟩
 ·rintro ⟨b,hb,h⟩
  obtain⟨i,hi,rfl⟩:=w6 hb;exact⟨i,wF.mpr hi,by rw[wc hi];exact h⟩
open PyProof.V PySem.Calls in
theorem zvj{X:Cx}(hc:X.calm=true):bK X (.builtin "any") (EX X.K):=by
 intro pins s σ H xs us Q I r h;obtain⟨p,bs,rfl,hq,q⟩:=h;obtain⟨u,rfl,rx⟩:=ff r;cases rx;obtain⟨its,r',pl,hz⟩:=I.list hq;have hi:its=bs.map Value.bool:=TV r';have hl:s.heap.IsList p its.toArray:=pl.isList;have hlt:p<s.heap.objs.size:=by obtain⟨_,e,_⟩:=hl;exact wz e
 refine call_any_walk (V7 hl ?_)
 refine⟨s.heap.objs.size,[s.heap.objs.size,p],[s.heap.objs.size],its.toArray.size,_,_,λi=>(bs[i]?).getD true,rfl,Uo (A:=X.A.in1) (I.ok.hd hc) _ p (wL hlt) its.toArray,
  ⟨⟨_,wO _ rfl,rfl,rfl⟩,hl.push _⟩,λi v s' Q' E' hP hQ=>?_,λh' tk hk=>?_⟩
 ·have hP:its.toArray[i]? = some v:=hP
  rw[hi]at hP;simp only[Xr,wx,VE]at hP;obtain⟨b,e,rfl⟩:=hP;simp only[e,qP]at hQ;exact Wo hQ
 ·have e:((wq its.toArray.size).any λi=>(bs[i]?).getD true)=bs.any id:=by
   rw[wS,hi,wm];exact zsF bs
  rw[e];exact⟨.bl (bs.any id),H,I.kept (t':=tk) (λb x e=>hk b x (λhm=>by rw[vi.mp hm]at e;exact VU _ (wz e)) (wn _ e)),rfl,q⟩
theorem zy8{K:wb}{H:Hp}{Q:VK}{p:wg}{bs:List Bool}(h:aG K H p (bs.map V.bl))(q:Q (.bl (bs.any id)) H):EX K [.ref p] H Q:=⟨p,bs,rfl,h,q⟩
section
open PyProof.V PySem.Calls PySem.W
variable{prog:wE}{w:World}{A:w5}{E:wf->wl->Prop}{s:wl}
end
abbrev OW(h:wJ)(a:wg):wJ:=h.push {cls:=.type "tuple_iterator",data:=.fields #[.ref a,.int 0 0]}
abbrev R8(h:wJ)(a b:wg):wJ:=(OW h a).push {cls:=.type "list_iterator",data:=.fields #[.ref b,.int 0 0]}
abbrev Lq(h:wJ)(a b:wg):wJ:=(R8 h a b).push {cls:=.type "tuple",data:=.seq #[.ref h.objs.size,.ref (OW h a).objs.size]}
abbrev zM4(h:wJ)(a b:wg):wJ:=(Lq h a b).push {cls:=.type "tuple",data:=.seq #[.none,.none]}
abbrev zM5(h:wJ)(a b:wg):wJ:=(zM4 h a b).push {cls:=.type "zip",data:=.fields #[.none,.bool false,.bool false,.ref (R8 h a b).objs.size,.ref (Lq h a b).objs.size]}
section
variable{prog:wE}{w:World}{A:w5}{E:wf->wl->Prop}{s:wl}
end
section
variable{X:Cx}{x:Str}{G:wf}{b₀ : vo}{body suite:List vo}{np hpos pos:Pos}{tb:(St->XK)->TS}{th:TS}
end
theorem gG{K:wb}{H:Hp}{Q:VK}(s t:String)(r:Bool)(e:wR (.str (vT s)) (.str (vT t))=r)(q:Q (.bl r) H):jq K (.str (vT s)) (.str (vT t)) H Q :=
 s_ (d:=.str (vT s)) (e:=.str (vT t)) (cb.mpr rfl) (cb.mpr rfl) (SF s) (SF t) (by rw[e];exact q)
theorem zBu:vJ "set"=some (.type "set"):=by decide +kernel
section
variable{K:wb}{H:Hp}{Q:VK}{p:wg}{ns:List Int}
end
abbrev NA(h:wJ)(a:wg):wJ:=h.push {cls:=.type "list_iterator",data:=.fields #[.ref a,.int 0 0]}
abbrev MU(h:wJ)(a b:wg):wJ:=(NA h a).push {cls:=.type "tuple_iterator",data:=.fields #[.ref b,.int 0 0]}
abbrev SR(h:wJ)(a b:wg):wJ:=(MU h a b).push {cls:=.type "tuple",data:=.seq #[.ref h.objs.size,.ref (NA h a).objs.size]}
abbrev zN4(h:wJ)(a b:wg):wJ:=(SR h a b).push {cls:=.type "tuple",data:=.seq #[.none,.none]}
abbrev zN5(h:wJ)(a b:wg):wJ:=(zN4 h a b).push {cls:=.type "zip",data:=.fields #[.none,.bool false,.bool false,.ref (MU h a b).objs.size,.ref (SR h a b).objs.size]}
section
variable{prog:wE}{w:World}{A:w5}{E:wf->wl->Prop}{s:wl}
end
end L2
namespace TB
open PySem
def j4(xs:Array Nat):Prop:=∀i j,i<j->j<xs.size->xs.getD i 0<xs.getD j 0
theorem zyp{xs:Array Nat}{i:Nat}(h:i<xs.size)(d e:Nat):xs.getD i d=xs.getD i e:=by
 simp[Up,h]
theorem FW(xs:Array Nat)(j:Nat)(R:j4 xs):∀(fuel lo hi:Nat),hi<=xs.size->lo<=hi->hi-lo<=fuel->(∀k,k<lo->xs.getD k 0<j)->(∀k,hi<=k->k<xs.size->j<=xs.getD k 0) ->
  (QF xs j fuel lo hi<=xs.size/\(∀k,k<QF xs j fuel lo hi->xs.getD k 0<j)/\(∀k,QF xs j fuel lo hi<=k->k<xs.size->j<=xs.getD k 0))
 | 0,lo,hi,h1,h2,h3,a,b=>by
  have:lo=hi:=by lia
  subst this;exact⟨h1,a,b⟩
 | fuel+1,lo,hi,h1,h2,h3,a,b=>by
  unfold QF
  by_cases c:lo<hi
  ·rw[if_pos c]
   have m1:(lo+hi) / 2<hi:=by lia
   have m2:lo<=(lo+hi) / 2:=by lia
   dsimp only;rw[zyp (wW m1 h1) j 0]
   by_cases d:xs.getD ((lo+hi) / 2) 0<j
   ·rw[if_pos d]
    refine FW xs j R fuel _ hi h1 m1 (by lia) (λk hk=>?_) b;rcases wB k ((lo+hi) / 2)with q | q
    ·exact X1 (R k _ q (by lia)) d
    ·have:k=(lo+hi) / 2:=by lia
     rw[this];exact d
   ·rw[if_neg d]
    refine FW xs j R fuel lo _ (by lia) m2 (by lia) a (λk hk hk'=>?_);rcases Vm hk with q | q
    ·rw[<- q];lia
    ·have:=R _ k q hk';lia
  ·rw[if_neg c]
   have:lo=hi:=by lia
   subst this;exact⟨h1,a,b⟩
theorem Pe{xs:Array Nat}(R:j4 xs)(j:Nat):WR xs j<=xs.size/\(∀k,k<WR xs j->xs.getD k 0<j)/\(∀k,WR xs j<=k->k<xs.size->j<=xs.getD k 0) :=
 FW xs j R xs.size 0 xs.size (wo _) (Wy _) (by lia) (λk h=>absurd h (WN k)) (λk h h'=>absurd h' (by lia))
theorem zEi{xs:Array Nat}{i:Nat}(h:i<xs.size):xs[i]? = some (xs.getD i 0):=by simp[Up,h]
theorem JE{t:WH}(R:j4 t.place)(D:t.dummies = #[])(j:Nat) :
  (∃i,i<t.place.size/\t.place.getD i 0=j/\t.slot j=.live i)\/((∀i,i<t.place.size->t.place.getD i 0≠j)/\t.slot j=.empty):=by
 obtain⟨h1,h2,h3⟩:=Pe R j;unfold SetTable.slot;dsimp only;have hd:ua t.dummies j=false:=by rw[D];rfl
 rw[hd];rcases wB (WR t.place j) t.place.size with q | q
 ·rw[zEi q]
  by_cases e:t.place.getD (WR t.place j) 0=j
  ·exact .inl ⟨_,q,e,by simp[e]⟩
  ·refine .inr ⟨λi hi he=>?_,by generalize t.place.getD (WR t.place j) 0=z at e;simp[e]⟩
   rcases wB i (WR t.place j)with a | a
   ·have:=h2 i a;lia
   ·rcases Vm a with b | b
    ·rw[<- b]at he;exact e he
    ·have:=R _ i b hi
     have:=h3 _ (wo _) q
     lia
 ·have:t.place[WR t.place j]? = none:=VH q
  rw[this];refine .inr ⟨λi hi he=>?_,by simp⟩;have:=h2 i (by lia);lia
def g(x:Nat):Nat:=x*5+1
def it(n x:Nat):Nat:=match n with | 0=>x | n+1=>g (it n x)
def s:Nat->Nat | 0=>0 | n+1=>5*s n+1
theorem Ku(n:Nat):5^n=4*s n+1:=by
 induction n with
 | zero=>rfl
 | succ n ih=>rw[W4,ih];show _=4*(5*s n+1)+1;lia
theorem zDB(n x:Nat):it n x=5^n*x+s n:=by
 induction n with
 | zero=>show x=5^0*x+0;simp
 | succ n ih =>
  show g (it n x)=5^(n+1)*x+(5*s n+1)
  rw[ih,W4];unfold g;rw[Va,uw (5^n) 5 x];lia
theorem zBV(m n x:Nat):it (m+n) x=it m (it n x):=by
 induction m with
 | zero=>rw[Nat.zero_add];rfl
 | succ m ih=>rw[Nat.succ_add];show g (it (m+n) x)=g (it m (it n x));rw[ih]
theorem Zl(m n:Nat):s (m+n)=5^m*s n+s m:=by
 induction m with
 | zero=>simp[s]
 | succ m ih =>
  rw[Nat.succ_add]
  show 5*s (m+n)+1=5^(m+1)*s n+(5*s m+1)
  rw[ih,W4,Va,uw (5^m) 5];lia
theorem zDV(k:Nat):∃o,s (2^k)=2^k*(2*o+1):=by
 induction k with
 | zero=>exact⟨0,rfl⟩
 | succ k ih =>
  obtain⟨o,ho⟩:=ih
  have e:s (2^(k+1))=2^(k+1)*((2*o+1)*(2*s (2^k)+1)):=by
   have:2^(k+1)=2^k+2^k:=by rw[W4];lia
   rw[this,Zl,Ku];generalize hs:s (2^k)=S at *
   have h2:(2^k+2^k)*((2*o+1)*(2*S+1))=2*(2^k*(2*o+1))*(2*S+1):=by
    rw[<- Nat.two_mul,<- Va,Va 2]
   rw[h2,<- ho];generalize S*S=z at *;have:(4*S+1)*S=4*(S*S)+S:=by rw[uJ,Va,uK]
   rw[this]
   have:2*S*(2*S+1)=4*(S*S)+2*S:=by
    rw[Xe,Nat.mul_one,Nat.mul_mul_mul_comm]
   rw[this];lia
  refine⟨o*(2*s (2^k)+1)+s (2^k),?_⟩;rw[e]
  congr 1
  rw[uJ,uK,Va]
  lia
theorem zDO(M c a:Nat):(4*(M*c)+1)*a+M*c=a+M*(c*(4*a+1)):=by
 rw[uJ,uK,Xe c,Nat.mul_one,Xe M];have:4*(M*c)*a=M*(c*(4*a)):=by rw[Qr 4,Va,Va]
 lia
theorem Zc(k:Nat):∀x y:Nat,∃n,n<2^k/\it n x % 2^k=y % 2^k:=by
 induction k with
 | zero=>intro x y;exact⟨0,by decide,by simp[Nat.mod_one]⟩
 | succ k ih =>
  intro x y;obtain⟨n,hn,e⟩:=ih x y;have hp:0<2^k:=Nat.pow_pos (by decide);have h2:2^(k+1)=2^k*2:=W4 ..;obtain⟨o,ho⟩:=zDV k;generalize hM:2^k=M at *;rw[h2]
  by_cases c:it n x / M % 2=y / M % 2
  ·refine⟨n,by lia,?_⟩
   rw[Xi,Xi,e,c]
  ·refine⟨M+n,by lia,?_⟩
   rw[zBV,zDB,Ku,ho];generalize it n x=a at *;rw[zDO,Xi,Xi,Nat.add_mul_mod_self_left,e,Nat.add_mul_div_left _ _ hp]
   have:(2*o+1)*(4*a+1) % 2=1:=by
    rw[uL];have h1:(2*o+1) % 2=1:=by lia
    have h2:(4*a+1) % 2=1:=by lia
    rw[h1,h2]
   congr 2
   lia
open SetTable (Probe leap runEnd bits turns)
variable{i j mask n p:Nat}{t:WH}{hs:List Int}{α:Type}{ow:Array (Option Nat)}
def g_(mask:Nat)(p:Probe):Probe :=
 if p.more > 0 then {p with j:=p.j+1,more:=p.more-1}else
 {p with j:=(leap mask p.i p.perturb).1,more:=runEnd mask (leap mask p.i p.perturb).1-(leap mask p.i p.perturb).1,i:=(leap mask p.i p.perturb).1,perturb:=(leap mask p.i p.perturb).2}
def way(mask:Nat)(p:Probe):Nat->Probe | 0=>p | n+1=>g_ mask (way mask p n)
def g9(mask i b:Nat):Probe:={j:=i,more:=runEnd mask i-i,i:=i,perturb:=b,dummy:=none}
def start(mask:Nat)(h:Int):Probe:=g9 mask (bits h % (mask+1)) (bits h)
def lp(mask i b:Nat):Nat->Nat × Nat | 0=>(i,b) | n+1=>leap mask (lp mask i b n).1 (lp mask i b n).2
theorem AF(mask:Nat)(p:Probe)(m:Nat):∀n,way mask p (m+n)=way mask (way mask p m) n
 | 0=>rfl
 | n+1=>by show g_ mask (way mask p (m+n))=g_ mask (way mask (way mask p m) n);rw[AF mask p m n]
theorem MS(mask:Nat)(p:Probe):∀n,(way mask p n).dummy=p.dummy
 | 0=>rfl
 | n+1=>by
  show(g_ mask (way mask p n)).dummy=p.dummy
  rw[<- MS mask p n];unfold g_;split<;>rfl
theorem p5(mask i b:Nat):∀n,n<=runEnd mask i-i->way mask (g9 mask i b) n = {j:=i+n,more:=runEnd mask i-i-n,i:=i,perturb:=b,dummy:=none}
 | 0,_=>rfl
 | n+1,h=>by
  show g_ mask (way mask (g9 mask i b) n)=_
  rw[p5 mask i b n (by lia)];unfold g_;dsimp only;rw[if_pos (by lia)]
  congr 1
theorem Bz(mask i b:Nat):way mask (g9 mask i b) (runEnd mask i-i+1)=g9 mask (leap mask i b).1 (leap mask i b).2:=by
 show g_ mask (way mask (g9 mask i b) (runEnd mask i-i))=_
 rw[p5 mask i b _ (wo _)];unfold g_;dsimp only;rw[if_neg (by lia)]
 rfl
theorem zCL(mask i:Nat):runEnd mask i-i<=9:=by unfold runEnd;split<;>lia
theorem Mi(mask i b:Nat):∀m,∃n,n<=10*m/\way mask (g9 mask i b) n=g9 mask (lp mask i b m).1 (lp mask i b m).2
 | 0=>⟨0,wo _,rfl⟩
 | m+1=>by
  obtain⟨n,hn,e⟩:=Mi mask i b m;have:=zCL mask (lp mask i b m).1;refine⟨n+(runEnd mask (lp mask i b m).1-(lp mask i b m).1+1),by lia,?_⟩;rw[AF,e,Bz];rfl
theorem JO(mask i b:Nat):∀n,(lp mask i b n).2=b / 32^n
 | 0=>by simp[lp]
 | n+1=>by
  show(lp mask i b n).2 / 32=_
  rw[JO mask i b n,W4,Xj]
theorem Th(mask i b c:Nat)(h:b / 32^c=0):∀n,(lp mask i b (c+1+n)).1=it n (lp mask i b (c+1)).1 % (mask+1)
 | 0=>by
  show(lp mask i b (c+1)).1=(lp mask i b (c+1)).1 % (mask+1)
  show _ % _=_ % _ % _
  rw[Nat.mod_mod]
 | n+1=>by
  show((lp mask i b (c+1+n)).1*5+1+(lp mask i b (c+1+n)).2 / 32) % (mask+1)=g (it n _) % _
  have:(lp mask i b (c+1+n)).2 / 32=0:=by
   rw[JO]
   have:b / 32^(c+1+n)=0:=by
    rw[VW,xb,<- Xj,h,Nat.zero_div]
   rw[this]
  rw[this,Th mask i b c h n];unfold g;rw[X3,Nat.add_mod,uL,Nat.mod_mod,<- uL,<- Nat.add_mod]
theorem Mf(h:Int):bits h<2^64:=by unfold bits;lia
theorem N4{k:Nat}(hm:mask+1=2^k){b:Nat}(hb:b<2^64)(hj:j<=mask):∃m,m<=mask+14/\(lp mask i b m).1=j:=by
 have h0:b / 32^13=0:=Nat.div_eq_of_lt (wW hb (by decide));obtain⟨n,hn,e⟩:=Zc k (lp mask i b 14).1 j;refine⟨13+1+n,by lia,?_⟩;rw[Th mask i b 13 h0,hm,e,QM (by lia)]
theorem zvq{k:Nat}(hm:mask+1=2^k){b:Nat}(hb:b<2^64)(hj:j<=mask):∃n,n<10*turns mask/\(way mask (g9 mask i b) n).j=j:=by
 obtain⟨m,hm',e⟩:=N4 hm (i:=i) hb hj;obtain⟨n,hn,e'⟩:=Mi mask i b m;refine⟨n,by unfold turns;lia,?_⟩;rw[e'];exact e
theorem BP(h:i<=mask):i<=runEnd mask i/\runEnd mask i<=mask:=by unfold runEnd;split<;>lia
theorem Pl{mask:Nat}{p:Probe}(h:p.j+p.more<=mask):∀n,(way mask p n).j+(way mask p n).more<=mask
 | 0=>h
 | n+1=>by
  have ih:=Pl h n
  show(g_ mask (way mask p n)).j+(g_ mask (way mask p n)).more<=mask
  unfold g_
  split
  ·dsimp only;lia
  ·dsimp only
   have:(leap mask (way mask p n).i (way mask p n).perturb).1<=mask:=by
    unfold leap;dsimp only;exact V5 (Qw _ (QX _))
   have:=BP this
   lia
theorem zyS(mask:Nat)(h:Int)(n:Nat):(way mask (start mask h) n).j<=mask:=by
 have h1:bits h % (mask+1)<=mask:=V5 (Qw _ (QX _));have h2:=BP h1;have:=Pl (mask:=mask) (p:=start mask h) (by unfold start g9;dsimp only;lia) n
 lia
def In(t:WH)(j:Nat):Prop:=∃i,i<t.place.size/\t.place.getD i 0=j
structure Tb(t:WH)(hs:List Int):Prop where
 jg:j4 t.place
 size:t.place.size=hs.length
 m4:t.dummies = #[]
 two:∃k,3<=k/\t.mask+1=2^k
 le:∀i,i<t.place.size->t.place.getD i 0<=t.mask
 room:t.place.size<=t.mask
 path:∀i,i<t.place.size->∃n,(way t.mask (start t.mask (hs.getD i 0)) n).j=t.place.getD i 0 /\ ∀m,m<n->In t (way t.mask (start t.mask (hs.getD i 0)) m).j
theorem zD2{P:Nat->Prop}(h:P n):∃m,m<=n/\P m /\ ∀k,k<m->¬ P k:=by
 induction n using Nat.strongRecOn with
 | _ n ih =>
  by_cases c:∃k,k<n/\P k
  ·obtain⟨k,hk,hp⟩:=c
   obtain⟨m,h1,h2,h3⟩:=ih k hk hp;exact⟨m,by lia,h2,h3⟩
  ·exact⟨n,wo _,h,λk hk hp=>c ⟨k,hk,hp⟩⟩
theorem DJ{xs:Array Nat}(R:j4 xs)(hi:i<xs.size)(hj:j<xs.size)(e:xs.getD i 0=xs.getD j 0):i=j:=by
 rcases W1 i j with q | q | q
 ·have:=R i j q hj;lia
 ·exact q
 ·have:=R j i q hi;lia
theorem JM{t:WH}(R:j4 t.place):∀j,(∀j',j'<=j->In t j')->∃i,i<t.place.size/\t.place.getD i 0=j/\j<=i
 | 0,h=>by obtain⟨i,hi,e⟩:=h 0 (wo _);exact⟨i,hi,e,Wy _⟩
 | j+1,h=>by
  obtain⟨i,hi,e,hle⟩:=JM R j λj' hj'=>h j' (by lia)
  obtain⟨i',hi',e'⟩:=h (j+1) (wo _);refine⟨i',hi',e',?_⟩;rcases W1 i i' with q | q | q
  ·lia
  ·subst q;lia
  ·have:=R i' i q hi;lia
theorem Tb.gap(b:Tb t hs):∃j,j<=t.mask /\ ¬ In t j:=by
 refine qb λc=>?_
 obtain⟨i,hi,e,hle⟩:=JM b.jg t.place.size λj' hj'=>qb λd=>c ⟨j',Wb hj' b.room,d⟩
 lia
theorem Tb.free(b:Tb t hs)(h:Int):∃n,n<10*turns t.mask /\ ¬ In t (way t.mask (start t.mask h) n).j /\ ∀m,m<n->In t (way t.mask (start t.mask h) m).j:=by
 obtain⟨j,hj,hn⟩:=b.gap;obtain⟨k,_,hk⟩:=b.two;obtain⟨n,hn',e⟩:=zvq hk (i:=bits h % (t.mask+1)) (Mf h) hj;obtain⟨m,h1,h2,h3⟩:=zD2 (P:=λn=>¬ In t (way t.mask (start t.mask h) n).j) (n:=n) (by show ¬ In t _;unfold start;rw[e];exact hn);exact⟨m,by lia,h2,λk hk=>qb (h3 k hk)⟩
theorem Om{t:WH}(R:j4 t.place)(D:t.dummies = #[])(hashAt:Nat->Int)(h:Int){p:Probe}(dm:p.dummy=none){n0:Nat}(hE:¬ In t (way t.mask p n0).j)(hF:∀m,m<n0->In t (way t.mask p m).j) :
  ∀fuel n,n<=n0->n0-n<fuel ->
   (∃m i,n<=m/\m<n0/\i<t.place.size/\t.place.getD i 0=(way t.mask p m).j/\hashAt i=h/\(∀k,n<=k->k<m->∀i',i'<t.place.size->t.place.getD i' 0=(way t.mask p k).j->hashAt i'≠h) /\
    xB t hashAt h fuel (way t.mask p n)=some (.candidate (way t.mask p m).j i (way t.mask p (m+1)))) \/
   ((∀k,n<=k->k<n0->∀i',i'<t.place.size->t.place.getD i' 0=(way t.mask p k).j->hashAt i'≠h) /\
    xB t hashAt h fuel (way t.mask p n)=some (.empty (way t.mask p n0).j none))
 | 0,n,_,hf=>absurd hf (WN _)
 | fuel+1,n,hn,hf=>by
  unfold xB;rcases JE R D (way t.mask p n).j with⟨i,hi,e,es⟩ | ⟨no,es⟩
  ·rw[es]
   dsimp only
   have hlt:n<n0:=by
    rcases wB n n0 with q | q
    ·exact q
    ·have:n=n0:=by lia
     subst this;exact absurd ⟨i,hi,e⟩ hE
   by_cases c:hashAt i=h
   ·rw[if_pos (by simpa using c)]
    exact .inl ⟨n,i,wo _,hlt,hi,e,c,λk h1 h2=>absurd h1 (by lia),rfl⟩
   ·rw[if_neg (by simpa using c)]
    have here:∀i',i'<t.place.size->t.place.getD i' 0=(way t.mask p n).j->hashAt i'≠h:=λi' hi' e'=>by
     rw[DJ R hi' hi (e'.trans e.symm)];exact c
    rcases Om R D hashAt h dm hE hF fuel (n+1) hlt (by lia)with⟨m,i2,a1,a2,a3,a4,a5,a6,a7⟩ | ⟨a1,a2⟩
    ·refine .inl ⟨m,i2,by lia,a2,a3,a4,a5,λk h1 h2 i' hi' e'=>?_,a7⟩
     rcases Vm h1 with q | q
     ·subst q;exact here i' hi' e'
     ·exact a6 k q h2 i' hi' e'
    ·refine .inr ⟨λk h1 h2 i' hi' e'=>?_,a2⟩
     rcases Vm h1 with q | q
     ·subst q;exact here i' hi' e'
     ·exact a1 k q h2 i' hi' e'
  ·rw[es]
   dsimp only
   have:n=n0:=by
    rcases wB n n0 with q | q
    ·obtain⟨i,hi,e⟩:=hF n q
     exact absurd e (no i hi)
    ·lia
   subst this;refine .inr ⟨λk h1 h2=>absurd h1 (by lia),?_⟩;rw[MS,dm]
def d7{α : Type}(l:List α)(p:Nat)(x : α):List α:=l.take p++x::l.drop p
theorem zJ{l:List α}(x : α)(hp:p<=l.length)(i:Nat):(d7 l p x)[i]? = if i<p then l[i]? else if i=p then some x else l[i-1]?:=by
 unfold d7;have hl:(l.take p).length=p:=by rw[Wu];lia
 by_cases a:i<p
 ·rw[if_pos a,Wc (by lia),xH a]
 ·rw[if_neg a,vK (by lia),hl]
  by_cases b:i=p
  ·rw[if_pos b,b,Vt];rfl
  ·rw[if_neg b]
   have:i-p=(i-1-p)+1:=by lia
   rw[this,QC,xj]
   congr 1;lia
theorem pF{l:List α}(x : α)(hp:p<=l.length):(d7 l p x).length=l.length+1:=by
 unfold d7;rw[wT,Wu,vx,vW];lia
theorem rn(xs:Array α)(p:Nat)(x : α):(Wz xs p x).toList=d7 xs.toList p x:=by
 unfold Wz d7;simp;exact W5 (by simp)
theorem nM{xs:Array Nat}(x:Nat)(hp:p<=xs.size)(i:Nat):(Wz xs p x).getD i 0=if i<p then xs.getD i 0 else if i=p then x else xs.getD (i-1) 0:=by
 rw[vF,<- WL,rn,zJ x (by simpa using hp)]
 split
 ·rw[vF,<- WL]
 ·split
  ·rfl
  ·rw[vF,<- WL]
theorem To{xs:Array Nat}(x:Nat)(hp:p<=xs.size):(Wz xs p x).size=xs.size+1:=by
 rw[<- wI,rn,pF x (by simpa using hp),wI]
theorem zvG{l:List Int}(x:Int)(hp:p<=l.length)(i:Nat):(d7 l p x).getD i 0=if i<p then l.getD i 0 else if i=p then x else l.getD (i-1) 0:=by
 rw[wa,zJ x hp]
 split
 ·rw[wa]
 ·split
  ·rfl
  ·rw[wa]
theorem Tb.put(b:Tb t hs){h:Int}(hE:¬ In t (way t.mask (start t.mask h) n).j)(hF:∀m,m<n->In t (way t.mask (start t.mask h) m).j)(hr:t.place.size+1<=t.mask) :
  (t.put (way t.mask (start t.mask h) n).j).2<=hs.length/\Tb (t.put (way t.mask (start t.mask h) n).j).1 (d7 hs (t.put (way t.mask (start t.mask h) n).j).2 h):=by
 generalize hj:(way t.mask (start t.mask h) n).j=j at *;have hjm:j<=t.mask:=by rw[<- hj];exact zyS t.mask h n
 obtain⟨q1,q2,q3⟩:=Pe b.jg j;have hd:ua t.dummies j=false:=by rw[b.m4];rfl
 have e2:(t.put j).2=WR t.place j:=rfl;have ep:(t.put j).1.place=Wz t.place (WR t.place j) j:=rfl;have em:(t.put j).1.mask=t.mask:=rfl
 have edm:(t.put j).1.dummies = #[]:=by
  show(if ua t.dummies j=true then _ else t.dummies)=_
  rw[hd];exact b.m4
 rw[e2];generalize WR t.place j=p at *;have hp:p<=hs.length:=by rw[<- b.size];exact q1
 have inn:∀x,In t x->In (t.put j).1 x:=λx ⟨i,hi,e⟩=>by
  unfold In;rw[ep,To j q1];rcases wB i p with a | a
  ·exact⟨i,by lia,by rw[nM j q1,if_pos a];exact e⟩
  ·exact⟨i+1,by lia,by rw[nM j q1,if_neg (by lia),if_neg (by lia)];exact e⟩
 have ns:(t.put j).1.place.size=t.place.size+1:=by rw[ep,To j q1]
 have gt:∀k,p<=k->k<t.place.size->j<t.place.getD k 0:=λk h1 h2=>by
  have:=q3 k h1 h2;have:t.place.getD k 0≠j:=λe=>hE ⟨k,h2,e⟩
  lia
 refine⟨hp,⟨?_,?_,edm,em ▸ b.two,?_,?_,?_⟩⟩
 ·intro i k hik hk
  rw[ns]at hk;rw[ep,nM j q1,nM j q1]
  by_cases a:k<p
  ·rw[if_pos (by lia),if_pos a];exact b.jg i k hik (by lia)
  ·rw[if_neg a]
   by_cases c:k=p
   ·rw[if_pos c,if_pos (by lia)];exact q2 i (by lia)
   ·rw[if_neg c]
    by_cases d:i<p
    ·rw[if_pos d];exact X1 (q2 i d) (gt (k-1) (by lia) (by lia))
    ·rw[if_neg d]
     by_cases f:i=p
     ·rw[if_pos f];exact gt (k-1) (by lia) (by lia)
     ·rw[if_neg f];exact b.jg (i-1) (k-1) (by lia) (by lia)
 ·rw[ns,pF h hp,b.size]
 ·intro i hi
  rw[ns]at hi;rw[ep,nM j q1,em]
  split
  ·exact b.le i (by lia)
  ·split
   ·exact hjm
   ·exact b.le (i-1) (by lia)
 ·rw[ns,em];exact hr
 ·intro i hi
  rw[ns]at hi;rw[ep,nM j q1,em,zvG h hp]
  split
  ·obtain⟨m,h1,h2⟩:=b.path i (by lia)
   exact⟨m,h1,λk hk=>inn _ (h2 k hk)⟩
  ·split
   ·exact⟨n,hj,λk hk=>inn _ (hF k hk)⟩
   ·obtain⟨m,h1,h2⟩:=b.path (i-1) (by lia)
    exact⟨m,h1,λk hk=>inn _ (h2 k hk)⟩
structure Ow(mask:Nat)(ow:Array (Option Nat))(hs:List Int):Prop where
 size:ow.size=mask+1
 cnt:ow.toList.countP UL=hs.length
 inj:∀j j' k,ow.getD j none=some k->ow.getD j' none=some k->j=j'
 lt:∀j k,ow.getD j none=some k->k<hs.length
 has:∀k,k<hs.length->∃j,ow.getD j none=some k
 path:∀k j,ow.getD j none=some k->∃n,(way mask (start mask (hs.getD k 0)) n).j=j /\ ∀m,m<n->ow.getD (way mask (start mask (hs.getD k 0)) m).j none≠none
theorem Rx(mask i b:Nat):∀m,lp mask i b (m+1)=lp mask (leap mask i b).1 (leap mask i b).2 m
 | 0=>rfl
 | m+1=>by
  show leap mask (lp mask i b (m+1)).1 (lp mask i b (m+1)).2=leap mask (lp mask (leap mask i b).1 (leap mask i b).2 m).1 _
  rw[Rx mask i b m]
theorem CA(h:j<ow.size)(d e:Option Nat):ow.getD j d=ow.getD j e:=by simp[Up,h]
theorem Oh{mask:Nat}{ow:Array (Option Nat)}(hz:ow.size=mask+1):∀fuel i b,i<=mask->(∃m,m<fuel/\ow.getD (lp mask i b m).1 none=none/\(lp mask i b m).1<=mask) ->
  ∃j n,W6 mask ow fuel i b=some j/\(way mask (g9 mask i b) n).j=j/\j<=mask/\ow.getD j none=none /\ ∀m,m<n->ow.getD (way mask (g9 mask i b) m).j none≠none
 | 0,i,b,_,⟨m,h,_⟩=>absurd h (WN _)
 | fuel+1,i,b,hi,⟨m,hm,hn,hle⟩=>by
  unfold W6;have hr:=BP hi;cases hf:(wq (runEnd mask i+1-i)).find? λk=>(ow.getD (i+k) (some 0)).isNone with
  | some k =>
   rw[List.find?_range_eq_some]at hf;obtain⟨h1,h2,h3⟩:=hf;have h2:k<runEnd mask i+1-i:=by simpa using h2
   refine⟨i+k,k,rfl,?_,by lia,?_,λm hm=>?_⟩
   ·rw[p5 mask i b k (by lia)]
   ·rw[CA (by lia) none (some 0)];simpa using h1
   ·rw[p5 mask i b m (by lia)]
    have:=h3 m hm
    show ow.getD (i+m) none≠none
    rw[CA (by lia) none (some 0)];intro e;rw[e]at this;exact absurd this (by decide)
  | none =>
   rw[List.find?_range_eq_none]at hf
   have all:∀k,k<=runEnd mask i-i->ow.getD (i+k) none≠none:=λk hk e=>by
    have:=hf k (by lia);rw[CA (by lia) (some 0) none,e]at this;exact absurd this (by decide)
   cases m with
   | zero=>exact absurd hn (all 0 (Wy _))
   | succ m =>
    rw[Rx]at hn hle;have hi':(leap mask i b).1<=mask:=by unfold leap;dsimp only;exact V5 (Qw _ (QX _))
    obtain⟨j,n,e1,e2,e3,e4,e5⟩:=Oh hz fuel (leap mask i b).1 (leap mask i b).2 hi' ⟨m,by lia,hn,hle⟩;refine⟨j,runEnd mask i-i+1+n,e1,by rw[AF,Bz];exact e2,e3,e4,λm' hm'=>?_⟩;rcases wB m' (runEnd mask i-i+1)with q | q
    ·rw[p5 mask i b m' (by lia)];exact all m' (by lia)
    ·have:m'=runEnd mask i-i+1+(m'-(runEnd mask i-i+1)):=by lia
     rw[this,AF,Bz];exact e5 _ (by lia)
theorem Ow.gap(o:Ow mask ow hs)(h:hs.length<=mask):∃j,j<=mask/\ow.getD j none=none:=by
 refine qb λc=>?_
 have:ow.toList.countP UL=ow.toList.length:=List.countP_eq_length.mpr λa ha=>by
  obtain⟨j,hj,e⟩:=w6 ha;rw[wI,o.size]at hj;cases a with
  | some _=>rfl
  | none =>
   refine absurd ⟨j,by lia,?_⟩ c;rw[vF,<- WL,wc (by rw[wI,o.size];exact hj),e]
   rfl
 have h2:ow.toList.length=mask+1:=by rw[wI,o.size]
 have:=o.cnt
 lia
theorem zxS(h:j<ow.size)(v:Option Nat)(x:Nat):(ow.setIfInBounds j v).getD x none=if x=j then v else ow.getD x none:=by
 rw[vF,Array.getElem?_setIfInBounds]
 by_cases e:j=x
 ·subst e;rw[if_pos rfl,if_pos rfl,if_pos h];rfl
 ·rw[if_neg e,if_neg (λq=>e q.symm),vF]
theorem Ow.step{k:Nat}(hm:mask+1=2^k)(o:Ow mask ow hs)(hl:hs.length<=mask)(h:Int) :
  ∃j,W6 mask ow (turns mask) (bits h % (mask+1)) (bits h)=some j/\Ow mask (ow.setIfInBounds j (some hs.length)) (hs++[h]):=by
 obtain⟨j0,hj0,e0⟩:=o.gap hl;obtain⟨m,hm',em⟩:=N4 hm (i:=bits h % (mask+1)) (Mf h) hj0;obtain⟨j,n,e1,e2,e3,e4,e5⟩:=Oh o.size (turns mask) (bits h % (mask+1)) (bits h) (V5 (Qw _ (QX _))) ⟨m,by unfold turns;lia,by rw[em];exact e0,by rw[em];exact hj0⟩;have hjs:j<ow.size:=by rw[o.size];lia
 have G:=zxS hjs (some hs.length);have hlen:(hs++[h]).length=hs.length+1:=by simp
 have old:∀k,k<hs.length->(hs++[h]).getD k 0=hs.getD k 0:=λk hk=>by
  rw[wa,wa,Wc hk]
 refine⟨j,e1,⟨by simpa using o.size,?_,?_,?_,?_,?_⟩⟩
 ·rw[Array.toList_setIfInBounds,List.countP_set (by simpa using hjs),o.cnt,hlen]
  have:ow.toList[j]'(by simpa using hjs)=none:=by
   rw[vF,Wd hjs]at e4
   simpa using e4
  simp[this]
 ·intro x x' k h1 h2
  rw[G]at h1 h2
  split at h1
  ·split at h2
   ·rename_i a b;rw[a,b]
   ·have:=o.lt _ _ h2;have:=wN h1;lia
  ·split at h2
   ·have:=o.lt _ _ h1;have:=wN h2;lia
   ·exact o.inj _ _ _ h1 h2
 ·intro x k h1
  rw[G]at h1;rw[hlen]
  split at h1
  ·have:=wN h1;lia
  ·have:=o.lt _ _ h1;lia
 ·intro k hk
  rw[hlen]at hk;rcases wB k hs.length with q | q
  ·obtain⟨x,hx⟩:=o.has k q
   refine⟨x,?_⟩;rw[G,if_neg]
   ·exact hx
   ·intro e;rw[e,e4]at hx;cases hx
  ·refine⟨j,?_⟩
   rw[G,if_pos rfl];congr 1;lia
 ·intro k x h1
  rw[G]at h1
  have keep:∀y,ow.getD y none≠none->(ow.setIfInBounds j (some hs.length)).getD y none≠none:=λy hy=>by
   rw[G];split
   ·exact λz=>nomatch z
   ·exact hy
  split at h1
  ·rename_i ex
   have ek:k=hs.length:=(wN h1).symm;have:(hs++[h]).getD k 0=h:=by rw[ek,wa,vK (wo _),Vt];rfl
   rw[this,ex];exact⟨n,e2,λm hm=>keep _ (e5 m hm)⟩
  ·rw[old k (o.lt _ _ h1)]
   obtain⟨n',a1,a2⟩:=o.path k x h1;exact⟨n',a1,λm hm=>keep _ (a2 m hm)⟩
theorem Ow.nil(mask:Nat):Ow mask (Uq (mask+1) none) []:=by
 have G:∀j,(Uq (mask+1) (none:Option Nat)).getD j none=none:=λj=>by
  rw[vF,Array.getElem?_replicate];split<;>rfl
 refine⟨by simp,?_,λj j' k h=>?_,λj k h=>?_,λk h=>absurd h (WN _),λk j h=>?_⟩
 ·rw[Array.toList_replicate,List.countP_replicate];rfl
 all_goals(rw[G]at h;cases h)
theorem TL{mask k:Nat}(hm:mask+1=2^k):∀(l:List Int)(ow:Array (Option Nat))(hs:List Int),Ow mask ow hs->hs.length+l.length<=mask+1 ->
  ∃ow',(l.foldl (init:=some (ow,hs.length)) λ(acc:Option (Array (Option Nat) × Nat)) h=>do
   let (owner,k) <- acc
   let j <- W6 mask owner (turns mask) (bits h % (mask+1)) (bits h)
   pure (owner.setIfInBounds j (some k),k+1))=some (ow',hs.length+l.length)/\Ow mask ow' (hs++l)
 | [],ow,hs,o,_=>⟨ow,rfl,by rw[vP];exact o⟩
 | h::l,ow,hs,o,hl=>by
  rw[vx]at hl;obtain⟨j,e,o'⟩:=o.step hm (by lia) h;have hlen:(hs++[h]).length=hs.length+1:=by simp
  obtain⟨ow',e',o''⟩:=TL hm l _ _ o' (by lia);refine⟨ow',?_,by rw[V1]at o'';exact o''⟩;rw[List.foldl_cons]
  have:(do
   let (owner,k) <- some (ow,hs.length)
   let j <- W6 mask owner (turns mask) (bits h % (mask+1)) (bits h)
   pure (owner.setIfInBounds j (some k),k+1):Option (Array (Option Nat) × Nat))=some (ow.setIfInBounds j (some hs.length),hs.length+1):=by
   show(W6 mask ow (turns mask) (bits h % (mask+1)) (bits h) >>= _)=_
   rw[e];rfl
  rw[this,<- hlen,e',hlen,vx]
  congr 2;lia
theorem zBT{k:Nat}(hm:mask+1=2^k){hs:Array Int}(hl:hs.size<=mask+1):∃ow,uz mask hs=some ow/\Ow mask ow hs.toList:=by
 obtain⟨ow,e,o⟩:=TL hm hs.toList _ [] (Ow.nil mask) (by simpa using hl);refine⟨ow,?_,by simpa using o⟩;unfold uz;rw[<- Array.foldl_toList];have:=congrArg (U0 (·.1)) e;exact this
def live(mask:Nat)(ow:Array (Option Nat)):List (Nat × Nat):=(wq (mask+1)).filterMap λj=>(ow.getD j none).map (j,·)
theorem pG(hz:ow.size=mask+1){k:Nat} : (j,k)∈live mask ow ↔ ow.getD j none=some k:=by
 unfold live;rw[Qj]
 constructor
 ·rintro ⟨x,_,e⟩
  cases h:ow.getD x none with
  | none=>rw[h]at e;cases e
  | some y=>rw[h]at e;cases e;exact h
 ·intro h
  refine⟨j,?_,by rw[h];rfl⟩;rw[wF];rcases wB j (mask+1)with q | q
  ·exact q
  ·rw[vF,VH (by lia)]at h;cases h
theorem PX(o:Ow mask ow hs):(live mask ow).Pairwise λx y=>x.1<y.1/\x.2≠y.2:=by
 unfold live;rw[List.pairwise_filterMap];refine UV ?_ List.pairwise_lt_range;intro a b _ _ hab x hx y hy;cases h1:ow.getD a none with
 | none=>rw[h1]at hx;cases hx
 | some u =>
  cases h2:ow.getD b none with
  | none=>rw[h2]at hy;cases hy
  | some v =>
   rw[h1]at hx;rw[h2]at hy;cases hx;cases hy;refine⟨hab,λe=>?_⟩;have:u=v:=e;subst this;have:=o.inj _ _ _ h1 h2
   lia
theorem ztz(o:Ow mask ow hs):((live mask ow).map (·.2)).Perm (wq hs.length):=by
 refine(List.perm_ext_iff_of_nodup ?_ WU).mpr λk=>?_
 ·show xr _ _
  rw[V3];exact(PX o).imp λh=>h.2
 ·rw[wF,wU]
  constructor
  ·rintro ⟨⟨j,k'⟩,h,rfl⟩
   exact o.lt _ _ ((pG o.size).mp h)
  ·intro h
   obtain⟨j,hj⟩:=o.has k h;exact⟨(j,k),(pG o.size).mpr hj,rfl⟩
theorem zzq{k:Nat}(k3:3<=k)(hm:mask+1=2^k)(finger moves:Nat)(led plain:Bool){hs:Array Int}(hl:hs.size<=mask) :
  ∃(t:WH)(ord:Array Nat),UM mask finger moves led plain hs=some (t,ord)/\t.mask=mask/\t.led=led/\t.plain=plain/\t.moves=moves/\ord.toList.Perm (wq hs.size)/\Tb t (ord.toList.map λk=>hs.toList.getD k 0):=by
 obtain⟨ow,e,o⟩:=zBT hm (hs:=hs) (by lia);have op:=ztz o;rw[wI]at op;have ll:(live mask ow).length=hs.size:=by have:=op.length_eq;simpa using this
 refine⟨{mask,place:=((live mask ow).map (·.1)).toArray,dummies:=#[],finger,led,moves,plain},((live mask ow).map (·.2)).toArray,?_,rfl,rfl,rfl,rfl,by simpa using op,?_⟩
 ·unfold UM
  rw[e];rfl
 ·have pz:(((live mask ow).map (·.1)).toArray).size=(live mask ow).length:=by simp
  have pg:∀i (h:i<(live mask ow).length),(((live mask ow).map (·.1)).toArray).getD i 0=((live mask ow)[i]).1:=λi h=>by
   rw[vF];simp[h]
  have inn:∀x,ow.getD x none≠none->In {mask,place:=((live mask ow).map (·.1)).toArray,dummies:=#[],finger,led,moves,plain} x:=λx hx=>by
   cases hy:ow.getD x none with
   | none=>exact absurd hy hx
   | some y =>
    obtain⟨i,hi,ei⟩:=w6 ((pG o.size).mpr hy);exact⟨i,by show i<(((live mask ow).map (·.1)).toArray).size;rw[pz];exact hi,by show(((live mask ow).map (·.1)).toArray).getD i 0=x;rw[pg i hi,ei]⟩
  refine⟨?_,?_,rfl,⟨k,k3,hm⟩,?_,?_,?_⟩
  ·intro i j hij hj
   have hj:j<(live mask ow).length:=by rw[<- pz];exact hj
   show(((live mask ow).map (·.1)).toArray).getD i 0<(((live mask ow).map (·.1)).toArray).getD j 0
   rw[pg i (by lia),pg j hj];exact(Wq.mp (PX o) i j (by lia) hj hij).1
  ·show(((live mask ow).map (·.1)).toArray).size=_
   rw[pz];simp
  ·intro i hi
   have hi:i<(live mask ow).length:=by rw[<- pz];exact hi
   show(((live mask ow).map (·.1)).toArray).getD i 0<=mask
   rw[pg i hi];have:=(pG o.size).mp (show(((live mask ow)[i]).1,((live mask ow)[i]).2)∈live mask ow from vY hi);rcases wB ((live mask ow)[i]).1 (mask+1)with q | q
   ·lia
   ·rw[vF,VH (by rw[o.size];lia)]at this;cases this
  ·show(((live mask ow).map (·.1)).toArray).size<=mask
   rw[pz,ll];exact hl
  ·intro i hi
   have hi:i<(live mask ow).length:=by rw[<- pz];exact hi
   have hm':=(pG o.size).mp (show(((live mask ow)[i]).1,((live mask ow)[i]).2)∈live mask ow from vY hi)
   have eh:(((live mask ow).map (·.2)).toArray.toList.map λk=>hs.toList.getD k 0).getD i 0=hs.toList.getD ((live mask ow)[i]).2 0:=by
    rw[wa];simp[hi]
   obtain⟨n,a1,a2⟩:=o.path _ _ hm'
   show ∃n,(way mask (start mask (_)) n).j=(((live mask ow).map (·.1)).toArray).getD i 0/\_
   rw[pg i hi,eh];exact⟨n,a1,λm hm=>inn _ (a2 m hm)⟩
theorem Mv(n:Nat):∀(fuel size:Nat),∃m,Wx n fuel size=size*2^m/\(n<size*2^fuel->n<Wx n fuel size)/\(Wx n fuel size<=size\/Wx n fuel size<=2*n)
 | 0,size=>⟨0,by simp[Wx],λh=>by simpa [Wx] using h,.inl (by simp[Wx])⟩
 | fuel+1,size=>by
  unfold Wx
  by_cases c:size<=n
  ·rw[if_pos c]
   obtain⟨m,h1,h2,h3⟩:=Mv n fuel (size*2);refine⟨m+1,?_,λh=>h2 ?_,?_⟩
   ·rw[h1,W4,Qr (2^m) 2,Va]
   ·rw[W4,Qr (2^fuel) 2,<- Va]at h;exact h
   ·rcases h3 with h3 | h3<;>right<;>lia
  ·rw[if_neg c]
   exact⟨0,by simp,λ_=>by lia,.inl (wo _)⟩
theorem zDm(h1:1<=n)(h:n<=4000):∃k,3<=k/\qz (4*n)-1+1=2^k/\4*n<=qz (4*n)-1/\qz (4*n)<=8*n:=by
 obtain⟨m,e1,e2,e3⟩:=Mv (4*n) 64 8;have e0:qz (4*n)=Wx (4*n) 64 8:=rfl
 have lt := e2 (by have : (8 * 2 ^ 64 : Nat) = 147573952589676412928 := by decide
                   lia)
 rw[e0];refine⟨m+3,by lia,?_,by lia,by lia⟩;rw[Nat.sub_add_cancel (by lia),e1,xb,Qr]
section
variable{prog:wE}{w:World}{K:Type}[DecidableEq K]{knd:KeyKind prog w K}{U:wg->List K->Prop}{A:w5}{E:wf->wl->Prop}{s:wl}
variable{a x:wg}{t:WH}{h:wJ}{α:Type}{o:Obj}{ep:Nat}
def Ent(knd:KeyKind prog w K)(U:wg->List K->Prop)(h:wJ)(e:Int × wf)(k:List K):Prop:=∃a,e.2=.ref a/\vG knd h k a/\e.1=vk knd k/\U a k
theorem znE(n:Nat){v:wf}(h:carriedByValue v=true):qH n v=pure false:=by
 cases v with
 | ref a=>simp[carriedByValue]at h
 | _=>first | rfl | simp[qH] | (unfold qH;rfl)
theorem Ta{k:List K}(hx:vG knd s.heap k x){Q:Bool->wl->Prop}(q:Q false s):wt (model prog w) A (qH 8 (.ref x)) Q E s:=by
 have hT:=hx.typeIs;obtain⟨o,items,n,ho,hc,hd,hi⟩:=hx;unfold qH;refine we (wpAny_typeOf hT ?_);dsimp only;rw[if_pos (by decide)];refine we (wp ?_);simp only[WK,w8,if_false];refine we (Wf ho hd ?_);refine we ?_
 show wt _ _ (forIn items _ _) _ _ s
 rw[<- VL];refine qo _ (λb7 r s'=>r.1=none/\s'=s /\ ∀v∈b7,carriedByValue v=true) _ ?_ ?_ _ _ ⟨rfl,rfl,hi.byValue⟩
 ·rintro v b7 r s' ⟨hr,rfl,hall⟩
  rw[znE _ (hall v wD)];refine we (wp ?_);simp only[w8,if_false];exact wp ⟨rfl,rfl,λu hu'=>hall u (wA _ hu')⟩
 ·rintro ⟨r1,r2⟩ s' ⟨hr,rfl,_⟩
  simp only at hr;subst hr;exact wp q
theorem zu3{k:List K}(hx:vG knd s.heap k x):∀(l:List wf),(∀v∈l,∃y k',v=.ref y/\vG knd s.heap k' y)->∀{Q:Bool->wl->Prop},Q false s->wt (model prog w) A (searchCouldBeSeen (.ref x) l) Q E s:=by
 intro l hl Q q;unfold searchCouldBeSeen;refine we ?_;refine qo _ (λb7 r s'=>r.1=none/\s'=s /\ ∀v∈b7,∃y k',v=.ref y/\vG knd s.heap k' y) _ ?_ ?_ _ _ ⟨rfl,rfl,hl⟩
 ·rintro v b7 r s' ⟨hr,rfl,hall⟩
  obtain⟨y,k',rfl,hy⟩:=hall v wD;have rst:∀v∈b7,∃y k',v=.ref y/\vG knd s'.heap k' y:=λu hu'=>hall u (wA _ hu')
  dsimp only
  split
  ·exact wp ⟨rfl,rfl,rst⟩
  ·refine we (wpAny_eqIsQuiet_tuple hx ?_)
   simp only[WK,w8,if_false];refine we (wpAny_eqIsQuiet_tuple hy ?_);simp only[WK,w8,if_false];refine we (Ta hx ?_);simp only[WK,w8,if_false];refine we (Ta hy ?_);simp only[WK,w8,if_false];exact wp ⟨rfl,rfl,rst⟩
 ·rintro ⟨r1,r2⟩ s' ⟨hr,rfl,_⟩
  simp only at hr;subst hr;exact wp q
theorem zzn(R:j4 t.place)(D:t.dummies = #[]){i j:Nat}(hi:i<t.place.size)(e:t.place.getD i 0=j):t.slot j=.live i:=by
 rcases JE R D j with⟨i',h1,h2,h3⟩ | ⟨no,_⟩
 ·rw[h3,DJ R h1 hi (h2.trans e.symm)]
 ·exact absurd e (no i hi)
theorem Ent.inj{e:Int × wf}{k k':List K}(a:Ent knd U h e k)(b:Ent knd U h e k'):k=k':=by
 obtain⟨x,h1,h2,_⟩:=a;obtain⟨y,h3,h4,_⟩:=b;rw[h1]at h3;cases h3;exact h2.inj h4
theorem Tb.fits{hs:List Int}(b:Tb t hs):t.fits hs.length=true:=by
 unfold SetTable.fits UN;rw[b.m4,b.size];have:=b.room;rw[b.size]at this
 simpa using this
theorem Tb.YN{hs:List Int}(b:Tb t hs):t.gaveWay=false:=by
 obtain⟨k',h3,e⟩:=b.two;unfold SetTable.gaveWay;have:2^k'=2*2^(k'-1):=by rw[<- Nat.pow_succ'];congr 1;lia
 have:t.mask % 2=1:=by lia
 rw[this];rfl
theorem Nv{a xa:wg}{k:List K}{o:Obj}{es:Array (Int × wf)}{ep:Nat}{t:WH}(hu:A.units<cLine)(hx:vG knd s.heap k xa)
  (ho:s.heap.get? a=some o) (hd:o.data=.set es ep t) (b:Tb t (es.toList.map (·.1))) (he:∀i (h:i<es.size),∃k',Ent knd U s.heap es[i] k') (n0:Nat) (hE:¬ In t (way t.mask (start t.mask (vk knd k)) n0).j) (hF:∀m,m<n0->In t (way t.mask (start t.mask (vk knd k)) m).j) (hf0:n0<10*Xs t.mask)
  {Q:SetFound->wl->Prop} (yes:(∃i,∃h:i<es.size,Ent knd U s.heap es[i] k)->Q (.there none) s) (no:(∀i (h:i<es.size),¬ Ent knd U s.heap es[i] k)->Q (.free (way t.mask (start t.mask (vk knd k)) n0).j false) s) :
  ∀(fuel n:Nat)(st:Option SetTable.Probe),n<=n0->n0-n<fuel->st.getD (t.probeStart (vk knd k))=way t.mask (start t.mask (vk knd k)) n ->
   (∀m,m<n->∀i (h:i<es.size),t.place.getD i 0=(way t.mask (start t.mask (vk knd k)) m).j->¬ Ent knd U s.heap es[i] k) ->
   wt (model prog w) A (setSearchFrom a (.ref xa) (vk knd k) true fuel st) Q E s
 | 0,n,st,_,hlt,_,_=>absurd hlt (WN _)
 | fuel+1,n,st,hn,hlt,hst,hno=>by
  have hsz:t.place.size=es.size:=by rw[b.size,wm,wI]
  have hfit:t.fits es.size=true:=by have:=b.fits;rwa[wm,wI]at this
  unfold setSearchFrom;refine we (V8 ho hd hfit ?_);dsimp only;rw[b.YN,hst];simp only[w8,if_false];have hp:=Om b.jg b.m4 (λi=>(es[i]?.map (·.1)).getD 0) (vk knd k) (p:=start t.mask (vk knd k)) rfl hE hF (10*Xs t.mask) n hn (by lia);rcases hp with⟨m,i,m1,m2,i1,i2,i3,i4,e⟩ | ⟨a1,e⟩
  ·generalize hP:t.probe _ (vk knd k) (way t.mask (start t.mask (vk knd k)) n)=P
   have eP:=hP.symm.trans e;rw[eP];clear eP hP P e;dsimp only;have ies:i<es.size:=by rw[<- hsz];exact i1
   obtain⟨k',a',e1,e2,e3,e4⟩:=he i ies;have eg:es[i]? = some es[i]:=Wd ies;have hent:Ent knd U s.heap es[i] k':=⟨a',e1,e2,e3,e4⟩
   have next:k'≠k->wt (model prog w) A (setSearchFrom a (.ref xa) (vk knd k) true fuel (some (way t.mask (start t.mask (vk knd k)) (m+1)))) Q E s:=λc=>by
    refine Nv hu hx ho hd b he n0 hE hF hf0 yes no fuel (m+1) _ m2 (by lia) rfl λm' hm' i' hi' ep' hent'=>?_
    rcases wB m' n with q | q
    ·exact hno m' q i' hi' ep' hent'
    ·rcases Vm (V5 hm')with q' | q'
     ·subst q'
      have:i'=i:=DJ b.jg (by rw[hsz];exact hi') i1 (ep'.trans i2.symm);subst this;exact c (hent.inj hent')
     ·refine i4 m' q q' i' (by rw[hsz];exact hi') ep' ?_
      show(es[i']?.map (·.1)).getD 0=_
      rw[Wd hi'];obtain⟨_,_,_,e5,_⟩:=hent';exact e5
   have hsl:t.slot (way t.mask (start t.mask (vk knd k)) m).j=.live i:=zzn b.jg b.m4 i1 i2;have hsm:t.sameMemory t.moves t.mask=some true:=by unfold SetTable.sameMemory;rw[if_pos (by simp)]
   have unseen:∀v∈(es.filter λx=>x.1 == vk knd k).toList.map (λx=>x.2),∃y k',v=.ref y/\vG knd s.heap k' y:=λv hv=>by
    obtain⟨e0,h0,rfl⟩:=wU.mp hv;rw[Array.toList_filter,vj]at h0;obtain⟨j,hj,ej⟩:=w6 h0.1;obtain⟨k2,y2,f1,f2,_⟩:=he j (by simpa using hj);refine⟨y2,k2,?_,f2⟩;rw[<- ej,<- f1,Array.getElem_toList]
   have eg':es[i]? = some (es[i].1,.ref a'):=by rw[eg,<- e1]
   clear eg;generalize es[i].1=h' at *;have tail:k'=k->Q (.there none) s:=λc=>yes ⟨i,ies,c ▸ hent⟩
   cases hl:t.led
   ·simp only[Q4,if_true]
    refine we (zu3 hx _ unseen ?_);simp only[w8,if_false];rw[eg'];dsimp only;refine we (vD (wpAny_eqBool_tuple hu e2 hx ?_));refine we (V8 ho hd hfit ?_);dsimp only
    by_cases c:k'=k
    ·rw[decide_eq_true c]
     exact wp (tail c)
    ·rw[decide_eq_false c,hsm]
     simp only[Q8,w8,if_false,if_true];rw[hsl];dsimp only;rw[eg'];dsimp only;refine we (wpAny_isSame_ref_self ?_);refine we (wp ?_);simp only[if_true];exact next c
   ·simp only[WK,w8,if_false]
    rw[eg'];dsimp only;refine we (vD (wpAny_eqBool_tuple hu e2 hx ?_));refine we (V8 ho hd hfit ?_);dsimp only
    by_cases c:k'=k
    ·rw[decide_eq_true c]
     exact wp (tail c)
    ·rw[decide_eq_false c,hsm]
     simp only[Q8,w8,if_false,if_true];rw[hsl];dsimp only;rw[eg'];dsimp only;refine we (wpAny_isSame_ref_self ?_);refine we (wp ?_);simp only[if_true];exact next c
  ·generalize hP:t.probe _ (vk knd k) (way t.mask (start t.mask (vk knd k)) n)=P
   have eP:=hP.symm.trans e;rw[eP];dsimp only;refine wp (no λi hi hent=>?_);have hi':i<t.place.size:=by rw[hsz];exact hi
   obtain⟨m,p1,p2⟩:=b.path i hi'
   have hh:(es.toList.map (·.1)).getD i 0=vk knd k:=by
    obtain⟨_,_,_,e3,_⟩:=hent;rw[wa,wx,WL,Wd hi];exact e3
   rw[hh]at p1 p2;rcases wB m n0 with q | q
   ·rcases wB m n with q' | q'
    ·exact hno m q' i hi p1.symm hent
    ·refine a1 m q' q i hi' p1.symm ?_
     show(es[i]?.map (·.1)).getD 0=_
     rw[Wd hi];obtain⟨_,_,_,e3,_⟩:=hent;exact e3
   ·rcases Vm q with q' | q'
    ·subst q';exact hE ⟨i,hi',p1.symm⟩
    ·exact hE (p2 n0 q')
theorem Zs(l:List α)(p:Nat)(x : α):(d7 l p x).Perm (x::l):=by
 unfold d7;refine List.perm_middle.trans (List.Perm.cons x ?_);rw[Xm]
theorem rH{g:wJ}{k:List K}(x:vG knd h k a)(e:∀o,h.get? a=some o->g.get? a=some o):vG knd g k a:=by
 obtain⟨o,its,n,h1,r⟩:=x;exact⟨o,its,n,e o h1,r⟩
theorem Km{g:wJ}{k:List K}{d:wg}{es:Array (Int × wf)}(x:vG knd h k a)(ho:h.get? d=some o)(hd:o.data=.set es ep t)(hs:vv d h g):vG knd g k a:=by
 refine rH x λu eu=>(hs.2 a λad=>?_).trans eu
 obtain⟨u',_,_,e1,_,e2,_⟩:=x;rw[ad,ho]at e1;cases e1;rw[hd]at e2;cases e2
def fX(knd:KeyKind prog w K)(U:wg->List K->Prop)(h:wJ)(es:List (Int × wf))(ks:List (List K)):Prop:=es.length=ks.length /\ ∀(i:Nat)(e:Int × wf)(k:List K),es[i]? = some e->ks[i]? = some k->Ent knd U h e k
def TS(knd:KeyKind prog w K)(U:wg->List K->Prop)(h:wJ)(a:wg)(led:Bool)(ks:List (List K)):Prop :=
 ∃o es ep t,h.get? a=some o/\o.ExactSet/\o.data=.set es ep t/\Tb t (es.toList.map (·.1))/\es.size*5<t.mask*3/\(t.mask<=7\/t.mask<=8*es.size)/\t.led=led/\t.plain=true/\fX knd U h es.toList ks/\ks.Nodup
theorem zwb(hv:∀k v,knd.is k v=true->∃i t,v=.int i t){k:List K}(hx:vG knd s.heap k x){Q:Bool->wl->Prop}(q:Q true s):wt (model prog w) A (hashByValue 8 (.ref x)) Q E s:=by
 have hT:=hx.typeIs;obtain⟨o,items,n,ho,hc,hd,hi⟩:=hx
 have hints:∀{ks:List K}{vs:List wf},ItemsAre knd ks vs->∀v∈vs,∃i t,v=.int i t:=λh=>by
  induction h with
  | nil=>intro v hv;simp at hv
  | cons h1 _ ih =>
   intro v hm;rcases wK.mp hm with rfl | hm
   ·exact hv _ _ h1
   ·exact ih v hm
 unfold hashByValue;refine we (qC hT qG.lookup ?_);dsimp only;refine we (Wf ho hd ?_);refine we ?_
 show wt _ _ (forIn items _ _) _ _ s
 rw[<- VL];refine qo _ (λb7 r s'=>r.1=none/\s'=s /\ ∀v∈b7,∃i t,v=.int i t) _ ?_ ?_ _ _ ⟨rfl,rfl,hints hi⟩
 ·rintro v b7 r s' ⟨hr,rfl,hall⟩
  obtain⟨i,t,rfl⟩:=hall v wD
  show wt _ _ (pure true >>= _) _ _ _
  refine we (wp ?_);simp only[WK,w8,if_false];exact wp ⟨rfl,rfl,λu hu'=>hall u (wA _ hu')⟩
 ·rintro ⟨r1,r2⟩ s' ⟨hr,rfl,_⟩
  simp only at hr;subst hr;exact wp q
theorem zyc{β:Type}(f : α -> β)(l:List α)(p:Nat)(x : α):(d7 l p x).map f=d7 (l.map f) p (f x):=by
 unfold d7;rw[vQ,wV,UI,XG]
theorem O_{α : Type}(d : α)(es:Array α):∀l:List Nat,(∀i∈l,i<es.size)->l.filterMap (λi=>es[i]?)=l.map λi=>es.toList.getD i d
 | [],_=>rfl
 | i::l,h=>by
  have hi:=h i (wD ..);rw[Qa,Wd hi,wV,O_ d es l λj hj=>h j (wA _ hj)];dsimp only;rw[wa,WL,Wd hi]
  rfl
theorem zvB(d : α)(l:List α):(wq l.length).map (λi=>l.getD i d)=l:=by
 refine WV (by simp) λi h1 h2=>?_
 rw[Vc,List.getElem_range,wa,wc h2]
 rfl
theorem fX.keeps{h':wJ}{es:List (Int × wf)}{ks:List (List K)}{d:wg}{es0:Array (Int × wf)}(x:fX knd U h es ks)(ho:h.get? d=some o)(hd:o.data=.set es0 ep t)(hs:vv d h h'):fX knd U h' es ks :=
 ⟨x.1,λi e k h1 h2=>by obtain⟨a,e1,e2,e3⟩:=x.2 i e k h1 h2;exact⟨a,e1,Km e2 ho hd hs,e3⟩⟩
theorem fX.ins{es:List (Int × wf)}{ks:List (List K)}(x:fX knd U h es ks){p:Nat}(hp:p<=ks.length){e:Int × wf}{k:List K}(c:Ent knd U h e k):fX knd U h (d7 es p e) (d7 ks p k):=by
 have hp':p<=es.length:=by rw[x.1];exact hp
 refine⟨by rw[pF e hp',pF k hp,x.1],λi e' k' h1 h2=>?_⟩;rw[zJ e hp']at h1;rw[zJ k hp]at h2
 split at h1
 ·rename_i a;rw[if_pos a]at h2;exact x.2 i e' k' h1 h2
 ·rename_i a;rw[if_neg a]at h2
  split at h1
  ·rename_i b;rw[if_pos b]at h2
   cases h1;cases h2;exact c
  ·rename_i b;rw[if_neg b]at h2;exact x.2 (i-1) e' k' h1 h2
theorem fX.ord{es:List (Int × wf)}{ks:List (List K)}(x:fX knd U h es ks){l:List Nat}(hl:∀i∈l,i<es.length):fX knd U h (l.map λi=>es.getD i (0,.none)) (l.map λi=>ks.getD i []):=by
 refine⟨by simp,λi e' k' h1 h2=>?_⟩;rw[wx]at h1 h2;cases hi:l[i]? with
 | none=>rw[hi]at h1;cases h1
 | some j =>
  rw[hi]at h1 h2;cases h1;cases h2;have hj:j<es.length:=hl j (Xw hi);have hj':j<ks.length:=by rw[<- x.1];exact hj
  refine x.2 j _ _ ?_ ?_
  ·dsimp only;rw[wa,wc hj];rfl
  ·dsimp only;rw[wa,wc hj'];rfl
theorem Ox{es:Array (Int × wf)}(ho:h.get? a=some o)(hd:o.data=.set es ep t)(es':Array (Int × wf))(t':WH) :
  (h.update a (xF es' t')).get? a=some {o with data:=.set es' (ep+1) t'}:=by
 have:=Vi (xF es' t') ho (by rw[putSet_of es' t' hd];rfl);rw[putSet_of es' t' hd]at this;exact this
theorem zxp{es:Array (Int × wf)}{ks:List (List K)}(ho:s.heap.get? a=some o)(hex:o.ExactSet)(hd:o.data=.set es ep t)(b:Tb t (es.toList.map (·.1)))(hpl:t.plain=true)
  (hk:fX knd U s.heap es.toList ks) (hnd:ks.Nodup) (h1:1<=es.size) (hz:es.size<=1000) {Q:Unit->wl->Prop} (q:∀h' ks',vv a s.heap h'->TS knd U h' a t.led ks'->ks'.Perm ks->Q () {s with heap:=h'}) :
  wt (model prog w) A (setRelay a (Xu es.size)) Q E s:=by
 have hfit:t.fits es.size=true:=by have:=b.fits;rwa[wm,wI]at this
 have hg:Xu es.size=4*es.size:=by unfold Xu;rw[if_neg (by lia),Qr]
 obtain⟨k2,k3,s1,s2,s3⟩:=zDm (n:=es.size) h1 (by lia);unfold setRelay;rw[hg];refine we (V8 ho hd hfit ?_);dsimp only;rw[if_neg (by rw[qY];lia)];obtain⟨t2,ord,e2,m2,l2,p2,_,op,b2⟩:=zzq k3 s1 t.finger (t.movedTo (qz (4*es.size)-1)) t.led t.plain (hs:=es.map (·.1)) (by rw[UC];lia);rw[UC]at op;have olt:∀i∈ord.toList,i<es.size:=λi hi=>wF.mp (op.mem_iff.mp hi)
 have e2':t.relaid (es.map (·.1)) (4*es.size)=some (t2,ord):=e2;rw[e2']
 have fe:(ord.filterMap (λi=>es[i]?)).toList=ord.toList.map λi=>es.toList.getD i (0,.none):=by
  rw[Array.toList_filterMap];exact O_ _ es _ olt
 have fz:(ord.filterMap (λi=>es[i]?)).size=es.size:=by
  rw[<- wI,fe,wm,op.length_eq,ve]
 refine we ?_
 show wt _ _ (if((ord.filterMap (λi=>es[i]?)).size != es.size)=true then(unsupported "internal:set-table-lost-an-element" >>= λ_=>pure (ord.filterMap (λi=>es[i]?),t2))else pure (ord.filterMap (λi=>es[i]?),t2)) _ _ _
 rw[if_neg (by rw[fz];simp)];refine wp ?_;refine wpAny_storeSet_of ho hd ?_ (by rw[fz,qY];lia);have hsb:=Qb s.heap a (xF (ord.filterMap (λi=>es[i]?)) t2);have hkk:fX knd U s.heap (ord.filterMap (λi=>es[i]?)).toList (ord.toList.map λi=>ks.getD i []):=by rw[fe];exact hk.ord λi hi=>by rw[wI];exact olt i hi
 have pm:(ord.toList.map λi=>ks.getD i []).Perm ks:=by
  have:=op.map (λi=>ks.getD i []);have hl:es.size=ks.length:=by rw[<- wI];exact hk.1
  rw[hl,zvB]at this;exact this
 refine q _ (ord.toList.map λi=>ks.getD i []) hsb ⟨_,_,_,t2,Ox ho hd _ t2,hex,rfl,?_,?_,?_,l2,p2.trans hpl,hkk.keeps ho hd hsb,pm.nodup_iff.mpr hnd⟩ pm
 ·rw[fe,WD]
  have:(ord.toList.map ((λx:Int × wf=>x.1) ∘ λi=>es.toList.getD i (0,.none)))=ord.toList.map λk=>(es.map (·.1)).toList.getD k 0:=by
   refine qp λi hi=>?_
   have:=olt i hi
   show(es.toList.getD i (0,.none)).1=_
   rw[wa,wa,Array.toList_map,wx,WL,Wd this]
   rfl
  rw[this];exact b2
 ·rw[fz,m2];lia
 ·right;rw[fz,m2];lia
theorem zCg(hv:∀k v,knd.is k v=true->∃i t,v=.int i t){xa:wg}{k:List K}{led:Bool}{ks:List (List K)}(hu:A.units<cLine)(hS:TS knd U s.heap a led ks)(hx:vG knd s.heap k xa)(hU:U xa k)(hz:ks.length+1<=1000)
  {Q:Bool->wl->Prop} (q:∀h' ks',vv a s.heap h'->TS knd U h' a led ks'->(k∈ks->ks'=ks)->(k ∉ ks->ks'.Perm (k::ks))->∀b,Q b {s with heap:=h'}) :
  wt (model prog w) A (setAddHashed a (.ref xa) (vk knd k)) Q E s:=by
 obtain⟨o,es,ep,t,ho,hex,hd,b,hfew,hmask,hled,hpl,⟨hkl,hke⟩,hnd⟩:=hS;rw[wI]at hkl;have hfit:t.fits es.size=true:=by have:=b.fits;rwa[wm,wI]at this
 have hsz:t.place.size=es.size:=by rw[b.size,wm,wI]
 have hent:∀i (h:i<es.size),Ent knd U s.heap es[i] (ks[i]'(by lia)):=λi h=>hke i _ _ (by rw[WL,Wd h]) (wc _)
 unfold setAddHashed setAddHashedIn;refine vD (we (V8 ho hd hfit ?_));dsimp only;rw[show byScan (.ref xa) es=false from rfl];simp only[w8,if_false];obtain⟨n0,hf0,hE,hF⟩:=b.free (vk knd k);have hmm:t.mask<=8000:=by lia
 refine we (Nv hu hx ho hd b (λi h=>⟨_,hent i h⟩) n0 hE hF hf0 (λhy=>?yes) (λhn=>?no) 100000 0 none (Wy _) (by unfold Xs at hf0;lia) rfl (λm hm=>absurd hm (WN _)))
 case yes =>
  dsimp only;obtain⟨i,hi,he⟩:=hy;have hk:k∈ks:=by rw[he.inj (hent i hi)];exact vY _
  exact wp (q s.heap ks (uA a s.heap) ⟨o,es,ep,t,ho,hex,hd,b,hfew,hmask,hled,hpl,⟨by rw[wI];exact hkl,hke⟩,hnd⟩ (λ_=>rfl) (λh=>absurd hk h) _)
 case no =>
  dsimp only
  have hk:k ∉ ks:=λhm=>by
   obtain⟨i,hi,e⟩:=w6 hm;exact hn i (by lia) (e ▸ hent i (by lia))
  refine we (V8 ho hd hfit ?_);dsimp only;obtain⟨k8,k3,kk⟩:=b.two
  have m7:7<=t.mask:=by
   have:2^3<=2^k8:=Xy (by decide) k3
   lia
  obtain⟨hp,tb⟩:=b.put hE hF (by rw[hsz];lia);rw[wm,wI,hkl]at hp;have q1:(t.put (way t.mask (start t.mask (vk knd k)) n0).j).1.plain=t.plain:=rfl;have q2:(t.put (way t.mask (start t.mask (vk knd k)) n0).j).1.led=t.led:=rfl;have q3:(t.put (way t.mask (start t.mask (vk knd k)) n0).j).1.mask=t.mask:=rfl;generalize (t.put (way t.mask (start t.mask (vk knd k)) n0).j).2=p at *;generalize (t.put (way t.mask (start t.mask (vk knd k)) n0).j).1=t1 at *;rw[if_pos (q1.trans hpl)];refine we (zwb hv hx ?_);simp only[if_true];have en:Ent knd U s.heap (vk knd k,.ref xa) k:=⟨xa,rfl,hx,rfl,hU⟩
  have hkk:fX knd U s.heap (Wz es p (vk knd k,.ref xa)).toList (d7 ks p k):=by
   rw[rn];exact fX.ins ⟨by rw[wI];exact hkl,hke⟩ hp en
  have tb':Tb t1 ((Wz es p (vk knd k,.ref xa)).toList.map (·.1)):=by
   rw[rn,zyc];exact tb
  have z1:(Wz es p (vk knd k,.ref xa)).size=es.size+1:=by
   rw[<- wI,rn,pF _ (by rw[wI,hkl];exact hp),wI]
  have pm:(d7 ks p k).Perm (k::ks):=Zs ks p k;have nd:(d7 ks p k).Nodup:=pm.nodup_iff.mpr (W2.mpr ⟨hk,hnd⟩);refine we (wpAny_storeSet_of ho hd ?_ (by rw[z1,qY];lia));have hsb:=Qb s.heap a (xF (Wz es p (vk knd k,.ref xa)) t1);have ho1:=Ox ho hd (Wz es p (vk knd k,.ref xa)) t1
  have pz:t1.fill=es.size+1:=by
   unfold UN;rw[tb'.m4,tb'.size,wm,wI,z1];rfl
  split
  ·refine we ?_
   have:=zxp (A:=A) (E:=E) (knd:=knd) (s:={s with heap:=s.heap.update a (xF (Wz es p (vk knd k,.ref xa)) t1)}) (ks:=d7 ks p k) ho1 hex rfl tb' (q1.trans hpl) (hkk.keeps ho hd hsb) nd (by rw[z1];lia) (by rw[z1];lia)
    (Q:=λ_ s'=>wt (model prog w) A (pure true) Q E s') λh' ks' sb ts pm'=>wp (q h' ks' (hsb.trans sb) (by rw[q2,hled]at ts;exact ts) (λh=>absurd h hk) (λ_=>pm'.trans pm) _)
   rw[z1]at this;exact this
  ·rename_i c
   have c:¬ t1.tooFull=true:=by simpa using c
   unfold SetTable.tooFull at c;rw[pz]at c;refine wp (q _ (d7 ks p k) hsb ⟨_,_,_,t1,ho1,hex,rfl,tb',?_,?_,q2.trans hled,q1.trans hpl,hkk.keeps ho hd hsb,nd⟩ (λh=>absurd h hk) (λ_=>pm) _)
   ·rw[z1]
    have:¬ t1.mask*3<=(es.size+1)*5:=by simpa using c
    lia
   ·rw[z1,q3];lia
end
section
variable{prog:wE}{w:World}{K:Type}[DecidableEq K]{knd:KeyKind prog w K}{U:wg->List K->Prop}
theorem TS.same{h g:wJ}{S:wg}{led:Bool}{ks:List (List K)}(x:TS knd U h S led ks)(e:∀o,h.get? S=some o->g.get? S=some o)(f:∀k a,vG knd h k a->vG knd g k a):TS knd U g S led ks:=by
 obtain⟨o,es,ep,t,c1,c2,c3,c4,c5,c6,c7,c8,⟨d1,d2⟩,c9⟩:=x;refine⟨o,es,ep,t,e o c1,c2,c3,c4,c5,c6,c7,c8,⟨d1,λi y k y1 y2=>?_⟩,c9⟩;obtain⟨a,z1,z2,z3⟩:=d2 i y k y1 y2;exact⟨a,z1,f k a z2,z3⟩
theorem TS.new{h:wJ}{S:wg}{led:Bool}(e:h.get? S=some {cls:=.type "set",dict:=none,data:=.set #[] 0 (.fresh 0 0 led)}):TS knd U h S led [] :=
 ⟨_,#[],0,_,e,⟨rfl,rfl,rfl⟩,rfl,⟨λi j _ hj=>absurd hj (WN _),rfl,rfl,⟨3,wo _,rfl⟩,λi hi=>absurd hi (WN _),Wy _,λi hi=>absurd hi (WN _)⟩,(by show 0*5<7*3;decide),.inl (wo _),rfl,rfl,⟨rfl,λi y k y1=>by simp at y1⟩,List.nodup_nil⟩
variable{A:w5}{R:Result->wl->Prop}{I:wg}{fp wr:List wg}{G:Array GenState->Array GenState->Prop}{n:Nat}{P:Nat->wf->Prop}{St:Nat->wl->Prop}
theorem Mr(hv:∀k v,knd.is k v=true->∃i t,v=.int i t)(W:WalksS prog w A.in1 I fp wr G n P St){S:wg}(hSf:S ∉ fp)(hu:A.units+1<cLine){led:Bool}{key:Nat->List K}{ad:Nat->wg}
  (hval:∀i v,P i v->v=.ref (ad i)) (hI:∀i s a k,St i s->vG knd s.heap k a->a ∉ wr) (hn:n<=999) (hU:∀j,j<n->U (ad j) (key j)) :
  ∀(c i:Nat)(s:wl)(ks:List (List K)),n-i=c->i<=n->St i s->(∀j,j<n->vG knd s.heap (key j) (ad j))->TS knd U s.heap S led ks->(∀x,x∈ks ↔ ∃j,j<i/\key j=x)->ks.length<=i ->
   (∀s' ks',Moved (S::wr) G s s'->(∀k a,vG knd s.heap k a->vG knd s'.heap k a)->TS knd U s'.heap S led ks'->(∀x,x∈ks' ↔ ∃j,j<n/\key j=x)->R (.ok (.ret .none)) s') ->
   codeAny (model prog w) A (.builtin "set.update.loop" ⟨[.ref S,.ref I],[]⟩) R s:=by
 have nw:S ∉ wr:=λx=>hSf (W.sub _ x)
 intro c
 induction c with
 | zero =>
  intro i s ks ec ei st ht hs hx hl r;obtain rfl:i=n:=by lia
  refine Vu Qs ?_;rw[qc VM _];refine we (m:=Vn (.ref I)) (W.done s _ _ st λs' mv=>?_);have f:∀k a,vG knd s.heap k a->vG knd s'.heap k a:=λk a x=>rH x λo eo=>mv.heap a o (hI i s a k st x) eo
  exact wp (r s' ks (mv.mono λ_ q=>.tail _ q) f (hs.same (λo eo=>mv.heap S o nw eo) f) hx)
 | succ c ih =>
  intro i s ks ec ei st ht hs hx hl r;have lt:i<n:=by lia
  refine Vu Qs ?_;rw[qc VM _];refine we (m:=Vn (.ref I)) (W.item i s _ _ lt st λv s' pv st' mv=>?_);obtain rfl:=hval i v pv;have f:∀k a,vG knd s.heap k a->vG knd s'.heap k a:=λk a x=>rH x λo eo=>mv.heap a o (hI i s a k st x) eo
  have hs':=hs.same (λo eo=>mv.heap S o nw eo) f;refine we (m:=holding [Value.ref (ad i)] (setAdd S (.ref (ad i)))) (vD ?_);unfold setAdd;refine vD (we (wpAny_pyHash_tuple (by exact hu) (f _ _ (ht i lt)) ?_));refine zCg hv (s:={s' with toks:=s'.toks+((key i).length+1)}) (by exact hu) hs' (f _ _ (ht i lt)) (hU i lt) (by lia) λh2 ks2 sb ts2 y1 y2 b=>?_
  have so:=hs';obtain⟨o9,_,_,_,g1,_,g2,_⟩:=so;have f2:∀k a,vG knd s'.heap k a->vG knd h2 k a:=λk a x=>Km x g1 g2 sb
  have zm:∀x,x∈ks2 ↔ ∃j,j<i+1/\key j=x:=λx=>by
   have old:x∈ks2 ↔ x=key i\/x∈ks:=by
    by_cases d:key i∈ks
    ·rw[y1 d];exact⟨.inr,λq=>q.elim (λe=>e ▸ d) id⟩
    ·rw[(y2 d).mem_iff,wK]
   rw[old,hx]
   constructor
   ·rintro (rfl | ⟨j,j1,j2⟩)
    ·exact⟨i,by lia,rfl⟩
    ·exact⟨j,by lia,j2⟩
   ·rintro ⟨j,j1,j2⟩
    rcases Vm (V5 j1)with e | e
    ·subst e;exact .inl j2.symm
    ·exact .inr ⟨j,e,j2⟩
  have len2:ks2.length<=i+1:=by
   by_cases d:key i∈ks
   ·rw[y1 d];lia
   ·rw[(y2 d).length_eq,vx];lia
  refine wp ⟨plainId_quiet VM _,ih (i+1) _ ks2 (by lia) lt (W.frame _ s' _ _ st' (WX _ _) λz hz o e=>?_) (λj hj=>f2 _ _ (f _ _ (ht j hj))) ts2 zm len2 λs3 ks3 mv3 f3 ts3 m3=>?_⟩
  ·rw[sb.2 z (λq=>hSf (q ▸ hz))];exact e
  ·refine r s3 ks3 (Moved.trans W.gtrans ((mv.mono λ_ q=>.tail _ q).then_heap (WX _ _) λz o hz e=>?_) mv3) (λk a x=>f3 k a (f2 k a (f k a x))) ts3 m3
   rw[sb.2 z (λq=>hz (q ▸ .head _))];exact e
end
def dR(led:Bool):Obj:={cls:=.type "set",dict:=none,data:=.set #[] 0 (.fresh 0 0 led)}
def cO(w:World):Bool:=!(w.params.followText "set-order")
section
variable{prog:wE}{w:World}{K:Type}[DecidableEq K]{knd:KeyKind prog w K}{U:wg->List K->Prop}{A:w5}{E:wf->wl->Prop}{s:wl}
theorem Pm(x:wf){Q:wf->wl->Prop}(q:Q (.ref s.heap.objs.size) {s with heap:=s.heap.push (dR (cO w))}) :
  codeAny (model prog w) A (.call (.builtin "set.__new__") ⟨[.type "set",x],[]⟩) (wants Q E) s:=by
 refine codeAny_of_tree ?_;refine we (m:=checkBuiltinCall "set.__new__" ⟨[.type "set",x],[]⟩) (wpAny_of_eq (F.newCall_set_1 x) (wp ?_));refine⟨plainId_quiet Ur _,Vu F.entry_set_new ?_⟩;rw[qc Ur _];unfold Builtin.«set.__new__» UO;have sub:=sub_set_self;obtain⟨z1,z2,z3,z4,z5⟩:=s;dsimp only
 wp_walk
 refine wpAny_askSetting (wp ?_);dsimp only;simp only[newObj];exact we (wpAny_alloc (wp (wp q)))
set_option maxHeartbeats 3200000 in
theorem Yx(hv:∀k v,knd.is k v=true->∃i t,v=.int i t){l:wg}{its:List wf}{key:Nat->List K}{ad:Nat->wg}(hh:A.handled=none)(hu:A.units+64<cLine)(hl:s.heap.IsList l its.toArray)
  (hi:∀(i:Nat) v,its[i]? = some v->v=.ref (ad i)) (hk:∀i,i<its.length->vG knd s.heap (key i) (ad i)) (hn:its.length<=999) (hU:∀j,j<its.length->U (ad j) (key j)) {Q:wf->wl->Prop}
  (q:∀(g:wJ)(tk:Nat)(ks:List (List K)),TS knd U g s.heap.objs.size (cO w) ks->(∀x,x∈ks ↔ ∃j,j<its.length/\key j=x)->(∀b o,s.heap.get? b=some o->g.get? b=some o)->Q (.ref s.heap.objs.size) {s with heap:=g,toks:=tk}) :
  wt (model prog w) A (call (.type "set") [.ref l]) Q E s:=by
 obtain⟨c1,c2,mro⟩:=Ww.mro;have f1:=Ww.made;have f2:=Ww.sub;have f3:=Ww.notType;have f4:=Ww.canCreate;have f5:=u8 (.ref l);refine wpAny_call (codeAny_of_tree (show wt _ _ (callAny (.type "set") _) _ _ _ from ?_));refine wp ⟨ub _ (by decide +kernel),Vu uB ?_⟩;rw[uc (weight_type_call_type "set" [.ref l] []) rfl]
 repeat(any_goals(first | assumption | wp_step))
 have nd:=Pm (prog:=prog) (w:=w) (A:=A.in1) (E:=E) (s:=s) (.ref l) (Q:=λv s1=>v=.ref s.heap.objs.size/\s1 = {s with heap:=s.heap.push (dR (cO w))}) ⟨rfl,rfl⟩;refine VO nd λr s1 hr=>?_
 cases r with
 | error e=>exact hr
 | ok fl =>
  cases fl with
  | ret obj =>
   obtain⟨rfl,rfl⟩:=hr;have gS:(s.heap.push (dR (cO w))).get? s.heap.objs.size=some (dR (cO w)):=wO _ rfl;have tS:UP {s with heap:=s.heap.push (dR (cO w))} (.ref s.heap.objs.size) "set":=⟨_,gS,rfl⟩;have g1:=Ww.init.lookup;have g2:=Ww.init.bind (.ref s.heap.objs.size)
   repeat(any_goals(first | assumption | wp_step))
   refine VO (codeAny_call_builtin (R:=wants (λv s2=>v=.none /\ ∃g tk ks,s2 = {s with heap:=g,toks:=tk}/\TS knd U g s.heap.objs.size (cO w) ks/\(∀x,x∈ks ↔ ∃j,j<its.length/\key j=x) /\ ∀b o,s.heap.get? b=some o->g.get? b=some o) E)
    Ww.init.plain u9 (check_set_init_1 tS ?_)) λr2 s2 hr2=>?_
   ·obtain⟨ol,e1,e2,nl,e3⟩:=hl
    obtain⟨y1,y2,y3,y4⟩:=ol;dsimp only at e2 e3;subst e2;subst e3;have gl:(s.heap.push (dR (cO w))).get? l=some {cls:=.type "list",dict:=y2,data:=.seq its.toArray nl,slots:=y4}:=wn _ e1;have n1:=F.sub_list_set;have n2:=F.sub_list_frozenset;have n3:(Value.type "list" == Value.type "dict")=false:=by decide
    have il:(s.heap.push (dR (cO w))).IsList l its.toArray:=⟨_,gl,rfl,nl,rfl⟩;unfold Builtin.«set.__init__» noKeywords Q9;generalize hPI:pyIter=PI
    wp_walk
    subst hPI;refine V7 il ?_;refine we (wpAny_runValue ?_);have ls:l<s.heap.objs.size:=wz e1;have zs:(s.heap.push (dR (cO w))).objs.size=s.heap.objs.size+1:=W0 ..;have ne:l≠(s.heap.push (dR (cO w))).objs.size:=by rw[zs];exact wL (WS ls)
    have nf:s.heap.objs.size ∉ [(s.heap.push (dR (cO w))).objs.size,l]:=by
     rw[zs];intro hm;rcases wK.mp hm with e | hm
     ·exact absurd e (wL (Ua _))
     ·rcases wK.mp hm with e | hm
      ·exact absurd e (vn ls)
      ·cases hm
    have kp:∀b o,s.heap.get? b=some o->((s.heap.push (dR (cO w))).push {cls:=.type "list_iterator",data:=.fields #[.ref l,.int 0 0]}).get? b=some o:=λb o e=>wn _ (wn _ e)
    refine Mr hv ((Uo (by simp[hh]) _ l ne its.toArray).toS) (S:=s.heap.objs.size) nf (by show A.units+1+1+1<_;lia) (led:=cO w) (key:=key) (ad:=ad)
     (λi v hp=>hi i v (by simpa using hp)) ?hI (by simpa using hn) (λj hj=>hU j (by simpa using hj)) (its.toArray.size-0) 0 _ [] rfl (Wy _) ⟨⟨_,wO _ rfl,rfl,rfl⟩,il.push _⟩
     (λj hj=>rH (hk j (by simpa using hj)) λo eo=>kp _ o eo) (TS.new (wn _ gS)) (λx=>⟨λh=>absurd h Vd,λ⟨j,j1,_⟩=>absurd j1 (WN _)⟩) (wo _) ?fin
    case hI =>
     intro i s9 a9 k9 st9 x9 hm;obtain⟨⟨o8,u1,u2,_⟩,_⟩:=st9;obtain⟨o9,_,_,v1,v2,_⟩:=x9;rcases wK.mp hm with e | hm
     ·subst e
      rw[u1]at v1;cases v1;rw[u2]at v2;exact absurd (UD v2) (by decide)
     ·cases hm
    case fin =>
     intro s9 ks9 mv f9 ts9 m9;obtain⟨g,x1,x2,x3,x4⟩:=s9;obtain rfl:x1=s.gens:=mv.gens;obtain rfl:x2=s.drawn:=mv.drawn;obtain rfl:x4=s.os:=mv.os;refine wp (wp ⟨rfl,g,x3,ks9,rfl,ts9,by simpa using m9,λb o e=>?_⟩);have lb:b<s.heap.objs.size:=wz e;refine mv.heap b o (λhm=>?_) (kp b o e);rcases wK.mp hm with e' | hm
     ·exact absurd e' (wL lb)
     ·rcases wK.mp hm with e' | hm
      ·rw[zs]at e';exact absurd e' (wL (WS lb))
      ·cases hm
   ·cases r2 with
    | error e=>exact hr2
    | ok fl2 =>
     cases fl2 with
     | ret v =>
      obtain⟨rfl,g,tk,ks,rfl,a1,a2,a3⟩:=hr2
      repeat(any_goals(first | assumption | wp_step))
      exact q g tk ks a1 a2 a3
     | _=>exact hr2.elim
  | _=>exact hr.elim
end
end TB
namespace TB
open PySem PySem.W PyProof.Rows
section
variable{n:Nat}(h1:1<=n)
include h1
end
section
variable{prog:wE}{w:World}{A:w5}{E:wf->wl->Prop}{s:wl}
end
structure sJ(w:World)(h:wJ)(a:wg)(es:Array (Int × wf))(ep:Nat)(t:WH):Prop where
 at':∃o,h.get? a=some o/\o.ExactSet/\o.data=.set es ep t
 fits:t.fits es.size=true
 size:t.place.size=es.size
 jg:j4 t.place
 plain:t.plain=true
 led:t.led=cO w
 b8:es.size<=4000
theorem sJ.same{w:World}{h g:wJ}{a:wg}{es:Array (Int × wf)}{ep:Nat}{t:WH}(x:sJ w h a es ep t)(e:∀o,h.get? a=some o->g.get? a=some o):sJ w g a es ep t :=
 ⟨let ⟨o,h1,r⟩:=x.at';⟨o,e o h1,r⟩,x.fits,x.size,x.jg,x.plain,x.led,x.b8⟩
section
variable{prog:wE}{w:World}{A:w5}{E:wf->wl->Prop}{s:wl}{a:wg}{es:Array (Int × wf)}{ep:Nat}{t:WH}
end
section
variable{prog:wE}{w:World}{A:w5}{E:wf->wl->Prop}{s:wl}{a it:wg}{es:Array (Int × wf)}{ep:Nat}{t:WH}{i:Nat}
end
section
variable{prog:wE}{w:World}{A:w5}{E:wf->wl->Prop}{s:wl}
end
end TB
namespace L2
open PySem PySem.Spec PyProof.Rows GM
variable{X:Cx}
def jm(w:World)(a:wg)(ws:List V):HO:=.ext λh=>∃es ep t,TB.sJ w h a es ep t/\aM ws (es.toList.map (·.2))
def pS(K:wb)(H:Hp)(v:V)(k:List Int):Prop:=∃q,v=.ref q/\aI K H q (k.map V.int)
theorem items_int{P:wE}{w:World} : ∀{us:List wf}{ns:List Int},IntsAre us ns->ItemsAre (intKind P w) ns us
 | _,_,.nil=>.nil
 | _,_,.cons n t r=>.cons (by show QG n (Value.int n t)=true;simp[QG]) (items_int r)
theorem M_{P:wE}{w:World}(k:Int)(v:wf)(h:(intKind P w).is k v=true):∃i t,v=.int i t:=by
 have h:QG k v=true:=h;cases v with
 | int i t=>exact⟨i,t,rfl⟩
 | _=>exact absurd h (by simp[QG])
theorem Inv.key{pins:List (wg × Obj)}{σ : List (Option V)}{H:Hp}{s:wl}(I:Inv X pins σ H s){q:wg}{k:List Int}(h:aI X.K H q (k.map V.int)):vG (intKind X.prog X.w) s.heap k q:=by
 obtain⟨its,r,⟨o,e,hc,n,hd⟩,_⟩:=I.tuple h;exact⟨o,its.toArray,n,e,hc,hd,items_int (zb r)⟩
def Cg(K:wb)(w:World):List V->Hp->VK->Prop:=λxs H Q=>∃(p:wg)(vs:List V)(key:Nat->List Int),xs=[.ref p]/\aG K H p vs/\vs.length<=999/\(∀j v,vs[j]? = some v->pS K H v (key j)) /\
 ∀(l:wg)(ws:List V)(ks:List (List Int)),H l=none->ws.length=ks.length->(∀(i:Nat)(v:V)(k:List Int),ws[i]? = some v->ks[i]? = some k->pS K H v k)->ks.Nodup->(∀x,x∈ks ↔ ∃j,j<vs.length/\key j=x) ->
  Q (.ref l) (upd H l (jm w l ws))
theorem Cy:∀{ws:List V}{us:List wf},aM ws us->∀{i:Nat}{q:wg},ws[i]? = some (.ref q)->us[i]? = some (.ref q)
 | _,_,.nil,i,q,h=>by simp at h
 | _,_,.cons r1 r2,0,q,h=>by
  simp only[xT,QE]at h ⊢;subst h;exact r1
 | _,_,.cons r1 r2,i+1,q,h=>by
  simp only[QC]at h ⊢;exact Cy r2 h
def nj:wf->V
 | .ref a=>.ref a
 | _=>.bC
theorem L4:∀(us:List wf),(∀u∈us,∃a,u=.ref a)->aM (us.map nj) us
 | [],_=>.nil
 | u::us,h=>by
  obtain⟨a,rfl⟩:=h u (wD ..);exact .cons rfl (L4 us λu hu=>h u (wA _ hu))
theorem Ny(es:List (Int × wf))(h:∀e∈es,∃a,e.2=.ref a):aM (es.map λe=>nj e.2) (es.map (·.2)):=by
 have:=L4 (es.map (·.2)) λu hu=>by
  obtain⟨e,he,rfl⟩:=wU.mp hu;exact h e he
 rwa[WD]at this
theorem l8{α : Type}[DecidableEq α]:∀{ks l:List α},ks.Nodup->(∀x∈ks,x∈l)->ks.length<=l.length
 | [],l,_,_=>Wy _
 | k::ks,l,h,hs=>by
  rw[W2]at h;have hk:=hs k (wD ..);have:=l8 (l:=l.erase k) h.2 λx hx=>(XD (λe=>h.1 (by rw[<- e];exact hx))).mpr (hs x (wA _ hx))
  rw[xM hk]at this;have:=VG hk;rw[vx]
  lia
theorem zsV(hu:X.A.units+64<cLine)(hc:X.calm=true):bK X (.type "set") (Cg X.K X.w):=by
 intro pins s σ H xs us Q I r h;obtain⟨p,vs,key,rfl,hq,hn,hk,q⟩:=h;obtain⟨u,rfl,rx⟩:=ff r;cases rx;obtain⟨its,r',pl,hz⟩:=I.list hq;have hlen:=r'.length
 have hx:∀j:Nat,∃ad:wg,∀v,vs[j]? = some v->v=.ref ad/\aI X.K H ad ((key j).map V.int):=λj=>by
  cases e:vs[j]? with
  | none=>exact⟨0,λv h=>by cases h⟩
  | some v =>
   obtain⟨ad,h1,h2⟩:=hk j v e;exact⟨ad,λv' h=>by cases h;exact⟨h1,h2⟩⟩
 obtain⟨ad,had⟩:∃ad:Nat->wg,∀j v,vs[j]? = some v->v=.ref (ad j)/\aI X.K H (ad j) ((key j).map V.int):=⟨λj=>(hx j).choose,λj=>(hx j).choose_spec⟩;have hg:∀j,j<its.length->∃v,vs[j]? = some v:=λj hj=>⟨vs[j]'(by lia),wc _⟩
 refine TB.Yx (knd:=intKind X.prog X.w) (U:=λa k=>aI X.K H a (k.map V.int)) M_ (key:=key) (ad:=ad) (I.ok.hd hc) hu pl.isList (λj v hv=>?_) (λj hj=>?_) (by lia) (λj hj=>?_) λg tk ks hS hm kp=>?_
 ·obtain⟨v',hv'⟩:=hg j (by rcases wB j its.length with h | h;exact h;rw[wQ h]at hv;cases hv)
  obtain⟨rfl,_⟩:=had j v' hv';have:=Cy r' hv';rw[hv]at this;exact wN this
 ·obtain⟨v',hv'⟩:=hg j hj
  exact I.key (had j v' hv').2
 ·obtain⟨v',hv'⟩:=hg j hj
  exact(had j v' hv').2
 ·obtain⟨o,es,ep,t,e1,e2,e3,e4,e5,e6,e7,e8,e9,e10⟩:=hS
  obtain⟨f1,f2⟩:=e9
  have kl:ks.length<=999:=Wb (l8 e10 (l:=(wq its.length).map key) λx hx=>by
   obtain⟨j,h1,h2⟩:=(hm x).mp hx;exact wU.mpr ⟨j,wF.mpr h1,h2⟩) (by rw[wm,ve];lia)
  have hz':es.size=ks.length:=by rw[<- f1,wI]
  have hr:∀e∈es.toList,∃a,e.2=.ref a:=λe he=>by
   obtain⟨i,hi⟩:=QQ.mp he;obtain⟨k,hk'⟩:∃k,ks[i]? = some k:=⟨_,wc (by rw[<- f1];exact(WJ.mp hi).1)⟩;obtain⟨a,h1,_⟩:=f2 i e k hi hk';exact⟨a,h1⟩
  refine⟨.ref s.heap.objs.size,_,I.laid (t':=tk) kp (wo _) (show cw X.prog X.w _ _ _ (jm X.w s.heap.objs.size (es.toList.map λe=>nj e.2))from⟨⟨es,ep,t,⟨⟨o,e1,e2,e3⟩,?_,?_,e4.jg,e8,e7,by lia⟩,?_⟩,⟨o,e1⟩,?_⟩),rfl,
   q _ _ ks (I.aA.fresh (wo _)) (by rw[wm];exact f1) (λi v k hv hk'=>?_) e10 λx=>by rw[hlen];exact hm x⟩
  ·have:=e4.fits
   rwa[wm,wI]at this
  ·rw[e4.size,wm,wI]
  ·exact Ny _ hr
  ·rintro h1 h2 ⟨es',ep',t',a1,a2⟩ hh
   exact⟨es',ep',t',a1.same hh,a2⟩
  ·rw[wx]at hv
   cases e:es.toList[i]? with
   | none=>rw[e]at hv;cases hv
   | some x =>
    rw[e]at hv;cases hv;obtain⟨a,h1,_,_,h2⟩:=f2 i x k e hk';exact⟨a,by show nj x.2=_;rw[h1];rfl,h2⟩
def Mw(w:World):List V->Hp->VK->Prop:=λxs H Q=>∃(p:wg)(ws:List V),xs=[.ref p]/\H p=some (jm w p ws)/\Q (.int (ws.length:Int)) H
theorem zvI : bK X (.builtin "len") (Mw X.w):=by
 intro pins s σ H xs us Q I r h;obtain⟨p,ws,rfl,hp,q⟩:=h;obtain⟨u,rfl,rx⟩:=ff r;cases rx;obtain⟨⟨es,ep,t,y,r'⟩,_,_⟩:=I.aA p _ hp;obtain⟨o,h1,h2,h3⟩:=y.at';have hl:ws.length=es.size:=by have:=r'.length;simpa using this
 have:=y.b8;exact PySem.call_len_set h1 h2 h3 y.fits (by lia) ⟨.int (ws.length:Int),H,I.tok _,⟨s.toks+1,by rw[hl]⟩,q⟩
end L2
namespace TB
open PySem PySem.W PyProof.Rows MeetsSeq
section
variable{prog:wE}{w:World}{A:w5}{s:wl}{R:Result->wl->Prop}
end
end TB
namespace L2
open PySem PySem.Spec PyProof.Rows GM
section
variable{K:wb}{w:World}{H H':Hp}{Q:VK}{v:V}{p l:wg}{xs ys:List Rat}{us ws:List V}
theorem u_{r:Rat} : Is K H v (N r) ↔ pS K H v [r.num,(r.den:Int)]:=lX
theorem zT{r s:Rat}(h:([r.num,(r.den:Int)]:List Int)=[s.num,(s.den:Int)]):r=s:=by
 simp only[Ul,and_true]at h;exact UA h.1 (by lia)
theorem CT:∀(ks:List (List Int)),(∀k∈ks,∃r:Rat,k=[r.num,(r.den:Int)])->∃ys:List Rat,ks=ys.map λr=>[r.num,(r.den:Int)]
 | [],_=>⟨[],rfl⟩
 | k::ks,h=>by
  obtain⟨r,rfl⟩:=h k (wD ..);obtain⟨ys,rfl⟩:=CT ks λk hk=>h k (wA _ hk)
  exact⟨r::ys,rfl⟩
theorem Cv:∀{ws:List V}{ys:List Rat},ws.length=ys.length->(∀(i:Nat)(v:V)(r:Rat),ws[i]? = some v->ys[i]? = some r->Is K H v (N r))->ao K H ws (ys.map N)
 | [],[],_,_=>.nil
 | [],_::_,h,_=>absurd h (by simp)
 | _::_,[],h,_=>absurd h (by simp)
 | v::ws,y::ys,h,hh=>.cons (hh 0 v y rfl rfl) (Cv (by simpa using h) λi v r h1 h2=>hh (i+1) v r (by simpa using h1) (by simpa using h2))
theorem zzk(h:Is K H v (LN xs))(hn:xs.length<=999)(q:∀(l:wg)(H':Hp)(ws:List V)(ys:List Rat),H l=none->aj H H'->H' l=some (jm w l ws)->ao K H' ws (ys.map N)->ys.Nodup->(∀y,y∈ys ↔ y∈xs)->Q (.ref l) H'):Cg K w [v] H Q:=by
 obtain⟨p,vs,rfl,hs,t⟩:=cf.mp h;have hl:=t.length;rw[wm]at hl;refine⟨p,vs,λj=>[(xs.getD j 0).num,((xs.getD j 0).den:Int)],rfl,hs,by lia,λj v hv=>u_.mp (dB t hv).2,λl ws ks h1 h2 h3 h4 h5=>?_⟩
 obtain⟨ys,rfl⟩:=CT ks λk hk=>by
  obtain⟨j,_,e⟩:=(h5 k).mp hk;exact⟨_,e.symm⟩
 have S:aj H (upd H l (jm w l ws)):=aj.upd h1;rw[wm]at h2;refine q l _ ws ys h1 S cA (Cv h2 λi v r hv hr=>(u_.mpr (h3 i v _ hv (by rw[wx,hr];rfl))).by S) ?_ λy=>?_
 ·unfold Us at h4 ⊢
  rw[V3]at h4;exact h4.imp λ{a b} h e=>h (by rw[e])
 ·have:=h5 [y.num,(y.den:Int)]
  constructor
  ·intro hy
   obtain⟨j,hj,e⟩:=this.mp (wU.mpr ⟨y,hy,rfl⟩);rw[<- zT e];exact getD_mem (by lia)
  ·intro hy
   obtain⟨j,hj,e⟩:=w6 hy;obtain⟨r,hr,er⟩:=wU.mp (this.mpr ⟨j,by lia,by show [(xs.getD j 0).num,((xs.getD j 0).den:Int)]=_;rw[wa,wc hj,qP,e]⟩);rw[<- zT er];exact hr
end
end L2
namespace TB
open PySem
section
variable{prog:wE}{w:World}{K:Type}[DecidableEq K]{knd:KeyKind prog w K}{U:wg->List K->Prop}{A:w5}{E:wf->wl->Prop}{s:wl}
set_option maxHeartbeats 3200000 in
theorem Yt(hv:∀k v,knd.is k v=true->∃i t,v=.int i t){l:wg}{its:List wf}{key:Nat->List K}{ad:Nat->wg}(hh:A.handled=none)(hu:A.units+64<cLine)(hl:s.heap.IsTuple l its.toArray)
  (hi:∀(i:Nat) v,its[i]? = some v->v=.ref (ad i)) (hk:∀i,i<its.length->vG knd s.heap (key i) (ad i)) (hn:its.length<=999) (hU:∀j,j<its.length->U (ad j) (key j)) {Q:wf->wl->Prop}
  (q:∀(g:wJ)(tk:Nat)(ks:List (List K)),TS knd U g s.heap.objs.size (cO w) ks->(∀x,x∈ks ↔ ∃j,j<its.length/\key j=x)->(∀b o,s.heap.get? b=some o->g.get? b=some o)->Q (.ref s.heap.objs.size) {s with heap:=g,toks:=tk}) :
  wt (model prog w) A (call (.type "set") [.ref l]) Q E s:=by
 obtain⟨c1,c2,mro⟩:=Ww.mro;have f1:=Ww.made;have f2:=Ww.sub;have f3:=Ww.notType;have f4:=Ww.canCreate;have f5:=u8 (.ref l);refine wpAny_call (codeAny_of_tree (show wt _ _ (callAny (.type "set") _) _ _ _ from ?_));refine wp ⟨ub _ (by decide +kernel),Vu uB ?_⟩;rw[uc (weight_type_call_type "set" [.ref l] []) rfl]
 repeat(any_goals(first | assumption | wp_step))
 have nd:=Pm (prog:=prog) (w:=w) (A:=A.in1) (E:=E) (s:=s) (.ref l) (Q:=λv s1=>v=.ref s.heap.objs.size/\s1 = {s with heap:=s.heap.push (dR (cO w))}) ⟨rfl,rfl⟩;refine VO nd λr s1 hr=>?_
 cases r with
 | error e=>exact hr
 | ok fl =>
  cases fl with
  | ret obj =>
   obtain⟨rfl,rfl⟩:=hr;have gS:(s.heap.push (dR (cO w))).get? s.heap.objs.size=some (dR (cO w)):=wO _ rfl;have tS:UP {s with heap:=s.heap.push (dR (cO w))} (.ref s.heap.objs.size) "set":=⟨_,gS,rfl⟩;have g1:=Ww.init.lookup;have g2:=Ww.init.bind (.ref s.heap.objs.size)
   repeat(any_goals(first | assumption | wp_step))
   refine VO (codeAny_call_builtin (R:=wants (λv s2=>v=.none /\ ∃g tk ks,s2 = {s with heap:=g,toks:=tk}/\TS knd U g s.heap.objs.size (cO w) ks/\(∀x,x∈ks ↔ ∃j,j<its.length/\key j=x) /\ ∀b o,s.heap.get? b=some o->g.get? b=some o) E)
    Ww.init.plain u9 (check_set_init_1 tS ?_)) λr2 s2 hr2=>?_
   ·obtain⟨ol,e1,e2,nl,e3⟩:=hl
    obtain⟨y1,y2,y3,y4⟩:=ol;dsimp only at e2 e3;subst e2;subst e3;have gl:(s.heap.push (dR (cO w))).get? l=some {cls:=.type "tuple",dict:=y2,data:=.seq its.toArray nl,slots:=y4}:=wn _ e1;have n1:=F.sub_tuple_set;have n2:=F.sub_tuple_frozenset;have n3:(Value.type "tuple" == Value.type "dict")=false:=by decide
    have il:(s.heap.push (dR (cO w))).IsTuple l its.toArray:=⟨_,gl,rfl,nl,rfl⟩;unfold Builtin.«set.__init__» noKeywords Q9;generalize hPI:pyIter=PI
    wp_walk
    subst hPI;refine Vo il ?_;refine we (wpAny_runValue ?_);have ls:l<s.heap.objs.size:=wz e1;have zs:(s.heap.push (dR (cO w))).objs.size=s.heap.objs.size+1:=W0 ..;have ne:l≠(s.heap.push (dR (cO w))).objs.size:=by rw[zs];exact wL (WS ls)
    have nf:s.heap.objs.size ∉ [(s.heap.push (dR (cO w))).objs.size,l]:=by
     rw[zs];intro hm;rcases wK.mp hm with e | hm
     ·exact absurd e (wL (Ua _))
     ·rcases wK.mp hm with e | hm
      ·exact absurd e (vn ls)
      ·cases hm
    have kp:∀b o,s.heap.get? b=some o->((s.heap.push (dR (cO w))).push {cls:=.type "tuple_iterator",data:=.fields #[.ref l,.int 0 0]}).get? b=some o:=λb o e=>wn _ (wn _ e)
    refine Mr hv ((Walks.tuple (by simp[hh]) _ l ne its.toArray).toS) (S:=s.heap.objs.size) nf (by show A.units+1+1+1<_;lia) (led:=cO w) (key:=key) (ad:=ad)
     (λi v hp=>hi i v (by simpa using hp)) ?hI (by simpa using hn) (λj hj=>hU j (by simpa using hj)) (its.toArray.size-0) 0 _ [] rfl (Wy _) ⟨⟨_,wO _ rfl,rfl,rfl⟩,il.at λo e=>wn _ e⟩
     (λj hj=>rH (hk j (by simpa using hj)) λo eo=>kp _ o eo) (TS.new (wn _ gS)) (λx=>⟨λh=>absurd h Vd,λ⟨j,j1,_⟩=>absurd j1 (WN _)⟩) (wo _) ?fin
    case hI =>
     intro i s9 a9 k9 st9 x9 hm;obtain⟨⟨o8,u1,u2,_⟩,_⟩:=st9;obtain⟨o9,_,_,v1,v2,_⟩:=x9;rcases wK.mp hm with e | hm
     ·subst e
      rw[u1]at v1;cases v1;rw[u2]at v2;exact absurd (UD v2) (by decide)
     ·cases hm
    case fin =>
     intro s9 ks9 mv f9 ts9 m9;obtain⟨g,x1,x2,x3,x4⟩:=s9;obtain rfl:x1=s.gens:=mv.gens;obtain rfl:x2=s.drawn:=mv.drawn;obtain rfl:x4=s.os:=mv.os;refine wp (wp ⟨rfl,g,x3,ks9,rfl,ts9,by simpa using m9,λb o e=>?_⟩);have lb:b<s.heap.objs.size:=wz e;refine mv.heap b o (λhm=>?_) (kp b o e);rcases wK.mp hm with e' | hm
     ·exact absurd e' (wL lb)
     ·rcases wK.mp hm with e' | hm
      ·rw[zs]at e';exact absurd e' (wL (WS lb))
      ·cases hm
   ·cases r2 with
    | error e=>exact hr2
    | ok fl2 =>
     cases fl2 with
     | ret v =>
      obtain⟨rfl,g,tk,ks,rfl,a1,a2,a3⟩:=hr2
      repeat(any_goals(first | assumption | wp_step))
      exact q g tk ks a1 a2 a3
     | _=>exact hr2.elim
  | _=>exact hr.elim
end
end TB
namespace L2
open PySem PySem.Spec PyProof.Rows GM
def FO(K:wb)(w:World):List V->Hp->VK->Prop:=λxs H Q=>∃(p:wg)(vs:List V)(key:Nat->List Int),xs=[.ref p]/\aI K H p vs/\vs.length<=999/\(∀j v,vs[j]? = some v->pS K H v (key j)) /\
 ∀(l:wg)(ws:List V)(ks:List (List Int)),H l=none->ws.length=ks.length->(∀(i:Nat)(v:V)(k:List Int),ws[i]? = some v->ks[i]? = some k->pS K H v k)->ks.Nodup->(∀x,x∈ks ↔ ∃j,j<vs.length/\key j=x) ->
  Q (.ref l) (upd H l (jm w l ws))
theorem zsG{X:Cx}(hu:X.A.units+64<cLine)(hc:X.calm=true):bK X (.type "set") (FO X.K X.w):=by
 intro pins s σ H xs us Q I r h;obtain⟨p,vs,key,rfl,hq,hn,hk,q⟩:=h;obtain⟨u,rfl,rx⟩:=ff r;cases rx;obtain⟨its,r',pl,hz⟩:=I.tuple hq;have hlen:=r'.length
 have hx:∀j:Nat,∃ad:wg,∀v,vs[j]? = some v->v=.ref ad/\aI X.K H ad ((key j).map V.int):=λj=>by
  cases e:vs[j]? with
  | none=>exact⟨0,λv h=>by cases h⟩
  | some v =>
   obtain⟨ad,h1,h2⟩:=hk j v e;exact⟨ad,λv' h=>by cases h;exact⟨h1,h2⟩⟩
 obtain⟨ad,had⟩:∃ad:Nat->wg,∀j v,vs[j]? = some v->v=.ref (ad j)/\aI X.K H (ad j) ((key j).map V.int):=⟨λj=>(hx j).choose,λj=>(hx j).choose_spec⟩;have hg:∀j,j<its.length->∃v,vs[j]? = some v:=λj hj=>⟨vs[j]'(by lia),wc _⟩
 refine TB.Yt (knd:=intKind X.prog X.w) (U:=λa k=>aI X.K H a (k.map V.int)) M_ (key:=key) (ad:=ad) (I.ok.hd hc) hu (let ⟨o,e,hc,n,hd⟩:=pl;⟨o,e,hc,n,hd⟩) (λj v hv=>?_) (λj hj=>?_) (by lia) (λj hj=>?_) λg tk ks hS hm kp=>?_
 ·obtain⟨v',hv'⟩:=hg j (by rcases wB j its.length with h | h;exact h;rw[wQ h]at hv;cases hv)
  obtain⟨rfl,_⟩:=had j v' hv';have:=Cy r' hv';rw[hv]at this;exact wN this
 ·obtain⟨v',hv'⟩:=hg j hj
  exact I.key (had j v' hv').2
 ·obtain⟨v',hv'⟩:=hg j hj
  exact(had j v' hv').2
 ·obtain⟨o,es,ep,t,e1,e2,e3,e4,e5,e6,e7,e8,e9,e10⟩:=hS
  obtain⟨f1,f2⟩:=e9
  have kl:ks.length<=999:=Wb (l8 e10 (l:=(wq its.length).map key) λx hx=>by
   obtain⟨j,h1,h2⟩:=(hm x).mp hx;exact wU.mpr ⟨j,wF.mpr h1,h2⟩) (by rw[wm,ve];lia)
  have hz':es.size=ks.length:=by rw[<- f1,wI]
  have hr:∀e∈es.toList,∃a,e.2=.ref a:=λe he=>by
   obtain⟨i,hi⟩:=QQ.mp he;obtain⟨k,hk'⟩:∃k,ks[i]? = some k:=⟨_,wc (by rw[<- f1];exact(WJ.mp hi).1)⟩;obtain⟨a,h1,_⟩:=f2 i e k hi hk';exact⟨a,h1⟩
  refine⟨.ref s.heap.objs.size,_,I.laid (t':=tk) kp (wo _) (show cw X.prog X.w _ _ _ (jm X.w s.heap.objs.size (es.toList.map λe=>nj e.2))from⟨⟨es,ep,t,⟨⟨o,e1,e2,e3⟩,?_,?_,e4.jg,e8,e7,by lia⟩,?_⟩,⟨o,e1⟩,?_⟩),rfl,
   q _ _ ks (I.aA.fresh (wo _)) (by rw[wm];exact f1) (λi v k hv hk'=>?_) e10 λx=>by rw[hlen];exact hm x⟩
  ·have:=e4.fits
   rwa[wm,wI]at this
  ·rw[e4.size,wm,wI]
  ·exact Ny _ hr
  ·rintro h1 h2 ⟨es',ep',t',a1,a2⟩ hh
   exact⟨es',ep',t',a1.same hh,a2⟩
  ·rw[wx]at hv
   cases e:es.toList[i]? with
   | none=>rw[e]at hv;cases hv
   | some x =>
    rw[e]at hv;cases hv;obtain⟨a,h1,_,_,h2⟩:=f2 i x k e hk';exact⟨a,by show nj x.2=_;rw[h1];rfl,h2⟩
section
variable{K:wb}{w:World}{H H':Hp}{Q:VK}{v:V}{p l:wg}{xs ys:List Rat}{us ws:List V}
theorem zwC(h:Is K H v (TN xs))(hn:xs.length<=999)(q:∀(l:wg)(H':Hp)(ws:List V)(ys:List Rat),H l=none->aj H H'->H' l=some (jm w l ws)->ao K H' ws (ys.map N)->ys.Nodup->(∀y,y∈ys ↔ y∈xs)->Q (.ref l) H'):FO K w [v] H Q:=by
 obtain⟨p,vs,rfl,hs,t⟩:=bQ.mp h;have hl:=t.length;rw[wm]at hl;refine⟨p,vs,λj=>[(xs.getD j 0).num,((xs.getD j 0).den:Int)],rfl,hs,by lia,λj v hv=>u_.mp (dB t hv).2,λl ws ks h1 h2 h3 h4 h5=>?_⟩
 obtain⟨ys,rfl⟩:=CT ks λk hk=>by
  obtain⟨j,_,e⟩:=(h5 k).mp hk;exact⟨_,e.symm⟩
 have S:aj H (upd H l (jm w l ws)):=aj.upd h1;rw[wm]at h2;refine q l _ ws ys h1 S cA (Cv h2 λi v r hv hr=>(u_.mpr (h3 i v _ hv (by rw[wx,hr];rfl))).by S) ?_ λy=>?_
 ·unfold Us at h4 ⊢
  rw[V3]at h4;exact h4.imp λ{a b} h e=>h (by rw[e])
 ·have:=h5 [y.num,(y.den:Int)]
  constructor
  ·intro hy
   obtain⟨j,hj,e⟩:=this.mp (wU.mpr ⟨y,hy,rfl⟩);rw[<- zT e];exact getD_mem (by lia)
  ·intro hy
   obtain⟨j,hj,e⟩:=w6 hy;obtain⟨r,hr,er⟩:=wU.mp (this.mpr ⟨j,by lia,by show [(xs.getD j 0).num,((xs.getD j 0).den:Int)]=_;rw[wa,wc hj,qP,e]⟩);rw[<- zT er];exact hr
end
end L2
namespace GM
section
variable(rs:List Int)(us ts:List (List Int))(ps cs:List Int)
end
section
variable{rs:List Int}{us ts:List (List Int)}{ps cs:List Int}
end
section
variable(rs:List Int)(us ts:List (List Int))(ps cs:List Int)
end
section
variable{rs:List Int}{us ts:List (List Int)}{ps cs:List Int}{f:Nat}{g:List Nat}{acc:List (List Nat)}
end
section
variable(rs:List Int)(us ts:List (List Int))(ps:List Int)(cm:List (List Int))
end
section
variable{rs:List Int}{us ts:List (List Int)}{ps:List Int}{cm:List (List Int)}
end
end GM
namespace L2
open PySem PySem.Spec PyProof.Rows GM
section
variable{K:wb}{H H':Hp}{Q:VK}{v:V}{rs ps:List Int}{us ts cm rows:List (List Int)}{m:Int}{ws:List (List Nat)}
end
theorem ZO{i:Nat}{te:TE}{ti:rB}{D:cu}{σ : L2.St}{H:Hp}(h:∃x,σ[i]? = some (some x)/\te σ H λy H1=>ti x y H1 λz H2=>D.nx (σ.set i (some z)) H2):NM i te ti D σ H:=h
theorem zAo{v:V}{P:V->Prop}{o:Option (Option V)}(h:o=some (some v))(q:P v):∃x,o=some (some x)/\P x:=⟨v,h,q⟩
theorem zB2{f:Int->Int->Int}{m n:Int}{H:Hp}{Q:VK}(q:Q (.int (f m n)) H):MF f (.int m) (.int n) H Q:=⟨m,n,rfl,rfl,q⟩
end L2
namespace TB
open PySem PySem.W PyProof.Rows
inductive dX{α β : Type}(R : α -> β -> Prop):List α -> List β -> Prop
 | nil:dX R [] []
 | cons {a : α} {b : β} {l:List α} {m:List β} : R a b->dX R l m->dX R (a::l) (b::m)
structure HV(prog:wE)(w:World)(K:Type)[DecidableEq K] where
 is:wJ->K->wf->Prop
 hash:K->Int
 draws:K->Nat
 deep:Nat
 inj:∀{h:wJ}{v:wf}{x y:K},is h x v->is h y v->x=y
 keeps:∀{h h':wJ}{k:K}{v:wf}{d:wg}{o:Obj}{es ep},is h k v->h.get? d=some o->o.data=.dict es ep->vv d h h'->is h' k v
 pyHash:∀{A:w5}{E:wf->wl->Prop}{s:wl}{k:K}{v:wf}{Q:Int->wl->Prop},A.units+deep<cLine->is s.heap k v->Q (hash k) {s with toks:=s.toks+draws k}->wt (model prog w) A (PySem.pyHash v) Q E s
 eqBool:∀{A:w5}{E:wf->wl->Prop}{s:wl}{x y:K}{u v:wf}{Q:Bool->wl->Prop},A.units+deep<cLine->is s.heap x u->is s.heap y v->Q (decide (x=y)) s->wt (model prog w) A (PySem.eqBool u v) Q E s
 quiet:∀{A:w5}{E:wf->wl->Prop}{s:wl}{k:K}{v:wf}{Q:Bool->wl->Prop}(n:Nat),deep<=n->is s.heap k v->Q true s->wt (model prog w) A (eqIsQuiet n v) Q E s
section
variable{prog:wE}{w:World}{A:w5}{E:wf->wl->Prop}{s:wl}
variable{a:wg}
theorem MA{o:Obj}{items:Array wf}{n:Nat}{hs:List (Int × Nat)}{Q:Int->wl->Prop}(hu:A.units<cLine)(ho:s.heap.get? a=some o)(hc:o.cls=.type "tuple")(hd:o.data=.seq items n)
  (hi:dX (λv (x:Int × Nat)=>∀(E:wf->wl->Prop)(Q:Int->wl->Prop)(s':wl),s'.heap=s.heap->Q x.1 {s' with toks:=s'.toks+x.2}->wt (model prog w) A.in1 (pyHash v) Q E s') items.toList hs)
  (h:Q (reduceHash (We (hs.map (·.1)))) {s with toks:=s.toks+((hs.map (·.2)).sum+1)}) :
  wt (model prog w) A (pyHash (.ref a)) Q E s:=by
 have hT:s.TypeIs (.ref a) "tuple":=⟨o,ho,hc⟩;unfold pyHash
 first | unfold pyHashByItsType | skip
 first | refine we (wpAny_cRoomFor_or (.inr hu) ?_) | skip
 refine we (qC hT qG.lookup ?_)
 show wt _ _ (if(some (Value.builtin "tuple.__hash__") == some Value.none)=true then _ else _) Q E s
 rw[if_neg (by rw[beq_builtin_none];exact vI)];refine we (qC hT qG.lookup ?_)
 show wt _ _ (callSpecialIfBoundUnlessNone? (.ref a) "__hash__" _ >>= _) Q E s
 refine we (wpAny_callSpecialIfBoundUnlessNone?_slot hT qG (vZ qG hT F.entry_tuple_hash ?_ (F.args_tuple_hash_1 _)))
 show wt _ _ (xq (.ref a) >>= _) _ _ s
 refine we (wpAny_tupleItemsOf ho hd ?_);refine we ?_;rw[<- VL]
 refine qo _
  (λb7 (b:Array Int) s'=>∃done left,hs=done++left/\dX (λv (x:Int × Nat)=>∀(E:wf->wl->Prop)(Q:Int->wl->Prop)(s':wl),s'.heap=s.heap->Q x.1 {s' with toks:=s'.toks+x.2}->wt (model prog w) A.in1 (pyHash v) Q E s') b7 left/\b.toList=done.map (·.1)/\s' = {s with toks:=s.toks+(done.map (·.2)).sum})
  _ ?_ ?_ _ _ ⟨[],hs,rfl,hi,rfl,rfl⟩
 ·rintro x b7 b s' ⟨done,left,rfl,hl,hb,rfl⟩
  cases hl with
  | @cons _ k _ ks' h1 hl' =>
   refine we (h1 _ _ _ rfl ?_)
   first
    | exact wp ⟨done++[k],ks',by simp,hl',by simp[hb],by simp[VW]⟩
    | exact we (wp (wp ⟨done++[k],ks',by simp,hl',by simp[hb],by simp[VW]⟩))
 ·rintro b s' ⟨done,left,rfl,hl,hb,rfl⟩
  cases hl;rw[vP]at h
  show wt _ _ (retInt (We b.toList)) _ _ _
  rw[hb];refine wpAny_ret_mkInt ?_
  show wt _ _ (if(decide (-(2:Int)^63<=We (done.map (·.1)))&&decide (We (done.map (·.1))<2^63))=true then _ else _) Q E _
  unfold reduceHash at h
  by_cases hr:(decide (-(2:Int)^63<=We (done.map (·.1)))&&decide (We (done.map (·.1))<2^63))=true
  ·rw[if_pos hr]
   rw[if_pos hr]at h;exact wp (by simpa [VW] using h)
  ·rw[if_neg hr]
   rw[if_neg hr]at h;exact we (qA (wp (by simpa [VW] using h)))
theorem zCO{b:wg}{oa ob:Obj}{xs ys:Array wf}{na nb:Nat}{bs:List Bool}{P:PySem.Fin->wl->Prop}(hoa:s.heap.get? a=some oa)(hda:oa.data=.seq xs na)(hob:s.heap.get? b=some ob)(hcb:ob.cls=.type "tuple")(hdb:ob.data=.seq ys nb)
  (hi:dX (λ(p:wf × wf)(c:Bool)=>∀(E:wf->wl->Prop)(Q:Bool->wl->Prop),Q c s->wt (model prog w) A (eqBool p.1 p.2) Q E s) (xs.toList.zip ys.toList) bs)
  (h:P (.done (.ret (.bool (bs.all id&&xs.size == ys.size)))) s) :
  wt (model prog w) A (Builtin.«tuple.__eq__» ⟨[.ref a,.ref b],[]⟩) P E s:=by
 have hTb:s.TypeIs (.ref b) "tuple":=⟨ob,hob,hcb⟩
 show wt _ _ (isInstance (.ref b) (.type "tuple") >>= _) _ _ s
 refine we (WY hTb isSubtype_tuple_tuple ?_);simp only[WK,w8,if_false];refine we (wpAny_tupleItemsOf hoa hda ?_);refine we (wpAny_tupleItemsOf hob hdb ?_);refine we ?_
 refine qo _
  (λb7 r s'=>r.1=none/\s'=s /\ ∃cs,dX (λ(p:wf × wf)(c:Bool)=>∀(E:wf->wl->Prop)(Q:Bool->wl->Prop),Q c s->wt (model prog w) A (eqBool p.1 p.2) Q E s) b7 cs/\bs.all id=cs.all id)
  _ ?_ ?_ _ _ ⟨rfl,rfl,bs,hi,rfl⟩
 ·rintro ⟨u,v⟩ b7 r s' ⟨hr,rfl,cs,hcs,hall⟩
  cases hcs with
  | @cons _ c _ cs' h1 h2 =>
   refine we (h1 _ _ ?_);cases c with
   | true =>
    simp only[WK,w8,if_false];exact wp ⟨rfl,rfl,cs',h2,by rw[hall];simp⟩
   | false =>
    simp only[Q4,if_true];have hf:bs.all id=false:=by rw[hall];simp
    rw[hf,Vg]at h;exact we (wp (wp (wp h)))
 ·rintro ⟨r1,r2⟩ s' ⟨hr,rfl,cs,hcs,hall⟩
  simp only at hr;subst hr;refine wp ?_;cases hcs;rw[hall]at h;have h':P (.done (.ret (.bool (xs.size == ys.size)))) s':=by simpa using h
  exact h'
theorem O5{o:Obj}{items:Array wf}{n m:Nat}{Q:Bool->wl->Prop}(ho:s.heap.get? a=some o)(hc:o.cls=.type "tuple")(hd:o.data=.seq items n)
  (hi:∀v∈items.toList,∀(E:wf->wl->Prop)(Q:Bool->wl->Prop),Q true s->wt (model prog w) A (eqIsQuiet m v) Q E s) (h:Q true s):wt (model prog w) A (eqIsQuiet (m+1) (.ref a)) Q E s:=by
 have hT:s.TypeIs (.ref a) "tuple":=⟨o,ho,hc⟩;unfold eqIsQuiet;refine we (qC hT x6.lookup ?_)
 show wt _ _ (isInstance (.ref a) (.type "tuple") >>= _) _ _ s
 refine we (WY hT isSubtype_tuple_tuple ?_);simp only[WK,w8,if_false];refine we (Wf ho hd ?_);refine we ?_
 show wt _ _ (forIn items _ _) _ _ s
 rw[<- VL];refine qo _ (λb7 r s'=>r.1=none/\s'=s /\ ∀v∈b7,v∈items.toList) _ ?_ ?_ _ _ ⟨rfl,rfl,λ_ h=>h⟩
 ·rintro v b7 r s' ⟨hr,rfl,hall⟩
  refine we (hi v (hall v wD) _ _ ?_);simp only[WK,w8,if_false];exact wp ⟨rfl,rfl,λu hu'=>hall u (wA _ hu')⟩
 ·rintro ⟨r1,r2⟩ s' ⟨hr,rfl,_⟩
  simp only at hr;subst hr;exact wp h
theorem Nr{b:wg}{oa ob:Obj}{xs ys:Array wf}{na nb:Nat}{bs:List Bool}{Q:Bool->wl->Prop}(hu:A.units<cLine)(hoa:s.heap.get? a=some oa)(hca:oa.cls=.type "tuple")(hda:oa.data=.seq xs na)(hob:s.heap.get? b=some ob)(hcb:ob.cls=.type "tuple")(hdb:ob.data=.seq ys nb)
  (he:a=b->(bs.all id&&xs.size == ys.size)=true)
  (hi:dX (λ(p:wf × wf)(c:Bool)=>∀(E:wf->wl->Prop)(Q:Bool->wl->Prop),Q c s->wt (model prog w) A.in1 (eqBool p.1 p.2) Q E s) (xs.toList.zip ys.toList) bs)
  (h:Q (bs.all id&&xs.size == ys.size) s):wt (model prog w) A (eqBool (.ref a) (.ref b)) Q E s:=by
 unfold eqBool
 try with_reducible refine vD ?_
 show wt _ _ (if(Value.ref a == Value.ref b)=true then _ else _) Q E s
 by_cases hab:(Value.ref a == Value.ref b)=true
 ·rw[if_pos hab]
  have e:a=b:=by have:=eq_of_beq hab;injection this
  rw[he e]at h;exact we (qA (wp h))
 ·rw[if_neg hab]
  have ta:s.TypeIs (.ref a) "tuple":=⟨oa,hoa,hca⟩;have tb:s.TypeIs (.ref b) "tuple":=⟨ob,hob,hcb⟩
  exact we (wpAny_richCompare_same_room (op:=.Eq) ta tb x6
   (vZ x6 ta F.entry_tuple_eq (zCO hoa hda hob hcb hdb hi ⟨_,rfl,(λe=>nomatch e),Wo h⟩) (F.args_tuple_eq_2 _ _)) hu)
end
def kK(R:List wf->Prop)(h:wJ)(v:wf):Prop:=∃a o items n,v=.ref a/\h.get? a=some o/\o.cls=.type "tuple"/\o.data=.seq items n/\R items.toList
theorem kK.inj{R S:List wf->Prop}{h:wJ}{v:wf}(x:kK R h v)(y:kK S h v):∃l,R l/\S l:=by
 obtain⟨a,o,items,n,rfl,ho,_,hd,hi⟩:=x;obtain⟨a',o',items',n',e,ho',_,hd',hi'⟩:=y;cases e;obtain rfl:o=o':=wN (ho.symm.trans ho');rw[hd]at hd'
 injection hd' with h1 _
 subst h1;exact⟨_,hi,hi'⟩
theorem kK.keeps{R S:List wf->Prop}{h h':wJ}{v:wf}{d:wg}{o:Obj}{es ep}(x:kK R h v)(ho:h.get? d=some o)(hd:o.data=.dict es ep)(hs:vv d h h')(r:∀l,R l->S l):kK S h' v:=by
 obtain⟨a,o',items,n,rfl,ho',hc,hd',hi⟩:=x
 have hne:a≠d:=by
  rintro rfl;obtain rfl:o'=o:=wN (ho'.symm.trans ho);rw[hd]at hd';exact nomatch hd'
 exact⟨a,o',items,n,rfl,(hs.2 a hne).trans ho',hc,hd',r _ hi⟩
def fJ(prog:wE)(w:World):HV prog w Int where
 is:=λ_ k v=>∃t,v=.int k t
 hash:=hashInt
 draws:=λ_=>1
 deep:=0
 inj:=λ⟨t,e⟩ ⟨u,f⟩=>by subst e;injection f
 keeps:=λh _ _ _=>h
 pyHash:=λ_ ⟨t,e⟩ h=>by subst e;exact wpAny_pyHash_int h
 eqBool:=λ_ ⟨t,e⟩ ⟨u,f⟩ h=>by subst e f;exact wpAny_eqBool_int h
 quiet:=λn _ ⟨t,e⟩ h=>by subst e;rw[eqIsQuiet_byValue n rfl];exact wp h
section
variable{prog:wE}{w:World}{K:Type}[DecidableEq K](e:HV prog w K)
theorem JG{A:w5}{s:wl}(hu:A.in1.units+e.deep<cLine):∀{ks:List K}{vs:List wf},dX (e.is s.heap) ks vs ->
  dX (λv (x:Int × Nat)=>∀(E:wf->wl->Prop)(Q:Int->wl->Prop)(s':wl),s'.heap=s.heap->Q x.1 {s' with toks:=s'.toks+x.2}->wt (model prog w) A.in1 (pyHash v) Q E s') vs (ks.map λk=>(e.hash k,e.draws k))
 | _,_,.nil=>.nil
 | _,_,.cons h t=>.cons (λE Q s' he q=>e.pyHash hu (he ▸ h) q) (JG hu t)
theorem MY{A:w5}{s:wl}(hu:A.in1.units+e.deep<cLine):∀{ks js:List K}{us vs:List wf},dX (e.is s.heap) ks us->dX (e.is s.heap) js vs ->
  ∃bs,dX (λ(p:wf × wf)(c:Bool)=>∀(E:wf->wl->Prop)(Q:Bool->wl->Prop),Q c s->wt (model prog w) A.in1 (eqBool p.1 p.2) Q E s) (us.zip vs) bs/\(bs.all id&&us.length == vs.length)=decide (ks=js)
 | _,_,_,_,.nil,.nil=>⟨[],.nil,by simp⟩
 | _,_,_,_,.nil,.cons _ _=>⟨[],.nil,by simp⟩
 | _,_,_,_,.cons _ _,.nil=>⟨[],.nil,by simp⟩
 | k::ks,j::js,_,_,.cons h t,.cons h' t'=>by
  obtain⟨bs,b1,b2⟩:=MY hu t t';refine⟨decide (k=j)::bs,.cons (λE Q q=>e.eqBool hu h h' q) b1,?_⟩;rw[XF,Bool.and_assoc,vx,vx,show ∀a b:Nat,(a+1 == b+1)=(a == b)from λa b=>by simp,b2]
  by_cases h1:k=j<;>by_cases h2:ks=js<;>simp[h1,h2]
theorem CG{h:wJ} : ∀{ks js:List K}{vs:List wf},dX (e.is h) ks vs->dX (e.is h) js vs->ks=js
 | _,_,_,.nil,.nil=>rfl
 | _,_,_,.cons h t,.cons h' t'=>by rw[e.inj h h',CG t t']
theorem Lm{α β : Type}{R S : α -> β -> Prop}(f:∀a b,R a b->S a b):∀{l:List α}{m:List β},dX R l m->dX S l m
 | _,_,.nil=>.nil
 | _,_,.cons h t=>.cons (f _ _ h) (Lm f t)
theorem JH{α β : Type}{R : α -> β -> Prop} : ∀{l:List α}{m:List β},dX R l m->∀y∈m,∃x,R x y
 | _,_,.nil,y,hy=>by cases hy
 | _,_,.cons h t,y,hy=>by
  rcases wK.mp hy with rfl | hy
  ·exact⟨_,h⟩
  ·exact JH t y hy
def fN:HV prog w (List K) where
 is:=λh ks v=>kK (dX (e.is h) ks) h v
 hash:=λks=>reduceHash (We ((ks.map λk=>(e.hash k,e.draws k)).map (·.1)))
 draws:=λks=>((ks.map λk=>(e.hash k,e.draws k)).map (·.2)).sum+1
 deep:=e.deep+1
 inj:=λx y=>by
  obtain⟨l,h1,h2⟩:=x.inj y;exact CG e h1 h2
 keeps:=λx ho hd hs=>x.keeps ho hd hs λl h=>Lm (λa b r=>e.keeps r ho hd hs) h
 pyHash:=λ{A E s k v Q} hu x h=>by
  obtain⟨a,o,items,n,rfl,ho,hc,hd,hi⟩:=x;exact MA (by lia) ho hc hd (JG e (show A.units+1+e.deep<cLine by lia) hi) h
 eqBool:=λ{A E s x y u v Q} hu hx hy h=>by
  have hj:u=v->x=y:=λev=>by
   subst ev;obtain⟨l,h1,h2⟩:=hx.inj hy;exact CG e h1 h2
  obtain⟨a,o,items,n,rfl,ho,hc,hd,hi⟩:=hx;obtain⟨a',o',items',n',rfl,ho',hc',hd',hi'⟩:=hy;obtain⟨bs,b1,b2⟩:=MY e (A:=A) (show A.units+1+e.deep<cLine by lia) hi hi';have b3:(bs.all id&&items.size == items'.size)=decide (x=y):=by rw[<- b2];rfl
  refine Nr (by lia) ho hc hd ho' hc' hd' (λea=>?_) b1 (by rw[b3];exact h);rw[b3];exact decide_eq_true (hj (by rw[ea]))
 quiet:=λ{A E s k v Q} n hn x h=>by
  obtain⟨a,o,items,m,rfl,ho,hc,hd,hi⟩:=x;obtain⟨j,rfl⟩:∃j,n=j+1:=⟨n-1,by lia⟩
  exact O5 ho hc hd (λu hu E Q q=>by
   obtain⟨x,hx⟩:=JH hi u hu;exact e.quiet j (by lia) hx q) h
end
section
variable{prog:wE}{w:World}{J K:Type}[DecidableEq J][DecidableEq K](d:HV prog w J)(e:HV prog w K)
def Two(h:wJ)(k:J × K)(l:List wf):Prop:=∃u v,l=[u,v]/\d.is h k.1 u/\e.is h k.2 v
def Ks:HV prog w (J × K) where
 is:=λh k v=>kK (Two d e h k) h v
 hash:=λk=>reduceHash (We ([(d.hash k.1,d.draws k.1),(e.hash k.2,e.draws k.2)].map (·.1)))
 draws:=λk=>([(d.hash k.1,d.draws k.1),(e.hash k.2,e.draws k.2)].map (·.2)).sum+1
 deep:=max d.deep e.deep+1
 inj:=λ{h v x y} hx hy=>by
  obtain⟨l,⟨u,v,rfl,h1,h2⟩,u',v',e',h3,h4⟩:=hx.inj hy;cases e';exact VT (d.inj h1 h3) (e.inj h2 h4)
 keeps:=λx ho hd hs=>x.keeps ho hd hs λl ⟨u,v,r,h1,h2⟩=>⟨u,v,r,d.keeps h1 ho hd hs,e.keeps h2 ho hd hs⟩
 pyHash:=λ{A E s k v Q} hu x h=>by
  obtain⟨a,o,items,n,rfl,ho,hc,hd,u,v,hl,h1,h2⟩:=x
  exact MA (by lia) ho hc hd (by
   rw[hl];exact .cons (λE Q s' he q=>d.pyHash (show A.units+1+d.deep<cLine by lia) (he ▸ h1) q) (.cons (λE Q s' he q=>e.pyHash (show A.units+1+e.deep<cLine by lia) (he ▸ h2) q) .nil)) h
 eqBool:=λ{A E s x y u v Q} hu hx hy h=>by
  have hj:u=v->x=y:=λev=>by
   subst ev;obtain⟨l,⟨u,v,rfl,h1,h2⟩,u',v',e',h3,h4⟩:=hx.inj hy;cases e';exact VT (d.inj h1 h3) (e.inj h2 h4)
  obtain⟨a,o,items,n,rfl,ho,hc,hd,u,v,hl,h1,h2⟩:=hx;obtain⟨a',o',items',n',rfl,ho',hc',hd',u',v',hl',h1',h2'⟩:=hy
  have b3:([decide (x.1=y.1),decide (x.2=y.2)].all id&&items.size == items'.size)=decide (x=y):=by
   rw[<- wI,<- wI,hl,hl'];obtain⟨x1,x2⟩:=x;obtain⟨y1,y2⟩:=y
   by_cases h1:x1=y1<;>by_cases h2:x2=y2<;>simp[h1,h2]
  refine Nr (bs:=[decide (x.1=y.1),decide (x.2=y.2)]) (by lia) ho hc hd ho' hc' hd' (λea=>?_) ?_ (by rw[b3];exact h)
  ·rw[b3]
   exact decide_eq_true (hj (by rw[ea]))
  ·rw[hl,hl']
   exact .cons (λE Q q=>d.eqBool (show A.units+1+d.deep<cLine by lia) h1 h1' q) (.cons (λE Q q=>e.eqBool (show A.units+1+e.deep<cLine by lia) h2 h2' q) .nil)
 quiet:=λ{A E s k v Q} n hn x h=>by
  obtain⟨a,o,items,m,rfl,ho,hc,hd,u,v,hl,h1,h2⟩:=x;obtain⟨j,rfl⟩:∃j,n=j+1:=⟨n-1,by lia⟩
  exact O5 ho hc hd (λu hu E Q q=>by
   rw[hl]at hu;rcases wK.mp hu with rfl | hu
   ·exact d.quiet j (by lia) h1 q
   ·rw[vi]at hu
    subst hu;exact e.quiet j (by lia) h2 q) h
end
abbrev SK:=List Int × List (List Int)
def kq(prog:wE)(w:World):HV prog w SK:=Ks (fN (fJ prog w)) (fN (fN (fJ prog w)))
def zCU(prog:wE)(w:World):HeapKind prog w SK where
 is:=λh k a=>(kq prog w).is h k (.ref a)
 hash:=(kq prog w).hash
 draws:=(kq prog w).draws
 room:=λA=>A.units+3<cLine
 inj:=λx y=>(kq prog w).inj x y
 keeps:=λx ho hd hs=>(kq prog w).keeps x ho hd hs
 pyHash:=λhu hk h=>(kq prog w).pyHash hu hk h
 eqBool:=λhu hx hy h=>(kq prog w).eqBool hu hx hy h
 quiet:=λhk h=>(kq prog w).quiet 8 (by show 3<=8;decide) hk h
end TB
namespace L2
open PySem PySem.Spec PyProof.Rows GM
open TB (SK zCU kq fN fJ Ks dX)
theorem O2{P:wE}{w:World}{h:wJ} : ∀{us:List wf}{ns:List Int},IntsAre us ns->dX ((fJ P w).is h) ns us
 | _,_,.nil=>.nil
 | _,_,.cons n t r=>.cons ⟨t,rfl⟩ (O2 r)
section
variable{X:Cx}{pins:List (wg × Obj)}{σ : St}{H:Hp}{s:wl}
theorem Inv.Y_(I:Inv X pins σ H s){v:V}{u:wf}{k:List Int}(h:Is X.K H v (TZ k))(r:aP v u):(fN (fJ X.prog X.w)).is s.heap k u:=by
 obtain⟨q,rfl,hs⟩:=oU.mp h;obtain⟨its,r',⟨o,e,hc,n,hd⟩,_⟩:=I.tuple hs;cases (show u=Value.ref q from r);exact⟨q,o,its.toArray,n,rfl,e,hc,hd,O2 (zb r')⟩
end
def zD3(l:List (Int × Nat)):Int:=reduceHash (We (l.map (·.1)))
def zDT(ks:List Int):Int:=zD3 (ks.map λk=>(hashInt k,1))
section
variable{X:Cx}{pins:List (wg × Obj)}{σ : St}{H:Hp}{s:wl}{a b:wg}{xs:List (SK × wg × Int)}{ps:List Int}{cm:List (List Int)}{A:w5}{E:wf->wl->Prop}
end
section
variable{X:Cx}{pos pos':Pos}{i o value:Expr}{ty td tv:TE}
end
section
variable{K:wb}{H H':Hp}{Q:VK}{D:cu}{σ : St}{td ty tv:TE}{a b:wg}{xs:List (SK × wg × Int)}{ps:List Int}{cm:List (List Int)}{n:Int}
end
section
variable{X:Cx}{N':List Str}{scope:Scope}{cl:List (Str × wg)}{src:List (Option Nat)}{elt tgt iter:Expr}{ifs:List Expr}{pos:Pos}{wi:TI}{g:TG}{tt:TT}{te:TE}
end
end L2
namespace TB
open PySem PySem.Spec PyProof.Rows
def dy(prog:wE)(w:World):HeapKind prog w (List Int) where
 is:=λh k a=>(fN (fJ prog w)).is h k (.ref a)
 hash:=(fN (fJ prog w)).hash
 draws:=(fN (fJ prog w)).draws
 room:=λA=>A.units+1<cLine
 inj:=λx y=>(fN (fJ prog w)).inj x y
 keeps:=λx ho hd hs=>(fN (fJ prog w)).keeps x ho hd hs
 pyHash:=λhu hk h=>(fN (fJ prog w)).pyHash hu hk h
 eqBool:=λhu hx hy h=>(fN (fJ prog w)).eqBool hu hx hy h
 quiet:=λhk h=>(fN (fJ prog w)).quiet 8 (by show 1<=8;decide) hk h
section
variable{prog:wE}{w:World}{K:Type}[DecidableEq K]{knd:HeapKind prog w K}{A:w5}{E:wf->wl->Prop}{s:wl}
end
end TB
namespace L2
open PySem PySem.Spec PyProof.Rows GM
open TB (dy fN fJ)
abbrev NE:=List Int × wg × wg
def oG(x:NE)(e:DictEntry):Prop:=e=⟨zDT x.1,.ref x.2.1,.ref x.2.2⟩
def ik(a:wg)(ep:Nat)(xs:List NE):HO:=.ext λh=>xs.length<=1000/\(a == Vb)=false/\(xs.map (·.1)).Nodup /\ ∃o es,h.get? a=some o/\o.ExactDict/\o.data=.dict es ep/\Paired oG xs es.toList
def zr(K:wb)(H:Hp)(xs:List NE):Prop:=∀x∈xs,Is K H (.ref x.2.1) (TZ x.1)
def lD(xs:List NE)(k:List Int):Option wg:=(xs.find? λx=>decide (x.1=k)).map (·.2.2)
theorem zzH{P:wE}{w:World}{H:Hp}{h:wJ}{a:wg}{ep:Nat}{xs:List NE}(z:xs.length<=1000)(hd:(a == Vb)=false)(nd:(xs.map (·.1)).Nodup){o:Obj}{es:Array DictEntry}(ho:h.get? a=some o)(hx:o.ExactDict)(hda:o.data=.dict es ep)(r:Paired oG xs es.toList) :
  cw P w H h a (ik a ep xs):=⟨⟨z,hd,nd,o,es,ho,hx,hda,r⟩,⟨o,ho⟩,λh1 h2 ⟨z,hd,nd,o,es,ho,q⟩ k=>⟨z,hd,nd,o,es,k _ ho,q⟩⟩
def jd(xs:List NE):List (List Int × wg × wf):=xs.map λx=>(x.1,x.2.1,.ref x.2.2)
theorem zDf{P:wE}{w:World}{xs:List NE}{es:List DictEntry}(r:Paired oG xs es):es=(jd xs).map (entryOfKey (dy P w)):=by
 induction r with
 | nil=>rfl
 | @cons x e xs es hx r ih =>
  show e::es=_::(jd xs).map (entryOfKey (dy P w))
  rw[<- ih,show e=_ from hx]
  rfl
theorem Oa{P:wE}{w:World} : ∀xs:List NE,Paired oG xs ((jd xs).map (entryOfKey (dy P w)))
 | []=>.nil
 | x::xs=>.cons rfl (Oa xs)
theorem zCJ(xs:List NE)(k:List Int):(atKey (jd xs) k).map (·.2)=(lD xs k).map Value.ref:=by
 induction xs with
 | nil=>rfl
 | cons x xs ih =>
  unfold atKey lD jd at *;rw[wV,Vr,Vr]
  by_cases e:x.1=k
  ·simp[e]
  ·simp only[e,decide_false]
   exact ih
section
variable{X:Cx}{pins:List (wg × Obj)}{σ : St}{H:Hp}{s:wl}{a b q:wg}{ep:Nat}{xs:List NE}{k:List Int}{A:w5}{E:wf->wl->Prop}
theorem Inv.nK(I:Inv X pins σ H s)(h:Is X.K H (.ref b) (TZ k)):(dy X.prog X.w).is s.heap k b:=I.Y_ h rfl
theorem Inv.Jp(I:Inv X pins σ H s)(e:H a=some (ik a ep xs)):xs.length<=1000/\(a == Vb)=false/\(xs.map (·.1)).Nodup /\ ∃o es,s.heap.get? a=some o/\o.ExactDict/\o.data=.dict es ep/\Paired oG xs es.toList :=
 (show cw X.prog X.w H s.heap a (ik a ep xs)from I.aA a _ e).1
end
section
variable{X:Cx}{o e f:Expr}{apos cpos pos:Pos}{td ty tx:TE}{tg:Expr}
end
section
variable{K:wb}{H H':Hp}{Q:VK}{D:cu}{σ : St}{td ty tx te:TE}{g:TG}{tt:TT}{a b q:wg}{ep:Nat}{xs:List NE}{k:List Int}{src:List (Option Nat)}
end
section
variable{X:Cx}{N':List Str}{scope:Scope}{cl:List (Str × wg)}{src:List (Option Nat)}{elt tgt iter:Expr}{ifs:List Expr}{pos:Pos}{wi:TI}{g:TG}{tt:TT}{te:TE}
end
end L2
namespace TB
open PySem PySem.W PyProof.Rows
theorem Px:entryFor table "dict.update.loop"=some Builtin.«dict.update.loop»:=entryFor_of_tree (by kernel_rfl)
theorem y_:plainId "dict.update.loop"=true:=by decide +kernel
theorem zsI:typeLookup (.type "zip") "keys"=pure none:=am_miss_of_fast (by decide +kernel)
theorem Zn:typeLookup (.type "zip") "__getattr__"=pure none:=by rw[typeLookup_type,builtinLookup_eq_fast];kernel_rfl
theorem zfV:entryFor table "zip.__getattribute__"=some Builtin.«object.__getattribute__» :=
 entryFor_alias (id':="object.__getattribute__") (by kernel_rfl) (by decide +kernel) (by decide +kernel) (by kernel_rfl)
theorem zrI(a:wg)(fs:Array wf)(sl:Array (Option wf))(name:Str)(u:Tok)(hmiss:typeLookup (.type "zip") name=pure none)(hname:(["__module__","__name__","__qualname__","__doc__","__annotations__"]:List Str).contains name=false)(hsz:name.length+100<=wZ:=by size_fits) :
  Meets (Builtin.«object.__getattribute__» ⟨[.ref a,.str name u],[]⟩) (λA R s=>s.heap.get? a=some {cls:=.type "zip",dict:=none,data:=.fields fs,slots:=sl}/\raisesAttr (.ref a) name A R s) :=
 Meets.of_wp λprog w A R s hs=>by
  obtain⟨hp,g,d,tk,os⟩:=s;obtain⟨hx,hs⟩:=hs;have hT:(⟨hp,g,d,tk,os⟩:wl).TypeIs (.ref a) "zip":=⟨_,hx,rfl⟩;unfold Builtin.«object.__getattribute__»
  repeat(any_goals(first | assumption | wp_step))
  simp only[hname,w8,if_false]
  repeat(any_goals(first | assumption | wp_step))
  exact wpAny_raiseAttrError hs.1 hs.2 (attrMsg_fits (by decide +kernel) hsz)
section
variable{prog:wE}{w:World}{A:w5}{E:wf->wl->Prop}{s:wl}
theorem zzj{a:wg}{fs:Array wf}{sl:Array (Option wf)}{Q:Option wf->wl->Prop}
  (hx:s.heap.get? a=some {cls:=.type "zip",dict:=none,data:=.fields fs,slots:=sl}) (hA:A.handled=none)
  (q:∀h' tk,(∀b ob,s.heap.get? b=some ob->h'.get? b=some ob)->Q none {s with heap:=h',toks:=tk}) :
  wt (model prog w) A (getAttr? (.ref a) "keys") Q E s:=by
 obtain⟨hp,g,d,tk,os⟩:=s;have hT:∀tk',(⟨hp,g,d,tk',os⟩:wl).TypeIs (.ref a) "zip":=λ_=>⟨_,hx,rfl⟩
 have f1:=sub_AttributeError;have f3:=qE.lookup;have f4:=qE.bind (.ref a);have f5:=Zn;unfold getAttr? getAttrBy? getAttrBy
 repeat(any_goals(first | assumption | exact hT _ | ((with_reducible show wt _ _ (call (Value.builtin "zip.__getattribute__") _ _) _ _ _);refine call_meets qE (hT _) zfV (PySem.F.args_zip_getattribute_2 _ _) (zrI a fs sl "keys" _ zsI (by decide +kernel)) ⟨hx,hA,λh' tk' e hx'=>?_⟩) | wp_step))
 obtain⟨t',u',he⟩:=hx'.there
 show wt _ _ (getattributeRaised _ _ _ _ _ _ _) _ _ _
 unfold getattributeRaised
 repeat(any_goals(first | assumption | wp_step))
 exact q _ _ hx'.keeps
theorem zwO{p:wg}{x y:wf}(h:WM s.heap p x y){Q:List wf->wl->Prop}(q:Q [x,y] s):wt (model prog w) A (Xk (.ref p)) Q E s:=by
 have hT:s.TypeIs (.ref p) "tuple":=⟨_,h,rfl⟩;unfold Xk;refine we (wpAny_typeOf hT ?_);rw[if_pos (by decide)];refine we (Wf h rfl ?_);exact wp q
abbrev lJ(h:wJ)(z TI TO p:wg)(f:Bool):Prop :=
 h.get? z=some {cls:=.type "zip",dict:=none,data:=.fields #[V6 p,.bool f,.bool false,.ref TI,.ref TO],slots:=#[]}
end
section
variable{prog:wE}{w:World}{A:w5}{E:wf->wl->Prop}{s:wl}{z TI TO i1 i2 p:wg}{f:Bool}{f1 f2:List wg}{n1 n2 k:Nat}{P1 P2:Nat->wf->Prop}{S1 S2:Nat->wJ->Prop}{a b:wf}
variable{op:Obj}
theorem NF{Q:Bool->wl->Prop}(hz:lJ s.heap z TI TO p f)(hp:s.heap.get? p=some op)
  (q:∀g,lJ g z TI TO p true->vv z s.heap g->Q false {s with heap:=g}):wt (model prog w) A (vM (.ref z)) Q E s:=by
 unfold vM;refine we (vt hz rfl (x:=V6 p) rfl ?_)
 show wt _ _ (loadIfAlive ((p:Int).toNat) >>= _) _ _ _
 rw[wY];refine we (kdx_alive hp ?_);simp only[Option.isNone_some,w8,if_false];refine we (vt hz rfl (x:=.bool f) rfl ?_);cases f with
 | true =>
  rw[if_neg (show ¬ ((Value.bool true != Value.bool true)=true)from vI)];exact wp (q _ hz (uA _ _))
 | false =>
  rw[if_pos (show(Value.bool false != Value.bool true)=true from rfl)];refine we (Vp hz (by simp) λg hg sb=>?_);exact wp (q g hg sb)
theorem zD5{Q:wf->wl->Prop}(D1:Draws prog w A i1 f1 n1 P1 S1)(D2:Draws prog w A i2 f2 n2 P2 S2)(ap:L2.ZA z TI TO i1 i2 f1 f2)(hz:lJ s.heap z TI TO p f)(hi:WM s.heap TI (.ref i1) (.ref i2))(hp:s.heap.get? p=some op)
  (h1:S1 k s.heap) (h2:S2 k s.heap) (l1:k<n1) (l2:k<n2)
  (fin:∀x y h' tk,P1 k x->P2 k y->lJ h' z TI TO p true->S1 (k+1) h'->S2 (k+1) h'->WM h' s.heap.objs.size x y ->
   (∀c o,c≠z->c≠i1->c≠i2->s.heap.get? c=some o->h'.get? c=some o)->Q (.ref s.heap.objs.size) {s with heap:=h',toks:=tk}) :
  wt (model prog w) A (Builtin.«zip.__next__» ⟨[.ref z],[]⟩) (λr s'=>∃v,r=.done (.ret v)/\Q v s') E s:=by
 show wt _ _ (field (.ref z) 2 >>= _) _ _ _;refine we (vt hz rfl (x:=.bool false) rfl ?_)
 show wt _ _ (field (.ref z) 3 >>= _) _ _ _;refine we (vt hz rfl (x:=.ref TI) rfl ?_)
 refine we (Wf hi rfl ?_);show wt _ _ (vM (.ref z) >>= _) _ _ _
 refine we (NF hz hp λg0 hz0 sb0=>?_);have sb0:vv z s.heap g0:=sb0;simp only[w8,if_false];refine we ?_;rw[<- VL];simp only[Qg,Q7];have h1a:S1 k g0:=D1.frame _ _ _ h1 λc hc o e=>sb0.extBut c o (λq=>ap.b1 (q ▸ hc)) e
 have h2a:S2 k g0:=D2.frame _ _ _ h2 λc hc o e=>sb0.extBut c o (λq=>ap.b2 (q ▸ hc)) e
 refine we (we (vD ?_))
 show wt _ _ (vN (.ref i1) >>= _) _ _ _
 refine we (D1.item k _ _ _ l1 h1a λx g1 t1 px h1b sb1=>wp ?_);have sb1:vv i1 g0 g1:=sb1;have h2b:S2 k g1:=D2.frame _ _ _ h2a λc hc o e=>sb1.extBut c o (λq=>ap.b5 (q ▸ hc)) e
 refine wp ?_;refine we (we (vD ?_))
 show wt _ _ (vN (.ref i2) >>= _) _ _ _
 refine we (D2.item k _ _ _ l2 h2b λy g2 t2 py h2c sb2=>wp ?_);have sb2:vv i2 g1 g2:=sb2;have h1c:S1 (k+1) g2:=D1.frame _ _ _ h1b λc hc o e=>sb2.extBut c o (λq=>ap.b6 (q ▸ hc)) e
 refine wp (wp ?_);refine we (wpAny_newTuple (hsz:=by show 2<=wZ;rw[qY];decide) ?_);have hsz:g2.objs.size=s.heap.objs.size:=by rw[sb2.1,sb1.1,sb0.1]
 have kept:∀c o,c≠z->c≠i1->c≠i2->s.heap.get? c=some o->g2.get? c=some o:=λc o c1 c3 c4 e=>sb2.extBut _ _ c4 (sb1.extBut _ _ c3 (sb0.extBut _ _ c1 e))
 have zz:lJ g2 z TI TO p true:=sb2.extBut _ _ ap.a4.symm (sb1.extBut _ _ ap.a3.symm hz0);refine wp ⟨_,rfl,?_⟩
 show Q (.ref g2.objs.size) _
 have new:WM (g2.push {cls:=.type "tuple",data:=.seq #[x,y]}) g2.objs.size x y:=wO _ rfl;rw[hsz]at new ⊢;exact fin x y _ _ px py (wn _ zz) (D1.frame _ _ _ h1c λc hc o e=>wn _ e) (D2.frame _ _ _ h2c λc hc o e=>wn _ e) new λc o c1 c3 c4 e=>wn _ (kept c o c1 c3 c4 e)
theorem zDx{Q:Fin->wl->Prop}(D1:Draws prog w A i1 f1 n1 P1 S1)(ap:L2.ZA z TI TO i1 i2 f1 f2)(hz:lJ s.heap z TI TO p f)(hi:WM s.heap TI (.ref i1) (.ref i2))(hp:s.heap.get? p=some op)(h1:S1 n1 s.heap)
  (fin:∀h' e tk,(∀c o,c≠z->c≠i1->s.heap.get? c=some o->h'.get? c=some o)->(∃o,h'.get? e=some o/\o.cls=.type "StopIteration")->E (.ref e) {s with heap:=h',toks:=tk}) :
  wt (model prog w) A (Builtin.«zip.__next__» ⟨[.ref z],[]⟩) Q E s:=by
 show wt _ _ (field (.ref z) 2 >>= _) _ _ _;refine we (vt hz rfl (x:=.bool false) rfl ?_)
 show wt _ _ (field (.ref z) 3 >>= _) _ _ _;refine we (vt hz rfl (x:=.ref TI) rfl ?_)
 refine we (Wf hi rfl ?_);show wt _ _ (vM (.ref z) >>= _) _ _ _
 refine we (NF hz hp λg0 hz0 sb0=>?_);have sb0:vv z s.heap g0:=sb0;simp only[w8,if_false];refine we ?_;rw[<- VL];simp only[Qg,Q7];have h1a:S1 n1 g0:=D1.frame _ _ _ h1 λc hc o e=>sb0.extBut c o (λq=>ap.b1 (q ▸ hc)) e
 refine we (we (vD ?_))
 show wt _ _ (vN (.ref i1) >>= _) _ _ _
 exact we (D1.done _ _ _ h1a λg1 e sb1 he=>fin g1 e _ (λc o c1 c3 q=>sb1 _ _ c3 (sb0.extBut _ _ c1 q)) he)
end
theorem oB{prog:wE}{w:World}{h h':wJ}{k:List Int}{a:wg}(x:(dy prog w).is h k a)(e:∀o,h.get? a=some o->h'.get? a=some o):(dy prog w).is h' k a:=by
 obtain⟨a',o,items,n,ea,ho,hc,hd,r⟩:=x;cases ea;exact⟨a,o,items,n,rfl,e o ho,hc,hd,r⟩
def jU(base:wg)(h h':wJ):Prop:=∀b o,b<base->h.get? b=some o->h'.get? b=some o
theorem jU.trans{base:wg}{h h' h'':wJ}(x:jU base h h')(y:jU base h' h''):jU base h h'':=λb o hb e=>y b o hb (x b o hb e)
structure ZB(base z TI TO i1 i2 d a b:wg):Prop where
 ap:L2.ZA z TI TO i1 i2 [i1,a] [i2,b]
 na:a≠i1
 nb:b≠i2
 bz:base<=z
 bO:base<=TO
 b1:base<=i1
 b2:base<=i2
 bd:base<=d
 dz:d≠z
 dI:d≠TI
 dO:d≠TO
 d1:d≠i1
 d2:d≠i2
 la:a<base
 lb:b<base
def mz(z TI TO i1 i2 d a b:wg)(its jts:Array wf)(i:Nat)(h:wJ):Prop:=WM h TI (.ref i1) (.ref i2)/\(h.IsTupleIter i1 a i/\h.IsTuple a its)/\(h.IsTupleIter i2 b i/\h.IsTuple b jts) /\
 ((∃x y,IsZip h z TI TO .none/\WM h TO x y) \/ ∃p f op,lJ h z TI TO p f/\h.get? p=some op/\p≠z/\p≠i1/\p≠i2/\p≠d)
section
variable{prog:wE}{w:World}{A:w5}{E:wf->wl->Prop}{s:wl}{base z TI TO i1 i2 d a b:wg}{its jts:Array wf}{i:Nat}
theorem jG(hh:A.handled=none)(it l:wg)(hne:l≠it)(items:Array wf):Draws prog w A it [it,l] items.size (λi v=>items[i]? = some v) (λi h=>h.IsTupleIter it l i/\h.IsTuple l items):=L2.oA true hh it l hne items
theorem Zj(B:ZB base z TI TO i1 i2 d a b)(hh:A.in1.handled=none)(st:mz z TI TO i1 i2 d a b its jts i s.heap)(hd:d<s.heap.objs.size){x y:wf}(hx:its[i]? = some x)(hy:jts[i]? = some y){Q:Option wf->wl->Prop}
  (q:∀(h':wJ) tk,WM h' s.heap.objs.size x y->mz z TI TO i1 i2 d a b its jts (i+1) h'->(∀c o,c≠z->c≠TO->c≠i1->c≠i2->s.heap.get? c=some o->h'.get? c=some o)->Q (some (.ref s.heap.objs.size)) {s with heap:=h',toks:=tk}) :
  wt (model prog w) A (Vn (.ref z)) Q E s:=by
 obtain⟨hi,s1,s2,hz⟩:=st
 have lt1:i<its.size:=by
  rcases wB i its.size with z | z
  ·exact z
  ·rw[VH z]at hx;cases hx
 have lt2:i<jts.size:=by
  rcases wB i jts.size with z | z
  ·exact z
  ·rw[VH z]at hy;cases hy
 have ap:=B.ap;unfold Vn;rcases hz with⟨x0,y0,hz,ho⟩ | ⟨p,f,op,hz,hp,p1,p2,p3,p4⟩
 ·have hT:s.TypeIs (.ref z) "zip":=⟨_,hz,rfl⟩
  have ltz:=wz hz
  refine we (WP (wpAny_callSpecial?_slot (name:=vT "__next__") hT WE (vZ WE hT qm
   (L2.Jt (jG (A:=A.in1) hh i1 a B.na its) (jG (A:=A.in1) hh i2 b B.nb jts) ap hz hi ho s1 s2 lt1 lt2 λv1 v2 h1 tk e1 e2 hz1 ho1 st1 st2 hT1 hk=>wp ?_) (V4 _))))
  rw[hx]at e1;cases e1;rw[hy]at e2;cases e2;have l1:i1<s.heap.objs.size:=by obtain⟨o,e,_⟩:=s1.1;exact wz e
  have l2:i2<s.heap.objs.size:=by obtain⟨o,e,_⟩:=s2.1;exact wz e
  exact q h1 tk hT1 ⟨hk _ _ ap.a1 ap.a5 ap.a6 ap.a7 hi,st1,st2,.inr ⟨s.heap.objs.size,false,_,hz1,hT1,vn ltz,vn l1,vn l2,vn hd⟩⟩ hk
 ·have hT:s.TypeIs (.ref z) "zip":=⟨_,hz,rfl⟩
  refine we (WP (wpAny_callSpecial?_slot (name:=vT "__next__") hT WE (vZ WE hT qm
   (zD5 (jG (A:=A.in1) hh i1 a B.na its) (jG (A:=A.in1) hh i2 b B.nb jts) ap hz hi hp s1 s2 lt1 lt2 λv1 v2 h1 tk e1 e2 hz1 st1 st2 hT1 hk=>wp ?_) (V4 _))))
  rw[hx]at e1;cases e1;rw[hy]at e2;cases e2;exact q h1 tk hT1 ⟨hk _ _ ap.a1 ap.a6 ap.a7 hi,st1,st2,.inr ⟨p,true,op,hz1,hk _ _ p1 p2 p3 hp,p1,p2,p3,p4⟩⟩ λc o c1 _ c3 c4 e=>hk c o c1 c3 c4 e
theorem zEe(B:ZB base z TI TO i1 i2 d a b)(hh:A.in1.handled=none)(st:mz z TI TO i1 i2 d a b its jts its.size s.heap){Q:Option wf->wl->Prop}
  (q:∀(h':wJ) tk,(∀c o,c≠z->c≠TO->c≠i1->c≠i2->s.heap.get? c=some o->h'.get? c=some o)->Q none {s with heap:=h',toks:=tk}) :
  wt (model prog w) A (Vn (.ref z)) Q E s:=by
 obtain⟨hi,s1,s2,hz⟩:=st;have ap:=B.ap;unfold Vn;rcases hz with⟨x0,y0,hz,ho⟩ | ⟨p,f,op,hz,hp,p1,p2,p3,p4⟩
 ·have hT:s.TypeIs (.ref z) "zip":=⟨_,hz,rfl⟩
  refine we (WP (wpAny_callSpecial?_slot (name:=vT "__next__") hT WE (vZ WE hT qm
   (L2.Jl (k:=its.size) (jG (A:=A.in1) hh i1 a B.na its) (jG (A:=A.in1) hh i2 b B.nb jts) ap hz hi ho s1 s2 (.inl rfl) λh' y tk hk hx'=>?_) (V4 _))))
  obtain⟨o,ho',hcl⟩:=hx';exact we (WY (T:="StopIteration") (b:=true) ⟨o,ho',hcl⟩ qf (wp (q h' tk hk)))
 ·have hT:s.TypeIs (.ref z) "zip":=⟨_,hz,rfl⟩
  refine we (WP (wpAny_callSpecial?_slot (name:=vT "__next__") hT WE (vZ WE hT qm
   (zDx (jG (A:=A.in1) hh i1 a B.na its) ap hz hi hp s1 λh' y tk hk hx'=>?_) (V4 _))))
  obtain⟨o,ho',hcl⟩:=hx';exact we (WY (T:="StopIteration") (b:=true) ⟨o,ho',hcl⟩ qf (wp (q h' tk λc o c1 _ c3 _ e=>hk c o c1 c3 e)))
end
theorem mz.but{base z TI TO i1 i2 d a b:wg}{its jts:Array wf}{i:Nat}{h g:wJ}(st:mz z TI TO i1 i2 d a b its jts i h)(B:ZB base z TI TO i1 i2 d a b)(sb:vv d h g):mz z TI TO i1 i2 d a b its jts i g:=by
 obtain⟨hi,s1,s2,hz⟩:=st;have da:a≠d:=wL (wW B.la B.bd);have db:b≠d:=wL (wW B.lb B.bd);refine⟨sb.extBut _ _ B.dI.symm hi,⟨s1.1.at λo e=>sb.extBut _ _ B.d1.symm e,s1.2.at λo e=>sb.extBut _ _ da e⟩,⟨s2.1.at λo e=>sb.extBut _ _ B.d2.symm e,s2.2.at λo e=>sb.extBut _ _ db e⟩,?_⟩;rcases hz with⟨x0,y0,hz,ho⟩ | ⟨p,f,op,hz,hp,p1,p2,p3,p4⟩
 ·exact .inl ⟨x0,y0,sb.extBut _ _ B.dz.symm hz,sb.extBut _ _ B.dO.symm ho⟩
 ·exact .inr ⟨p,f,op,sb.extBut _ _ B.dz.symm hz,sb.extBut _ _ p4 hp,p1,p2,p3,p4⟩
section
variable{prog:wE}{w:World}{A:w5}{R:Result->wl->Prop}{base z TI TO i1 i2 d a b:wg}{its jts:Array wf}{key:Nat->List Int}{ka:Nat->wg}{val:Nat->wf}
theorem Ze(B:ZB base z TI TO i1 i2 d a b)(hh:A.in1.in1.handled=none)(hu:A.in1.units+1<cLine)(hl:jts.size=its.size)(hn:its.size<=999)(hx:∀i,i<its.size->its[i]? = some (.ref (ka i)))(hy:∀i,i<its.size->jts[i]? = some (val i))
  (lk:∀i,i<its.size->ka i<base) (hk:∀i j,i<its.size->j<its.size->key i=key j->i=j) :
  ∀(c i:Nat)(s:wl),its.size-i=c->i<=its.size->mz z TI TO i1 i2 d a b its jts i s.heap->(∀j,j<its.size->(dy prog w).is s.heap (key j) (ka j))->s.heap.DictOfH (dy prog w) d ((wq i).map λj=>(key j,ka j,val j)) ->
   (∀(g:wJ)(tk:Nat),jU base s.heap g->g.DictOfH (dy prog w) d ((wq its.size).map λj=>(key j,ka j,val j))->R (.ok (.ret .none)) {s with heap:=g,toks:=tk}) ->
   codeAny (model prog w) A (.builtin "dict.update.loop" ⟨[.ref d,.ref z,V6 i,.none],[]⟩) R s:=by
 have lift:∀{h h':wJ}{xs:List (List Int × wg × wf)},h.DictOfH (dy prog w) d xs->(∀x∈xs,x.2.1<base)->jU base h h'->(∀o,h.get? d=some o->h'.get? d=some o)->h'.DictOfH (dy prog w) d xs:=λx hb bl hd=>by
  obtain⟨o,es,ep,ho,hc,hda,he,his,hn⟩:=x;exact⟨o,es,ep,hd o ho,hc,hda,he,λx hx=>oB (his x hx) λo e=>bl _ o (hb x hx) e,hn⟩
 have lo:∀{h h':wJ},(∀c o,c≠z->c≠TO->c≠i1->c≠i2->h.get? c=some o->h'.get? c=some o)->jU base h h':=λhk c o hc e=>hk c o (wL (wW hc B.bz)) (wL (wW hc B.bO)) (wL (wW hc B.b1)) (wL (wW hc B.b2)) e
 intro c
 induction c with
 | zero =>
  intro i s ec ei st ht hs r;obtain rfl:i=its.size:=by omega
  refine Vu Px ?_;rw[qc y_ _];refine we (m:=Vn (.ref z)) (zEe B hh st λh' tk hk'=>?_);refine we (wp ?_);refine wp (r h' tk (lo hk') (lift hs (λx hx=>?_) (lo hk') λo e=>hk' d o B.dz B.dO B.d1 B.d2 e));obtain⟨j,hj,rfl⟩:=wU.mp hx;exact lk j (wF.mp hj)
 | succ c ih =>
  intro i s ec ei st ht hs r;have lt:i<its.size:=by omega
  have hdl:d<s.heap.objs.size:=by obtain⟨o,_,_,ho,_⟩:=hs;exact wz ho
  refine Vu Px ?_;rw[qc y_ _];refine we (m:=Vn (.ref z)) (Zj B hh st hdl (hx i lt) (hy i lt) λh' tk hp st' hk'=>?_);have bl:=lo hk'
  have hs':h'.DictOfH (dy prog w) d ((wq i).map λj=>(key j,ka j,val j)):=lift hs (λx hx=>by
   obtain⟨j,hj,rfl⟩:=wU.mp hx;have:=wF.mp hj;exact lk j (by omega)) bl λo e=>hk' d o B.dz B.dO B.d1 B.d2 e
  have ht':∀j,j<its.size->(dy prog w).is h' (key j) (ka j):=λj hj=>oB (ht j hj) λo e=>bl _ o (lk j hj) e
  refine we (vD (we (wpAny_tryCatch (zwO hp ?_))));refine vD (wpAny_dictSet_heap (knd:=dy prog w) (k:=key i) hu (ht' i lt) hs' (λh2 hd2 sb=>?_) (by rw[wm,ve,qY];omega))
  have e2:storedH ((wq i).map λj=>(key j,ka j,val j)) (key i) (ka i) (val i)=(wq (i+1)).map λj=>(key j,ka j,val j):=by
   rw[storedH_new,xZ,vQ]
   ·rfl
   ·cases e:atKey ((wq i).map λj=>(key j,ka j,val j)) (key i)with
    | none=>rfl
    | some p =>
     unfold atKey at e;rw[VE]at e;obtain⟨y,hy',_⟩:=e;have hm:=xG hy';have hp':=Ut hy';obtain⟨j,hj,rfl⟩:=wU.mp hm;have hj:=wF.mp hj;have:=hk j i (by omega) lt (of_decide_eq_true hp');omega
  rw[e2]at hd2;have sb:vv d h' h2:=sb;refine wp ⟨plainId_quiet y_ _,?_⟩;have bl2:jU base h' h2:=λc o hc e=>sb.extBut c o (wL (wW hc B.bd)) e
  have:=ih (i+1) {s with heap:=h2,toks:=tk+(dy prog w).draws (key i)} (by omega) lt (st'.but B sb) (λj hj=>oB (ht' j hj) λo e=>bl2 _ o (lk j hj) e) hd2 λg tk' bl3 dd=>r g tk' (bl.trans (bl2.trans bl3)) dd
  exact this
end
section
variable{prog:wE}{w:World}{A:w5}{E:wf->wl->Prop}{s:wl}{base z TI TO i1 i2 a b:wg}{its jts:Array wf}{key:Nat->List Int}{ka:Nat->wg}{val:Nat->wf}{x0 y0:wf}
theorem Ys(B:ZB base z TI TO i1 i2 s.heap.objs.size a b)(hh:A.handled=none)(hu:A.units+3<cLine)(hl:jts.size=its.size)(hn:its.size<=999)(hx:∀i,i<its.size->its[i]? = some (.ref (ka i)))(hy:∀i,i<its.size->jts[i]? = some (val i))
  (lk:∀i,i<its.size->ka i<base) (hk:∀i j,i<its.size->j<its.size->key i=key j->i=j) (hz:IsZip s.heap z TI TO .none) (hi:WM s.heap TI (.ref i1) (.ref i2)) (ho:WM s.heap TO x0 y0) (s1:s.heap.IsTupleIter i1 a 0) (t1:s.heap.IsTuple a its) (s2:s.heap.IsTupleIter i2 b 0) (t2:s.heap.IsTuple b jts)
  (hK:∀j,j<its.size->(dy prog w).is s.heap (key j) (ka j)) {Q:wf->wl->Prop}
  (q:∀(g:wJ)(tk:Nat),jU base s.heap g->g.DictOfH (dy prog w) s.heap.objs.size ((wq its.size).map λj=>(key j,ka j,val j))->Q (.ref s.heap.objs.size) {s with heap:=g,toks:=tk}) :
  wt (model prog w) A (call (.type "dict") [.ref z]) Q E s:=by
 refine callType_codes (Q₁:=λobj s₁=>obj=.ref s.heap.objs.size/\s₁ = {s with heap:=s.heap.push {cls:=.type "dict",data:=.dict #[]}}) PySem.F.kt_called_dict (PySem.F.kt_typeCall_dict_1 _) PySem.F.entry_dict_init (kt_code_dict_new _ ⟨rfl,rfl⟩) ?_;rintro obj s₁ ⟨rfl,rfl⟩;have hnew:(s.heap.push {cls:=.type "dict",data:=.dict #[]}).DictOfH (dy prog w) s.heap.objs.size []:=Heap.DictOfH.new s.heap;have hz':IsZip (s.heap.push {cls:=.type "dict",data:=.dict #[]}) z TI TO .none:=wn _ hz;refine⟨hnew.typeIs,PySem.F.args_dict_init_2 _ _,?_⟩;unfold Builtin.«dict.__init__»;refine we ?_;unfold Builtin.Dict.selfAndRest;refine we (wpAny_notOrdered_dict hnew.typeIs ?_)
 show wt _ _ (pure (s.heap.objs.size,[Value.ref z])) _ _ _
 refine wp ?_
 show wt _ _ (xU "dict.__init__" s.heap.objs.size (.ref z) [] .none) _ _ _
 unfold xU;refine we (wpAny_typeOf (T:="zip") ⟨_,hz',rfl⟩ ?_);rw[if_pos (by decide)];refine we (zzj hz' (by exact hh) λh1 tk1 kp1=>?_);simp only[Option.isNone_none,if_true];refine we (qA ?_);have kp0:∀b o,s.heap.get? b=some o->h1.get? b=some o:=λb o e=>kp1 b o (wn _ e)
 have dn:h1.DictOfH (dy prog w) s.heap.objs.size []:=by
  obtain⟨o,es,ep,ho,hc,hda,he,his,hn⟩:=hnew;exact⟨o,es,ep,kp1 _ _ ho,hc,hda,he,(λx hx=>by cases hx),hn⟩
 refine we (wpAny_pyIter_zip (kp0 _ _ hz) ?_);refine wp ⟨plainId_quiet y_ _,?_⟩;refine Ze B (by exact hh) (show A.units+1+1+1<cLine by omega) hl hn hx hy lk hk (its.size-0) 0 _ rfl (Wy _) ⟨kp0 _ _ hi,⟨s1.at λo e=>kp0 _ o e,t1.at λo e=>kp0 _ o e⟩,⟨s2.at λo e=>kp0 _ o e,t2.at λo e=>kp0 _ o e⟩,.inl ⟨x0,y0,kp0 _ _ hz,kp0 _ _ ho⟩⟩ (λj hj=>oB (hK j hj) λo e=>kp0 _ o e) dn λg tk bl dd=>?_
 exact⟨rfl,q g tk (λc o hc e=>bl c o hc (kp0 c o e)) dd⟩
end
end TB
namespace L2
open PySem PySem.Spec PyProof.Rows GM
open TB (dy fN fJ)
theorem zwP:vJ "dict"=some (.type "dict"):=by decide +kernel
def gr(ks:List (List Int))(us ws:List wg):List NE:=(wq us.length).map λj=>(ks.getD j [],us.getD j 0,ws.getD j 0)
def RG(K:wb)(vs:List V)(H1:Hp)(Q:VK):Prop:=∃(a b:wg)(ks:List (List Int))(us ws:List wg),vs=[.ref a,.ref b]/\aI K H1 a (us.map V.ref)/\aI K H1 b (ws.map V.ref)/\us.length=ws.length/\us.length<=999/\ao K H1 (us.map V.ref) (ks.map TZ)/\ks.Nodup /\
 ∀D ep,H1 D=none->Q (.ref D) (upd H1 D (ik D ep (gr ks us ws)))
def KP(K:wb)(ta:TA):TE:=λσ H Q=>ta σ H λvs H1=>RG K vs H1 Q
theorem zDH{n d a b:Nat}(la:a<n)(lb:b<n)(hd:n+5<=d):TB.ZB n (n+4) (n+2) (n+3) n (n+1) d a b where
 ap:=Lv la lb
 na:=wL la
 nb:=wL (WS lb)
 bz:=WX _ 4
 bO:=WX _ 3
 b1:=wo _
 b2:=WX _ 1
 bd:=by show n<=d;omega
 dz:=vn (by omega)
 dI:=vn (by omega)
 dO:=vn (by omega)
 d1:=vn (by omega)
 d2:=vn (by omega)
 la:=la
 lb:=lb
theorem zv2{ks:List (List Int)}{us ws:List wg}(h:ks.length=us.length):(gr ks us ws).map (·.1)=ks:=by
 unfold gr;rw[WD];refine List.ext_getElem? λj=>?_
 rw[wx];rcases wB j us.length with z | z
 ·rw[Wm z,wc (by omega:j<ks.length)]
  show some (ks.getD j [])=_
  rw[wa,wc (by omega:j<ks.length)]
  rfl
 ·rw[wQ (by simpa using z),wQ (by omega)]
  rfl
section
variable{X:Cx}{o i:Expr}{pos:Pos}{td ty:TE}
theorem DP:∀{ws:List V}{us:List wf},aM ws us->∀{i:Nat}{q:wg},ws[i]? = some (.ref q)->us[i]? = some (.ref q)
 | _,_,.nil,i,q,h=>by simp at h
 | _,_,.cons r1 r2,0,q,h=>by
  simp only[xT,QE]at h ⊢;subst h;exact r1
 | _,_,.cons r1 r2,i+1,q,h=>by
  simp only[QC]at h ⊢;exact DP r2 h
theorem zwQ{l m:Expr}{ta:TA}{p p2 pos2:Pos}(hc:X.calm=true)(hu:X.A.units+4<cLine)(hg:Gl X "dict")(hm:X.mg "dict"=none)(hg2:Gl X "zip")(hm2:X.mg "zip"=none)(ha:PA X [l,m] ta)(hs:wX [l,m] X.env=[(false,eval l X.env),(false,eval m X.env)]:=by rfl)(hs2:wX [m] X.env=[(false,eval m X.env)]:=by rfl)
   (hs3:wX [Expr.Call (.Name "zip" p2) [l,m] [] pos2] X.env=[(false,eval (.Call (.Name "zip" p2) [l,m] [] pos2) X.env)]:=by rfl):PE X (.Call (.Name "dict" p) [.Call (.Name "zip" p2) [l,m] [] pos2] [] pos) (KP X.K ta):=by
 intro pins s σ H Q I h;refine Call_ (gK I hg hm zwP ?_);refine vE ?_ hs3 rfl;rw[hs3]
 show wt _ _ (spliced ((false,eval _ X.env)::VN pos [])) _ _ s
 refine xc ?_;refine Call_ (gK I hg2 hm2 FD (vE (aD (ha pos2 pins s σ H _ I h) λus s1 ⟨vs,H1,I1,r1,q1⟩=>?_) (by rw[hs,hs2]) (by rw[hs2];rfl)));obtain⟨a,b,ks,us',ws,rfl,hq1,hq2,hl,hn,hk,nd,q⟩:=q1;obtain⟨u,v,rfl,ru,rv⟩:=kP r1;cases ru;cases rv;obtain⟨its,ri,p1⟩:=I1.jk (t:=true) hq1;obtain⟨jts,rj,p2⟩:=I1.jk (t:=true) hq2;have p1:s1.heap.IsTuple a its.toArray:=p1;have p2:s1.heap.IsTuple b jts.toArray:=p2;have la:a<s1.heap.objs.size:=by obtain⟨o,e,_⟩:=p1;exact wz e
 have lb:b<s1.heap.objs.size:=by obtain⟨o,e,_⟩:=p2;exact wz e
 have li:=ri.length;have lj:=rj.length;have lk:=hk.length;simp only[wm]at li lj lk;refine SD p1 p2 λh' hz hi ho t1 t2 kp=>?_
 refine xy ?_;have hd:s1.heap.objs.size+5<=h'.objs.size:=wz hz
 have hx:∀j,j<its.toArray.size->its.toArray[j]? = some (Value.ref (us'.getD j 0)):=λj hj=>by
   have hj:j<us'.length:=by simpa [li] using hj
   have:=DP ri (show(us'.map V.ref)[j]? = some (V.ref (us'.getD j 0)) by rw[wx,wa,wc hj];rfl)
   simpa using this
 have hy:∀j,j<its.toArray.size->jts.toArray[j]? = some (Value.ref (ws.getD j 0)):=λj hj=>by
   have hj : j < ws.length := by have : j < us'.length := by simpa [li] using hj
                                 omega
   have:=DP rj (show(ws.map V.ref)[j]? = some (V.ref (ws.getD j 0)) by rw[wx,wa,wc hj];rfl)
   simpa using this
 have hK:∀j,j<its.toArray.size->(dy X.prog X.w).is s1.heap (ks.getD j []) (us'.getD j 0):=λj hj=>by
   have hj:j<us'.length:=by simpa [li] using hj
   have:=(rz hk (i:=j) (x:=.ref (us'.getD j 0)) (by rw[wx,wa,wc hj];rfl)).2
   have ek:(ks.map TZ).getD j .none=TZ (ks.getD j []):=by
     rw[wa,wx,wa,wc (by omega:j<ks.length)]
     rfl
   rw[ek]at this;exact I1.nK this
 refine TB.Ys (zDH la lb hd) (I1.ok.hd hc) (by omega) (by simp only[wS];omega) (by simp only[wS];omega) hx hy (λj hj=>?_) (λi j hi' hj e=>?_) hz hi ho t1 (p1.at λo e=>kp _ o e) t2 (p2.at λo e=>kp _ o e) (λj hj=>TB.oB (hK j hj) λo e=>kp _ o e) λg tk bl dd=>?_
 . obtain⟨a',o,items,n,ea,ho',_⟩:=hK j hj
   cases ea;exact wz ho'
 . have hi' : i < ks.length := by have : i < its.length := by simpa using hi'
                                  omega
   have hj : j < ks.length := by have : j < its.length := by simpa using hj
                                 omega
   rw[wa,wa,wc hi',wc hj]at e;have pw:=Wq.mp nd;rcases W1 i j with z | z | z
   . exact absurd e (pw i j hi' hj z)
   . exact z
   . exact absurd e.symm (pw j i hj hi' z)
 . obtain⟨o,es,ep,ho',hxd,hda,he,his,hnd⟩:=dd
   refine⟨.ref h'.objs.size,_,I1.laid (t':=tk) (a:=h'.objs.size) (o:=ik h'.objs.size ep (gr ks us' ws)) (λc o e=>bl c o (wz e) (kp c o e)) (by omega) (zzH ?_ (beq_eq_false_iff_ne.mpr (WI (wL ?_))) ?_ ho' hxd hda ?_),rfl,q _ ep (I1.aA.fresh (by omega))⟩
   . unfold gr;rw[wm,ve];omega
   . exact wW I1.big (by omega)
   . rw[zv2 (by omega)];exact nd
   . rw[he]
     have:((wq its.toArray.size).map λj=>(ks.getD j [],us'.getD j 0,Value.ref (ws.getD j 0)))=jd (gr ks us' ws):=by
       unfold jd gr;rw[WD,wS,<- li]
       rfl
     rw[this];exact Oa _
def DL(K:wb)(td ty:TE):TE:=λσ H Q=>td σ H λx H1=>ty σ H1 λy H2=>∃a b ep xs k l,x=.ref a/\y=.ref b/\H2 a=some (ik a ep xs)/\zr K H2 xs/\Is K H2 (.ref b) (TZ k)/\lD xs k=some l/\Q (.ref l) H2
theorem zCA{pins:List (wg × Obj)}{σ : St}{H:Hp}{s:wl}{a b l:wg}{ep:Nat}{xs:List NE}{k:List Int}{A:w5}{E:wf->wl->Prop}{Q:wf->wl->Prop}(hu:A.units+4<cLine)(I:Inv X pins σ H s)(e:H a=some (ik a ep xs))(hk:zr X.K H xs)(hb:Is X.K H (.ref b) (TZ k))(hl:lD xs k=some l)(h:∀s',Inv X pins σ H s'->Q (.ref l) s') :
  wt (model X.prog X.w) A (getItem (.ref a) (.ref b)) Q E s:=by
 obtain⟨z,hd,nd,o,es,ho,hx,hda,r⟩:=I.Jp e;have zk:(jd xs).map (·.1)=xs.map (·.1):=by unfold jd;rw[WD];rfl
 have dd:s.heap.DictOfH (dy X.prog X.w) a (jd xs):=⟨o,es,ep,ho,hx,hda,zDf r,λx hx=>by
  obtain⟨y,hy,rfl⟩:=wU.mp hx;exact I.nK (hk y hy),by rw[zk];exact nd⟩
 have lk:=zCJ xs k;rw[hl]at lk;cases e2:atKey (jd xs) k with
 | none=>rw[e2]at lk;cases lk
 | some p =>
  rw[e2]at lk;have:p.2=Value.ref l:=wN lk;obtain⟨p1,p2⟩:=p;have:p2=Value.ref l:=this;subst this;exact wpAny_getItem_heap (knd:=dy X.prog X.w) (show A.units+1+1<cLine by omega) (I.nK hb) dd e2 (h _ (I.tok _))
theorem zyM(hu:X.A.units+4<cLine)(ho:PE X o td)(hi:PE X i ty)(hs:Mc i):PE X (.Subscript o i pos) (DL X.K td ty):=by
 intro pins s σ H Q I h;refine zz0 PySem.F.slot_dict_getitem.lookup hs (aD (ho pins s σ H _ I h) λu s1 ⟨x,H1,I1,rx,q1⟩=>aD (hi pins s1 σ H1 _ I1 q1) λiv s2 ⟨y,H2,I2,ry,a,b,ep,xs,k,l,ex,ey,e,hk,hb,hl,q2⟩=>?_);subst ex ey;obtain rfl:u=Value.ref a:=rx;obtain rfl:iv=Value.ref b:=ry;obtain⟨_,_,_,od,es,g1,g2,_,_⟩:=I2.Jp e;exact⟨⟨od,g1,g2.1⟩,zCA hu I2 e hk hb hl λs3 I3=>⟨.ref l,H2,I3,rfl,q2⟩⟩
end
section
variable{K:wb}{σ : St}{H:Hp}{Q:VK}{td ty:TE}{ta:TA}
theorem zwI(h:ta σ H λvs H1=>RG K vs H1 Q):KP K ta σ H Q:=h
theorem zxR(h:td σ H λx H1=>ty σ H1 λy H2=>∃a b ep xs k l,x=.ref a/\y=.ref b/\H2 a=some (ik a ep xs)/\zr K H2 xs/\Is K H2 (.ref b) (TZ k)/\lD xs k=some l/\Q (.ref l) H2):DL K td ty σ H Q:=h
end
end L2
namespace G
open PySem PySem.Spec PyProof.Rows L2 GM
local macro_rules | `(tactic| wtm_at "sc")=>`(tactic| exact ⟨rfl,rfl,rfl,by decide +kernel,rfl,by decide +kernel,by decide +kernel⟩)
def top(i:Nat):vo:=VZ.main.body.getD i (.Pass ⟨0,0,0,0⟩)
abbrev Fd:vo:=top 14
abbrev Em:List Str:=["thing"]
abbrev zx:=Em
theorem zqJ:aQ Em zx (aH Fd):=by wtm_at "sc"
abbrev Di:vo:=top 15
abbrev Na:List Str:=["one","other","rest"]
abbrev yj:List Str:=["one","other"]
theorem yC:aQ Na yj (aH Di):=by wtm_at "sc"
abbrev Fg:vo:=top 16
abbrev C1:List Str:=["thing"]
abbrev tQ:=C1
theorem zqj:aQ C1 tQ (aH Fg):=by wtm_at "sc"
abbrev BV:vo:=top 17
abbrev Kl:List Str:=["one","other","shared","top","divisor"]
abbrev yX:List Str:=["one","other"]
theorem z6:aQ Kl yX (aH BV):=by wtm_at "sc"
abbrev FP:vo:=top 18
abbrev Bj:List Str:=["one","other"]
abbrev y8:=Bj
theorem Zw:aQ Bj y8 (aH FP):=by wtm_at "sc"
abbrev Dm:vo:=top 19
abbrev PF:List Str:=["one","other","first","second"]
abbrev yd:List Str:=["one","other"]
theorem Fe:aQ PF yd (aH Dm):=by wtm_at "sc"
abbrev Bx:vo:=top 20
abbrev MI:List Str:=["one","other","turned"]
abbrev yO:List Str:=["one","other"]
theorem MM:aQ MI yO (aH Bx):=by wtm_at "sc"
abbrev Fj:vo:=top 21
abbrev FA:List Str:=["one","other"]
abbrev tH:=FA
theorem zAj:aQ FA tH (aH Fj):=by wtm_at "sc"
abbrev Bg:vo:=top 26
abbrev EI:List Str:=["a"]
abbrev zD:=EI
theorem zoV:aQ EI zD (aH Bg):=by wtm_at "sc"
abbrev F6:vo:=top 27
abbrev Bc:List Str:=["b"]
abbrev zX:=Bc
theorem zrD:aQ Bc zX (aH F6):=by wtm_at "sc"
abbrev DU:vo:=top 28
abbrev CV:List Str:=["a","b"]
abbrev yK:=CV
theorem zqh:aQ CV yK (aH DU):=by wtm_at "sc"
abbrev Bm:vo:=top 29
abbrev FI:List Str:=["thing"]
abbrev zi:=FI
theorem zsJ:aQ FI zi (aH Bm):=by wtm_at "sc"
abbrev F0:vo:=top 30
abbrev FU:List Str:=["rule"]
abbrev zK:=FU
theorem zzS:aQ FU zK (aH F0):=by wtm_at "sc"
abbrev Fp:vo:=top 31
abbrev Mh:List Str:=["rule","many","factor","shift","done"]
abbrev tW:List Str:=["rule","many"]
theorem mZ:aQ Mh tW (aH Fp):=by wtm_at "sc"
abbrev Dd:vo:=top 32
abbrev Ds:List Str:=["push","x"]
abbrev sW:=Ds
theorem zqg:aQ Ds sW (aH Dd):=by wtm_at "sc"
abbrev DW:vo:=top 36
abbrev Bp:List Str:=["thing"]
abbrev zu:=Bp
theorem zqP:aQ Bp zu (aH DW):=by wtm_at "sc"
abbrev Es:vo:=top 37
abbrev ES:List Str:=["thing"]
abbrev yW:=ES
theorem znF:aQ ES yW (aH Es):=by wtm_at "sc"
abbrev EN:vo:=top 38
abbrev FZ:List Str:=["rule","phases"]
abbrev ya:=FZ
theorem zqT:aQ FZ ya (aH EN):=by wtm_at "sc"
abbrev B9:vo:=top 39
abbrev LA:List Str:=["phases","told","phase"]
abbrev yy:List Str:=["phases"]
theorem w_:aQ LA yy (aH B9):=by wtm_at "sc"
abbrev CU:vo:=top 40
abbrev Dj:List Str:=["phases","phase"]
abbrev tZ:=Dj
theorem zrj:aQ Dj tZ (aH CU):=by wtm_at "sc"
abbrev Fy:vo:=top 41
abbrev Og:List Str:=["swarm","told","left","phase"]
abbrev yi:List Str:=["swarm"]
theorem rl:aQ Og yi (aH Fy):=by wtm_at "sc"
abbrev Ft:vo:=top 42
abbrev BF:List Str:=["worms","phases"]
abbrev yg:=BF
theorem znK:aQ BF yg (aH Ft):=by wtm_at "sc"
abbrev DM:vo:=top 43
abbrev Mo:List Str:=["swarm","wait","phases","left","waves","wave","push","worm","anew"]
abbrev zt:List Str:=["swarm"]
theorem iU:aQ Mo zt (aH DM):=by wtm_at "sc"
abbrev Ep:vo:=top 45
abbrev JW:List Str:=["swarm","many","rows","hour","stand","done","told"]
abbrev Ar:List Str:=["swarm","many"]
theorem lh:aQ JW Ar (aH Ep):=by wtm_at "sc"
abbrev FN:vo:=top 46
abbrev RX:List Str:=["swarm","many","rows","last"]
abbrev AH:List Str:=["swarm","many"]
theorem EA:aQ RX AH (aH FN):=by wtm_at "sc"
abbrev FC:vo:=top 48
abbrev Ex:List Str:=["swarm"]
abbrev t_:=Ex
theorem zsu:aQ Ex t_ (aH FC):=by wtm_at "sc"
abbrev BK:vo:=top 49
abbrev KS:List Str:=["swarm","rows","sizes","places"]
abbrev tF:List Str:=["swarm"]
theorem Ap:aQ KS tF (aH BK):=by wtm_at "sc"
abbrev Fm:vo:=top 50
abbrev TX:List Str:=["rule","size","phases","turn","wait","push","told"]
abbrev Aa:List Str:=["rule","size","phases","turn"]
theorem tO:aQ TX Aa (aH Fm):=by wtm_at "sc"
abbrev BQ:vo:=top 51
abbrev Tv:List Str:=["rule","sizes","places","told","turn","size"]
abbrev yH:List Str:=["rule","sizes","places"]
theorem zh:aQ Tv yH (aH BQ):=by wtm_at "sc"
abbrev Eh:vo:=top 52
abbrev Bi:List Str:=["rule","sizes","places"]
abbrev zQ:=Bi
theorem zlq:aQ Bi zQ (aH Eh):=by wtm_at "sc"
abbrev Bo:vo:=top 53
abbrev TH:List Str:=["rule","sizes","places","told","rows","turn"]
abbrev zw:List Str:=["rule","sizes","places"]
theorem pW:aQ TH zw (aH Bo):=by wtm_at "sc"
abbrev DR:vo:=top 54
abbrev PU:List Str:=["rule","sizes","places","rows","count"]
abbrev tP:List Str:=["rule","sizes","places"]
theorem CI:aQ PU tP (aH DR):=by wtm_at "sc"
abbrev Ec:vo:=top 55
abbrev PY:List Str:=["rule","sizes","places","steps"]
abbrev yN:List Str:=["rule","sizes","places"]
theorem JN:aQ PY yN (aH Ec):=by wtm_at "sc"
abbrev Dh:vo:=top 56
abbrev NG:List Str:=["rule","sizes","factor","noughts"]
abbrev yh:List Str:=["rule","sizes"]
theorem BI:aQ NG yh (aH Dh):=by wtm_at "sc"
abbrev EG:vo:=top 59
abbrev NN:List Str:=["rule","sizes","both","gap"]
abbrev yk:List Str:=["rule","sizes"]
theorem CN:aQ NN yk (aH EG):=by wtm_at "sc"
abbrev CZ:vo:=top 60
abbrev Ek:List Str:=["both","places","of_place","of_shift"]
abbrev yP:=Ek
theorem zs7:aQ Ek yP (aH CZ):=by wtm_at "sc"
abbrev FX:vo:=top 61
abbrev N2:List Str:=["both","places","many","push"]
abbrev zA:List Str:=["both","places","many"]
theorem Ss:aQ N2 zA (aH FX):=by wtm_at "sc"
abbrev DA:vo:=top 62
abbrev BE:List Str:=["rule","sizes","places","many"]
abbrev tI:=BE
theorem zj4:aQ BE tI (aH DA):=by wtm_at "sc"
abbrev EY:vo:=top 63
abbrev Li:List Str:=["both","places","many","of_place","of_shift","done"]
abbrev zZ:List Str:=["both","places","many"]
theorem nh:aQ Li zZ (aH EY):=by wtm_at "sc"
abbrev Dl:vo:=top 64
abbrev Kv:List Str:=["rule","sizes","places","many","count","mean"]
abbrev zP:List Str:=["rule","sizes","places","many"]
theorem CC:aQ Kv zP (aH Dl):=by wtm_at "sc"
abbrev E_:vo:=top 65
abbrev B8:List Str:=["rule","sizes"]
abbrev t9:=B8
theorem zlr:aQ B8 t9 (aH E_):=by wtm_at "sc"
abbrev Dg:vo:=top 66
abbrev Le:List Str:=["rule","sizes","places","way"]
abbrev yL:List Str:=["rule","sizes","places"]
theorem SM:aQ Le yL (aH Dg):=by wtm_at "sc"
abbrev FT:vo:=top 67
abbrev Tw:List Str:=["rule","sizes","places","both","ahead","count"]
abbrev tG:List Str:=["rule","sizes","places"]
theorem pb:aQ Tw tG (aH FT):=by wtm_at "sc"
abbrev CP:vo:=top 69
abbrev O7:List Str:=["swarm","rounds","both","later","now","phases"]
abbrev yc:List Str:=["swarm","rounds"]
theorem rk:aQ O7 yc (aH CP):=by wtm_at "sc"
abbrev Bl:vo:=top 70
abbrev ML:List Str:=["swarm","rounds","glows","first","then"]
abbrev yJ:List Str:=["swarm","rounds","glows"]
theorem Ba:aQ ML yJ (aH Bl):=by wtm_at "sc"
abbrev FR:vo:=top 71
abbrev PL:List Str:=["swarm","both"]
abbrev yY:List Str:=["swarm"]
theorem JT:aQ PL yY (aH FR):=by wtm_at "sc"
abbrev DV:vo:=top 72
abbrev Jv:List Str:=["swarm","count","told"]
abbrev AG:List Str:=["swarm"]
theorem rV:aQ Jv AG (aH DV):=by wtm_at "sc"
abbrev C0:vo:=top 73
abbrev RL:List Str:=["hour","swarm","both","rounds","glows"]
abbrev yu:List Str:=["hour","swarm"]
theorem z9:aQ RL yu (aH C0):=by wtm_at "sc"
abbrev BH:vo:=top 74
abbrev Nh:List Str:=["swarm","rows","word","row","told","hour"]
abbrev Af:List Str:=["swarm"]
theorem lU:aQ Nh Af (aH BH):=by wtm_at "sc"
abbrev Bs:vo:=top 75
abbrev SH:List Str:=["swarm","last"]
abbrev zo:List Str:=["swarm"]
theorem Kp:aQ SH zo (aH Bs):=by wtm_at "sc"
abbrev B_:vo:=top 77
abbrev Tx:List Str:=["_law_script","_law_k","_law_cell"]
abbrev sT:List Str:=["_law_script","_law_k"]
theorem y7:aQ Tx sT (aH B_):=by wtm_at "sc"
abbrev Bb:vo:=top 78
abbrev PR:List Str:=["_law_pen_here","_law_many","_law_drawn","_law_mixed"]
abbrev yU:List Str:=["_law_pen_here","_law_many"]
theorem y9:aQ PR yU (aH Bb):=by wtm_at "sc"
abbrev FV:vo:=top 79
abbrev Ot:List Str:=["_law_top","_law_bottom","_law_one","_law_other"]
abbrev yz:List Str:=["_law_top","_law_bottom"]
theorem pP:aQ Ot yz (aH FV):=by wtm_at "sc"
abbrev El:vo:=top 81
abbrev SW:List Str:=["_law_caught","_law_some","_law_found"]
abbrev zl:List Str:=["_law_caught"]
theorem mC:aQ SW zl (aH El):=by wtm_at "sc"
abbrev C3:vo:=top 82
abbrev Rb:List Str:=["_law_pen_here","_law_bottom","_law_a","_law_under","_law_b"]
abbrev tf:List Str:=["_law_pen_here"]
theorem mK:aQ Rb tf (aH C3):=by wtm_at "sc"
abbrev BW:vo:=top 83
abbrev OP:List Str:=["_law_pen_here","_law_way","_law_a"]
abbrev tD:List Str:=["_law_pen_here"]
theorem Dr:aQ OP tD (aH BW):=by wtm_at "sc"
abbrev Bv:vo:=top 84
abbrev MX:List Str:=["_law_pen_here","_law_most","_law_bottom","_law_found","_law_k","_law_way","_law_under"]
abbrev zN:List Str:=["_law_pen_here","_law_most"]
theorem mX:aQ MX zN (aH Bv):=by wtm_at "sc"
abbrev DB:vo:=top 85
abbrev P_:List Str:=["_law_rule_here","_law_phases_here","_law_a","_law_under_a","_law_b","_law_under_b","_law_bottom","_law_one","_law_now","_law_rise","_law_wait","_law_glowing","_law_waves","_law_wave","_law_k","_law_turn","_law_later"]
abbrev Ab:List Str:=["_law_rule_here","_law_phases_here"]
theorem dJ:aQ P_ Ab (aH DB):=by wtm_at "sc"
abbrev Bq:vo:=top 86
abbrev S_:List Str:=["_law_swarm","_law_found","e"]
abbrev yl:List Str:=["_law_swarm"]
theorem pR:aQ S_ yl (aH Bq):=by wtm_at "sc"
abbrev Cn:vo:=top 87
abbrev BX:List Str:=["_law_phases_here"]
abbrev tJ:=BX
theorem znA:aQ BX tJ (aH Cn):=by wtm_at "sc"
abbrev Bh:vo:=top 88
abbrev Ma:List Str:=["_law_rule_here","_law_phases_here","_law_some","_law_turn"]
abbrev yq:List Str:=["_law_rule_here","_law_phases_here"]
theorem x_:aQ Ma yq (aH Bh):=by wtm_at "sc"
abbrev BL:vo:=top 89
abbrev Oo:List Str:=["_law_rule_here","_law_some","_law_found","_law_a","_law_under_a","_law_b","_law_under_b"]
abbrev yn:List Str:=["_law_rule_here","_law_some","_law_found"]
theorem pA:aQ Oo yn (aH BL):=by wtm_at "sc"
abbrev yw:vo:=top 90
abbrev Kh:List Str:=["_law_script","_law_k","_law_pen_here","_law_rule_here","_law_some","_law_swarm","_law_found","_law_never","_law_last"]
abbrev Ag:List Str:=["_law_script"]
theorem jT:aQ Kh Ag (aH yw):=by wtm_at "sc"
set_option genInjectivity false in
structure Ad where
 Ik:wg
 G9:wM
 Gf:wg
 F8:wM
 HR:wg
 GV:wM
 plus:wg
 IW:wM
 minus:wg
 IC:wM
 times:wg
 IE:wM
 over:wg
 IJ:wM
 less:wg
 IY:wM
 H_:wg
 G3:wM
 ID:wg
 G_:wM
 HX:wg
 GY:wM
 II:wg
 HF:wM
 Jo:wg
 IL:wM
 Je:wg
 Ie:wM
 Ii:wg
 G2:wM
 Iu:wg
 Hu:wM
 HQ:wg
 GL:wM
 Iw:wg
 Ht:wM
 Io:wg
 G8:wM
 Im:wg
 Hf:wM
 Jb:wg
 Ig:wM
 Hy:wg
 GO:wM
 mH:wg
 IQ:wM
 I_:wg
 Hz:wM
 behind:wg
 HW:wM
 IH:wg
 Hx:wM
 laid:wg
 IX:wM
 GQ:wg
 Gh:wM
 sI:wg
 Ib:wM
 G6:wg
 Gm:wM
 HD:wg
 GI:wM
 iB:wg
 IK:wM
 IT:wg
 Hv:wM
 Ic:wg
 GS:wM
 Ji:wg
 Ip:wM
 IM:wg
 HI:wM
 Ja:wg
 HU:wM
 GJ:wg
 Gj:wM
 Gy:wg
 Gb:wM
 Hh:wg
 Gu:wM
 G1:wg
 Gs:wM
 HA:wg
 GA:wM
 Hi:wg
 Gw:wM
 GF:wg
 Gi:wM
 HE:wg
 GC:wM
 IP:wg
 Hw:wM
 GP:wg
 Gd:wM
 IF:wg
 He:wM
 IA:wg
 Hn:wM
 Jm:wg
 IS:wM
 IV:wg
 HN:wM
 Iz:wg
 Hg:wM
 IZ:wg
 HJ:wM
 Iv:wg
 G7:wM
 Ir:wg
 Hs:wM
 G5:wg
 Gn:wM
 HB:wg
 GK:wM
 Iq:wg
 Ho:wM
 IG:wg
 Hl:wM
 HH:wg
 Gz:wM
 Gv:wg
 Ga:wM
 Gp:wg
 F9:wM
 law:wg
 Jc:wM
 d4:wg
 cN:wg
 sy:wg
 sE:wg
 sx:wg
 sG:wg
 sh:wg
 sA:wg
 r_:wg
 AQ:wg
 cV:wg
 dP:wg
 AJ:wg
structure Dn(K:wb)(mg:Str->Option wf)(n:Str)(st:vo)(ps:List Str)(f:wg)(fd:wM):Prop where
 F:jJ K n n st f fd
 g:mg n=some (.ref f)
 b:kZ K fd ps []
section
variable{X:Cx}{x:Str}{f:wg}{fd:wM}{ps:List Str}{sp:Sp}{j k:Nat}{e:Expr}{es:List Expr}{t:TA}{pos pp:Pos}{st:vo}{CX:fL}
theorem lH{E:XK}(F:aJ X.prog X.w X.K X.mg X.base CX k f fd ps sp)(hr:cZ j X.A)(D:Dn X.K X.mg x st ps f fd)(hx:nk CX X E)(ha:PA X (e::es) t)(hj:k<=j:=by decide)(hg:Gl X x:=by exact rfl)
  (hdb:(x == ("__debug__" : Str))=false:=by decide) (he:wX (e::es) X.env=(false,eval e X.env)::wX es X.env:=by rfl) (hpl:(VN pos (wX es X.env)).any (·.1)=false:=by rfl) :
  PE X (.Call (.Name x pp) (e::es) [] pos) (lO sp [] E t):=Lh F (hr.mono hj) hg D.g D.F.kp D.b .nil hx ha hdb he hpl
theorem ar(F:aJ X.prog X.w X.K X.mg X.base aR k f fd ps sp)(hr:cZ j X.A)(D:Dn X.K X.mg x st ps f fd)(ha:PA X (e::es) t)(hj:k<=j:=by decide)(hg:Gl X x:=by exact rfl)
  (hdb:(x == ("__debug__" : Str))=false:=by decide) (he:wX (e::es) X.env=(false,eval e X.env)::wX es X.env:=by rfl) (hpl:(VN pos (wX es X.env)).any (·.1)=false:=by rfl) :
  PE X (.Call (.Name x pp) (e::es) [] pos) (lO sp [] E0 t):=Lh F (hr.mono hj) hg D.g D.F.kp D.b .nil zDo ha hdb he hpl
theorem n_{ta:TE}{i:Int}{kd}(ha:PE X e ta):PE X (.Subscript e (.Constant (.int i) kd pp) pos) (iR (cJ X.K) ta (tC (.int i))):=cT cE ha av (λ_ _=>rfl)
theorem zM{K:wb}{ta:TE}{i:Int}{kd}(hr:fA X (cJ K))(ha:PE X e ta):PE X (.Subscript e (.Constant (.int i) kd pp) pos) (iR (cJ K) ta (tC (.int i))):=cT hr ha av (λ_ _=>rfl)
theorem ay(i:Nat){te:TE}(hN:X.N.Nodup)(he:PE X e te)(hi:X.N[i]? = some x:=by exact rfl)(hx:Loc X.env.scope x:=by first | exact Or.inl rfl | exact Or.inr rfl)(hs:swapsWith e (some (.Name x pp)) pos.line X.env=pure false:=by rfl)(hf:X.fn x=true\/X.env.scope.names.lookup x=some .local:=by first | exact .inl rfl | exact .inr rfl | assumption) :
  PS X (.Assign [.Name x pp] e pos) (kT te (fG i)):=zBY hN hi hx he hs hf
end
section
variable{X:Cx}{x y z:Str}{e b:Expr}{es:List Expr}{t:TA}{ta tb:TE}{pos pp pq pr ps:Pos}
def Rs(K:wb)(H:Hp)(Q:VK)(d:wG):Prop:=∀v H',aj H H'->Is K H' v d->Q v H'
def Rq(H:Hp)(Q:VK)(v:V):Prop:=∀H',aj H H'->Q v H'
def Nm(X:Cx)(i:Nat)(x:Str):Prop:=X.N[i]? = some x/\pf X.env.scope x/\(x == ("__debug__" : Str))=false/\(x == ("__classdict__" : Str))=false
theorem Nm.v{i:Nat}(h:Nm X i x):PE X (.Name x pos) (fO i):=MT h.1 h.2.1 h.2.2.1 h.2.2.2
theorem q1(i:Nat)(h:Nm X i x:=by wtm_at "nm"):PA X [.Name x pp] (iN (fO i) kE):=ae h.v ah dY
theorem q2(i j:Nat)(h:Nm X i x:=by wtm_at "nm")(k:Nm X j y:=by wtm_at "nm"):PA X [.Name x pp,.Name y pq] (iN (fO i) (iN (fO j) kE)):=ae h.v (ae k.v ah dY) dY
theorem q3(i j k:Nat)(h:Nm X i x:=by wtm_at "nm")(h2:Nm X j y:=by wtm_at "nm")(h3:Nm X k z:=by wtm_at "nm"):PA X [.Name x pp,.Name y pq,.Name z pr] (iN (fO i) (iN (fO j) (iN (fO k) kE))):=ae h.v (ae h2.v (ae h3.v ah dY) dY) dY
theorem qi(i:Nat){n:Int}{kd}(h:Nm X i x:=by wtm_at "nm"):PE X (.Subscript (.Name x pp) (.Constant (.int n) kd pq) pos) (iR (cJ X.K) (fO i) (tC (.int n))):=n_ h.v
theorem ee(K:wb)(hz:X.mg x=none)(ha:PA X (e::es) t)(hK:X.K=K:=by rfl)(hg:Gl X x:=by exact rfl)(hv:vJ x=some (.builtin "len"):=by exact Sy)(hn:x≠"__name__":=by decide)(hdb:(x == ("__debug__" : Str))=false:=by decide)
  (he:wX (e::es) X.env=(false,eval e X.env)::wX es X.env:=by rfl) (hpl:(VN pos (wX es X.env)).any (·.1)=false:=by rfl):PE X (.Call (.Name x pp) (e::es) [] pos) (rp (jX K) t):=by
 subst hK;exact cy zvJ hg hz hv ha hn hdb he hpl
theorem d9(K:wb)(hz:X.mg x=none)(ha:PA X (e::es) t)(hK:X.K=K:=by rfl)(hg:Gl X x:=by exact rfl)(hv:vJ x=some (.type "tuple"):=by exact rf)(hn:x≠"__name__":=by decide)(hdb:(x == ("__debug__" : Str))=false:=by decide)
  (he:wX (e::es) X.env=(false,eval e X.env)::wX es X.env:=by rfl) (hpl:(VN pos (wX es X.env)).any (·.1)=false:=by rfl):PE X (.Call (.Name x pp) (e::es) [] pos) (rp (pH K) t):=by
 subst hK;exact ke zrs hg hz hv ha hn hdb he hpl
theorem ie(K:wb)(hu:X.A.units+64<cLine)(ha:PE X e ta)(hb:PE X b tb)(hK:X.K=K:=by rfl):PE X (.Compare e [.Eq] [b] pos) (iR (jq K) ta tb):=by
 subst hK;exact kR (Lu hu) ha hb (du _)
theorem eF(K:wb)(hu:X.A.units+64<cLine)(ha:PE X e ta)(hb:PE X b tb)(hK:X.K=K:=by rfl):PT X (.Compare e [.Eq] [b] pos) (p8 (iR (jq K) ta tb)):=by
 subst hK;exact d8 (Lu hu) ha hb (du _)
theorem fR(K:wb)(hu:X.A.units+64<cLine)(ha:PE X e ta)(hb:PE X b tb)(hK:X.K=K:=by rfl):PT X (.Compare e [.NotEq] [b] pos) (p8 (iR (ko K) ta tb)):=by
 subst hK;exact d8 (zBz hu) ha hb (du _)
theorem cC(i:Nat)(hN:X.N.Nodup:=by exact of_decide_eq_true (by kernel_rfl))(hi:X.N[i]? = some x:=by rfl)(hx:Loc X.env.scope x:=by exact Or.inl rfl)(hf:X.fn x=true\/X.env.scope.names.lookup x=some .local:=by first | exact .inl rfl | exact .inr rfl | assumption):PG X (.Name x pos) (fG i):=dh hN hi hx hf
theorem cW(N':List Str){scope:Scope}(src:List (Option Nat))(hk:scope.kind=.function:=by rfl)(hc:D_ scope.names X.env.scope.names X.N N' src=true:=by kernel_rfl)(hf:∀x,X.env.scope.names.lookup x=some .cell->∃c,X.env.cells.lookup x=some c:=by exact λx h=>zE h):mq X N' scope (gO X.env.cells scope.names []) src:=.by hk hc hf
end
structure Txt(P:wE)(K:wb)(mg:Str->Option wf)(a:Ad):Prop where
 tr:P.given.tree=none
 AU:Dn K mg "is_whole" Fd zx a.Ik a.G9
 mE:Dn K mg "greatest_divisor" Di yj a.Gf a.F8
 r8:Dn K mg "is_number" Fg tQ a.HR a.GV
 fU:Dn K mg "plus" BV yX a.plus a.IW
 oz:Dn K mg "minus" FP y8 a.minus a.IC
 jM:Dn K mg "times" Dm yd a.times a.IE
 A2:Dn K mg "over" Bx yO a.over a.IJ
 fT:Dn K mg "less" Fj tH a.less a.IY
 Hm:Dn K mg "is_factor" Bg zD a.H_ a.G3
 HM:Dn K mg "is_shift" F6 zX a.ID a.G_
 Hj:Dn K mg "make_rule" DU yK a.HX a.GY
 HZ:Dn K mg "is_rule" Bm zi a.II a.HF
 sM:Dn K mg "bend" F0 zK a.Jo a.IL
 oy:Dn K mg "pushes" Fp tW a.Je a.Ie
 AO:Dn K mg "pushed_by" Dd sW a.Ii a.G2
 HC:Dn K mg "is_phase" DW zu a.Iu a.Hu
 GW:Dn K mg "are_phases" Es yW a.HQ a.GL
 AR:Dn K mg "swarm_of" EN ya a.Iw a.Ht
 AV:Dn K mg "greatest" B9 yy a.Io a.G8
 HP:Dn K mg "worms_at" CU tZ a.Im a.Hf
 sv:Dn K mg "flocks" Fy yi a.Jb a.Ig
 AN:Dn K mg "at_the_end" Ft yg a.Hy a.GO
 sN:Dn K mg "glow" DM zt a.mH a.IQ
 Ia:Dn K mg "history" Ep Ar a.I_ a.Hz
 Iy:Dn K mg "behind" FN AH a.behind a.HW
 AW:Dn K mg "is_laid" FC t_ a.IH a.Hx
 sH:Dn K mg "laid" BK tF a.laid a.IX
 Gk:Dn K mg "phases_behind" Fm Aa a.GQ a.Gh
 sC:Dn K mg "stands" BQ yH a.sI a.Ib
 AL:Dn K mg "round_behind" Eh zQ a.G6 a.Gm
 G4:Dn K mg "round_time" Bo zw a.HD a.GI
 A3:Dn K mg "tops" DR tP a.iB a.IK
 sj:Dn K mg "is_free" Ec yN a.IT a.Hv
 mF:Dn K mg "round_map" Dh yh a.Ic a.GS
 A0:Dn K mg "still" EG yk a.Ji a.Ip
 AY:Dn K mg "weighed" CZ yP a.IM a.HI
 AZ:Dn K mg "led_on" FX zA a.Ja a.HU
 Gq:Dn K mg "rounds_behind" DA tI a.GJ a.Gj
 Ge:Dn K mg "sums_of_places" EY zZ a.Gy a.Gb
 GR:Dn K mg "rounds_time" Dl zP a.Hh a.Gu
 AM:Dn K mg "draws_freely" E_ t9 a.G1 a.Gs
 GZ:Dn K mg "stays_free" Dg yL a.HA a.GA
 GB:Dn K mg "free_rounds" FT tG a.Hi a.Gw
 AK:Dn K mg "behind_rounds" CP yc a.GF a.Gi
 GU:Dn K mg "behind_row" Bl yJ a.HE a.GC
 HS:Dn K mg "word_of" FR yY a.IP a.Hw
 Gr:Dn K mg "glows_to_join" DV AG a.GP a.Gd
 HK:Dn K mg "next_row" C0 yu a.IF a.He
 AS:Dn K mg "paper_of" BH Af a.IA a.Hn
 sL:Dn K mg "fate" Bs zo a.Jm a.IS
 HY:Dn K mg "_law_pen" B_ sT a.IV a.HN
 dG:Dn K mg "_law_draw" Bb yU a.Iz a.Hg
 gu:Dn K mg "_law_low" FV yz a.IZ a.HJ
 sf:Dn K mg "_law_kind" El zl a.Iv a.G7
 HG:Dn K mg "_law_rule" C3 tf a.Ir a.Hs
 Gx:Dn K mg "_law_any_rule" BW tD a.G5 a.Gn
 GX:Dn K mg "_law_phases" Bv zN a.HB a.GK
 HL:Dn K mg "_law_glow" DB Ab a.Iq a.Ho
 sa:Dn K mg "_law_fate" Bq yl a.IG a.Hl
 ku:Dn K mg "_law_unlike" Cn tJ a.HH a.Gz
 Gg:Dn K mg "_law_leads_back" Bh yq a.Gv a.Ga
 F_:Dn K mg "_law_start_right" BL yn a.Gp a.F9
 YY:Dn K mg "law" yw Ag a.law a.Jc
 h0t:mg "ValueError"=none
 h0W:mg "abs"=none
 h0U:mg "all"=none
 h0T:mg "any"=none
 h0Q:mg "bool"=none
 h0R:mg "dict"=none
 h0y:mg "enumerate"=none
 h1f:mg "int"=none
 h0s:mg "isinstance"=none
 h0S:mg "len"=none
 h0P:mg "list"=none
 h0V:mg "max"=none
 h0L:mg "range"=none
 h0Z:mg "set"=none
 h0Y:mg "sum"=none
 h0O:mg "tuple"=none
 h0X:mg "zip"=none
 Ij:mg "NoStand"=some (.ref a.d4)
 Ih:mg "TooLong"=some (.ref a.cN)
 YH:mg "NoBack"=some (.ref a.sy)
 YO:mg "NoRow"=some (.ref a.sE)
 YJ:mg "NoText"=some (.ref a.sx)
 YL:mg "NoWeb"=some (.ref a.sG)
 YE:mg "NoSwarm"=some (.ref a.sh)
 YK:mg "NoRule"=some (.ref a.sA)
 Yv:mg "NoNumber"=some (.ref a.r_)
 Yp:mg "GlowError"=some (.ref a.AQ)
 Yz:qu K a.d4 oS "ValueError.__new__"=true
 aaa:qL K (.ref a.d4) (.ref a.AQ)=some true
 YD:gP K a.d4
 V_:wC K (.ref a.d4) (.ref a.d4)=some true
 U7:wC K (.ref a.d4) (.ref a.cN)=some false
 Yb:wC K (.ref a.d4) (.ref a.sy)=some false
 Yk:wC K (.ref a.d4) (.ref a.sE)=some false
 Yg:wC K (.ref a.d4) (.ref a.sx)=some false
 Yi:wC K (.ref a.d4) (.ref a.sG)=some false
 U4:wC K (.ref a.d4) (.ref a.sh)=some false
 X_:wC K (.ref a.d4) (.ref a.sA)=some false
 T1:wC K (.ref a.d4) (.ref a.r_)=some false
 Yy:wC K (.ref a.d4) (.type "ValueError")=some true
 YF:qu K a.cN oS "ValueError.__new__"=true
 YC:qL K (.ref a.cN) (.ref a.AQ)=some true
 YA:gP K a.cN
 W_:wC K (.ref a.cN) (.ref a.d4)=some false
 U_:wC K (.ref a.cN) (.ref a.cN)=some true
 Yd:wC K (.ref a.cN) (.ref a.sy)=some false
 Yl:wC K (.ref a.cN) (.ref a.sE)=some false
 Yc:wC K (.ref a.cN) (.ref a.sx)=some false
 Yh:wC K (.ref a.cN) (.ref a.sG)=some false
 U9:wC K (.ref a.cN) (.ref a.sh)=some false
 Ye:wC K (.ref a.cN) (.ref a.sA)=some false
 T_:wC K (.ref a.cN) (.ref a.r_)=some false
 YB:wC K (.ref a.cN) (.type "ValueError")=some true
 dN:mg "NOUGHT"=some (.ref a.cV)
 eJ:∀H:Hp,aI K H a.cV [.int 0,.int 1]
 eQ:mg "ONE"=some (.ref a.dP)
 sO:∀H:Hp,aI K H a.dP [.int 1,.int 1]
 U8:mg "GREATEST_FACTOR"=some (.ref a.AJ)
 U5:∀H:Hp,aI K H a.AJ [.int 4,.int 1]
 Yj:∃t,mg "FACTOR_BOTTOM"=some (.int 8 t)
 Ym:∃t,mg "SHIFT_BOTTOM"=some (.int 12 t)
 Yo:∃t,mg "MOST_WORMS"=some (.int 8 t)
 Yn:∃t,mg "PHASE_BOTTOM"=some (.int 60 t)
 Yq:∃t,mg "MOST_FREE"=some (.int 30 t)
def LX(a:Ad)(C:wf)(w:Str):Prop:=(C=.ref a.d4/\w="stand")\/(C=.ref a.cN/\w="long")
end G
local macro_rules | `(term| ())=>`(term| by lia)
local macro_rules | `(term| ⋯)=>`(term| by decide)
local macro_rules | `(term| ∅)=>`(term| by simp)
open L2 GM in
local macro_rules | `(tactic| wtm_at "is")=>`(tactic| first
 | assumption
 | exact bW.mpr rfl
 | exact ki.mpr rfl
 | exact oq.mpr rfl
 | exact cb.mpr rfl
 | exact Is.Y5 (by assumption) (by wtm_at "same")
 | exact Is.Y3 (by assumption) (by wtm_at "keep")
 | exact Is.Jf (by assumption) (by wtm_at "keep")
 | ((with_reducible apply is_tupAt);(focus assumption);(focus wtm_at "isall");wtm_at "same")
 | ((with_reducible apply is_lstAt);(focus assumption);(focus wtm_at "isall");wtm_at "same")
 | ((with_reducible apply is_dctAt);(focus assumption);wtm_at "same")
 | exact dU 0 (G.Txt.eJ (by assumption) _) rfl rfl | exact dU 1 (G.Txt.sO (by assumption) _) rfl rfl | exact dU 4 (G.Txt.U5 (by assumption) _) rfl rfl
 | fail "is")
open L2 GM in
local macro_rules | `(tactic| wtm_at "isall")=>`(tactic| first
 | exact ao.nil
 | exact ao.cons (by wtm_at "is") (by wtm_at "isall")
 | fail "isall")
open L2 GM in
local macro_rules | `(tactic| wtm_at "ne")=>`(tactic| first
 | assumption
 | (apply WI;assumption))
open L2 GM in
local macro_rules | `(tactic| wtm_at "lst")=>`(tactic| first
 | assumption
 | exact aj.at (by assumption) (by wtm_at "lst")
 | exact Exc.at (by assumption) (by wtm_at "ne") (by wtm_at "lst")
 | fail "lst")
open L2 GM in
local macro_rules | `(tactic| wtm_at "same")=>`(tactic| first
 | assumption
 | exact aj.refl _
 | exact aj.back (by assumption) (by wtm_at "same")
 | fail "same")
open L2 GM in
local macro_rules | `(tactic| wtm_at "keep")=>`(tactic| first
 | assumption
 | exact aV.refl _
 | exact aj.keep (by assumption)
 | exact aV.back (by assumption) (by wtm_at "keep")
 | exact aV.back (aj.keep (by assumption)) (by wtm_at "keep")
 | fail "keep")
open L2 GM in
local macro_rules | `(tactic| wtm_at "exc")=>`(tactic| first
 | assumption
 | exact Exc.refl _ _
 | exact Exc.back (by assumption) (by wtm_at "exc")
 | exact Exc.back (aj.exc (by assumption)) (by wtm_at "exc")
 | fail "exc")
open L2 GM in
local macro_rules | `(tactic| wtm_at "sqf")=>`(tactic| first
 | assumption
 | exact aV.OS (by wtm_at "keep") (by assumption)
 | fail "sqf")
open L2 GM in
local macro_rules | `(tactic| wtm_at "bd")=>`(tactic| first
 | assumption
 | exact Bd.mk (n:=128) ⋯
 | exact Bd.mono (m:=128) ⟨by decide⟩ ⋯
 | exact af.t (by assumption)
 | exact af.b (by assumption)
 | exact Bd.mG () ()
 | (apply Bd.neg;wtm_at "bd")
 | (apply Bd.mul;(focus wtm_at "bd");wtm_at "bd")
 | (apply Bd.add;(focus wtm_at "bd");wtm_at "bd")
 | (apply Bd.sub;(focus wtm_at "bd");wtm_at "bd"))
open L2 GM PySem in
local macro_rules | `(tactic| wtm_at "mulok")=>`(tactic| first
 | exact uC ⋯
 | exact Ub ⋯
 | exact uC (intBits_le_64 () ())
 | exact Ub (intBits_le_64 () ())
 | (apply L2.Y2;(focus wtm_at "bd");(focus wtm_at "bd");(focus decide);decide))
open L2 GM PySem in
local macro_rules | `(tactic| wtm_at "side")=>`(tactic| first
 | assumption
 | decide
 | lia
 | wtm_at "mulok"
 | (refine And.intro ?_ ?_<;>wtm_at "side")
 | wtm_at "bd")
open L2 GM in
local macro_rules | `(tactic| wtm_at "gs")=>`(tactic| first
 | with_reducible (first | refine O3 ?_ | refine OX ?_ | refine zDq ?_ | refine zBS ?_ | refine ZT ?_ | refine zzQ ?_)
 | ((with_reducible apply yr);(focus wtm_at "side"))
 | with_reducible (first | refine zDP ?_ | refine Zi ?_ | refine zB3 ?_ | refine zza ?_ | refine zB1 ?_ | refine zB0 ?_ | refine zBN ?_ | refine lV ?_ | refine lQ ?_)
 | with_reducible refine zAq (λ_=>?_) (λ_=>?_)
 | with_reducible refine zwx (λ_=>?_) (λ_=>?_)
 | with_reducible refine zyB (λ_=>?_) (λ_=>?_)
 | with_reducible refine zz3 (λ_=>?_) (λ_=>?_)
 | with_reducible (first | refine zCY ?_ | refine zDL ?_ | refine zBD ?_ | refine zzl ?_ | refine Z7 ?_ | refine zBw ?_ | refine zy6 ?_ | refine zy0 ?_ | refine zAt ?_ | refine zAx ?_ | refine zAu ?_ | refine zCe ?_ | refine zAz ?_ | refine BM ?_ | refine MB ?_ | refine zzM ?_)
 | ((with_reducible apply zzb);(focus wtm_at "is"))
 | ((with_reducible apply zzu);(focus wtm_at "is"))
 | ((with_reducible apply gJ);(focus(apply aG.of;wtm_at "lst"));(focus rfl))
 | ((with_reducible apply CL);(focus assumption);(focus rfl);intro hN eN lN;dsimp only[Int.reduceToNat,ud,ue]at lN)
 | ((with_reducible apply zxF);(focus wtm_at "is"))
 | ((with_reducible apply MJ);(focus wtm_at "is"))
 | ((with_reducible apply zx4);(focus wtm_at "is"))
 | ((with_reducible apply zw3);(focus wtm_at "is"))
 | dsimp only[ud,ue])
set_option hygiene false in
open L2 GM in
local macro_rules | `(tactic| wtm_at "sq")=>`(tactic| with_reducible refine zzI (λ tl_ htl_=>?_))
set_option hygiene false in
open L2 GM in
local macro_rules | `(tactic| wtm_at "tl")=>`(tactic| ((with_reducible refine zL.go (by assumption) ?_); (try clear htl_ tl_)))
open L2 GM in
local macro_rules | `(tactic| wtm_at "bdr0")=>`(tactic| first
 | assumption
 | exact af.zero
 | exact af.one
 | exact af.four
 | (apply af.add;(focus wtm_at "bdr0");wtm_at "bdr0")
 | (apply af.sub;(focus wtm_at "bdr0");wtm_at "bdr0")
 | (apply af.mul;(focus wtm_at "bdr0");wtm_at "bdr0"))
open L2 GM in
local macro_rules | `(tactic| wtm_at "bdr")=>`(tactic| first
 | assumption
 | (apply af.mono;(focus wtm_at "bdr0");(first | decide | lia)))
open L2 GM in
local macro_rules | `(tactic| wtm_at "ga1")=>`(tactic| first
 | wtm_at "gs"
 | ((with_reducible apply cg);(focus(simp only[vx,QV];decide));(focus wtm_at "isall");intro _ _ _ _)
 | ((with_reducible apply eX);(focus(simp only[vx,QV];decide));intro _ _ _ _ _)
 | with_reducible refine RW (λ_ _ _ _ _=>?_)
 | ((with_reducible apply zf);(focus wtm_at "lst");(focus wtm_at "lst");(focus(simp only[wT,vx,QV];decide));intro _ _ _ _ _))
local macro_rules | `(tactic| wtm_at "ga")=>`(tactic| repeat' (first | wtm_at "ga1" | wtm_at "tl"))
local macro_rules | `(tactic| wtm_at "gg")=>`(tactic| repeat' (first | wtm_at "gs" | wtm_at "tl"))
local macro_rules | `(tactic| wtm_at "gt")=>`(tactic| repeat' (wtm_at "gs"))
open L2 GM in
local macro_rules | `(tactic| wtm_at "bd128")=>`(tactic| first
 | exact Bd.mono (m:=128) ⟨by decide⟩ ⋯
 | exact(Bd.mG () ()).mono ⋯)
open L2 GM in
local macro_rules | `(tactic| wtm_at "gs")=>`(tactic| first
 | with_reducible (first | refine zDc ?_ | refine zvL ?_ | refine zwm ?_ | refine zDj ?_ | refine zx7 ?_ | refine zyI ?_ | refine zyt ?_)
 | ((with_reducible apply zv1);(focus wtm_at "ecls");(focus wtm_at "kit"))
 | ((with_reducible apply zu6);(focus wtm_at "ecls");(focus wtm_at "kit"))
 | with_reducible (first | refine zyR ?_ | refine Ff ?_ | refine zyH ?_ | refine Zg ?_ | refine zDG ?_ | refine zzN ?_ | refine zyx ?_ | refine zvv ?_ | refine zwk ?_ | refine zCE ?_ | refine zzt ?_ | refine zBQ ?_ | refine zu7 ?_ | refine zpv ?_ | refine zwI ?_ | refine zxR ?_ | refine zAE ?_ | refine zwB ?_ | refine zCZ ?_ | refine zwu ?_ | refine ZO ?_ | refine zyo ?_ | refine zwh ?_ | refine zAs ?_ | refine zwK ?_)
 | ((with_reducible apply ZX);(focus wtm_at "is"))
 | ((with_reducible apply zy7);(focus wtm_at "is"))
 | ((with_reducible apply zyZ);(focus wtm_at "is");intro _ _)
 | ((with_reducible apply zAB);(focus wtm_at "is");intro _ _)
 | ((with_reducible apply zyl);(focus wtm_at "is");intro _ _ _ _)
 | ((with_reducible apply gJ);(focus(apply aG.of;wtm_at "lst"));(focus rfl))
 | ((with_reducible apply zy1);(focus wtm_at "lst");(focus lia);(focus lia);intro _ _)
 | ((with_reducible apply zzF);(focus wtm_at "lst");(focus lia);(focus lia);intro _ _)
 | ((with_reducible apply zAm);(focus wtm_at "lst");(focus lia);(focus lia);intro _ _)
 | ((with_reducible apply zB9);(focus wtm_at "is");(focus wtm_at "is"))
 | ((with_reducible apply zCK);(focus wtm_at "is");(focus wtm_at "is")))
open L2 GM in
local macro_rules | `(tactic| wtm_at "gs")=>`(tactic| first
 | wtm_at "sq"
 | with_reducible (first | refine zC6 ?_ | refine Zo ?_ | refine zBM ?_ | refine zDJ ?_)
 | ((with_reducible apply Bk);(focus rfl))
 | with_reducible (first | refine zEh ?_ | refine zzG ?_ | refine zCk ?_ | refine zzA ?_ | refine zAr ?_ | refine zCf ?_ | refine BJ ?_))
local macro_rules | `(tactic| wtm_at "nm")=>`(tactic| exact ⟨rfl,by first | exact Or.inl rfl | exact Or.inr (Or.inl rfl) | exact Or.inr (Or.inr rfl),by decide,by decide⟩)
set_option hygiene false in
local macro_rules | `(tactic| wtm_at "b1")=>`(tactic| (focus (intro vs H Q E h; obtain ⟨_,rfl,_⟩:=h; rfl)); (intro cdv A outer s H vs Q E hr h; obtain ⟨x0,rfl,h⟩:=h; have hu:=hr.units))
set_option hygiene false in
local macro_rules | `(tactic| wtm_at "b2")=>`(tactic| (focus (intro vs H Q E h; obtain ⟨_,_,rfl,_⟩:=h; rfl)); (intro cdv A outer s H vs Q E hr h; obtain ⟨x0,x1,rfl,h⟩:=h; have hu:=hr.units))
set_option hygiene false in
local macro_rules | `(tactic| wtm_at "b3")=>`(tactic| (focus (intro vs H Q E h; obtain ⟨_,_,_,rfl,_⟩:=h; rfl)); (intro cdv A outer s H vs Q E hr h; obtain ⟨x0,x1,x2,rfl,h⟩:=h; have hu:=hr.units))
set_option hygiene false in
local macro_rules | `(tactic| wtm_at "b4")=>`(tactic| (focus (intro vs H Q E h; obtain ⟨_,_,_,_,rfl,_⟩:=h; rfl)); (intro cdv A outer s H vs Q E hr h; obtain ⟨x0,x1,x2,x3,rfl,h⟩:=h; have hu:=hr.units))
set_option hygiene false in
local macro_rules | `(tactic| wtm_at "cl")=>`(tactic| ((clear hu); (try clear hgd); (first | dsimp only [gy,rW] | dsimp only [gy] | skip)))
local macro_rules | `(tactic| k_few)=>`(tactic| wtm_at "gg")
local macro_rules | `(tactic| o_head $e)=>`(tactic| (wtm_at "gg"; refine $e))
open L2 GM G in
local macro_rules | `(tactic| wtm_at "ecls")=>`(tactic| first | exact Txt.YD (by assumption) | exact Txt.YA (by assumption))
open L2 GM G in
local macro_rules | `(tactic| wtm_at "kit")=>`(tactic| first | exact Txt.V_ (by assumption) | exact Txt.U7 (by assumption) | exact Txt.Yb (by assumption) | exact Txt.Yk (by assumption) | exact Txt.Yg (by assumption) | exact Txt.Yi (by assumption) | exact Txt.U4 (by assumption) | exact Txt.X_ (by assumption) | exact Txt.T1 (by assumption) | exact Txt.Yy (by assumption) | exact Txt.W_ (by assumption) | exact Txt.U_ (by assumption) | exact Txt.Yd (by assumption) | exact Txt.Yl (by assumption) | exact Txt.Yc (by assumption) | exact Txt.Yh (by assumption) | exact Txt.U9 (by assumption) | exact Txt.Ye (by assumption) | exact Txt.T_ (by assumption) | exact Txt.YB (by assumption))
namespace G
open PySem PySem.Spec PyProof.Rows L2 GM
section
variable{P:wE}{w:World}{K:wb}{mg:Str->Option wf}{base:wJ}{a:Ad}
variable{H:Hp}{Q:VK}{E:XK}{d e:wG}{b ra rb x y:Rat}{ds:List wG}{i j m n r:Nat}{ps ss xs:List Rat}{u:V}{α:Type}{p q:wg}{ns:List Int}{fl:Nat->Nat}{B t:Int}
def isInt:wG->Bool
 | .int _=>true
 | _=>false
def Rk(K:wb):Sp:=λvs H Q _=>∃x0,vs=[x0] /\ ∃d,Is K H x0 d/\Q (.bl (isInt d)) H
theorem zsd{v:V}(h:Is K H v d)(q:Q (.bl (isInt d)) H):Rk K [v] H Q E:=⟨v,rfl,d,h,q⟩
local macro_rules | `(tactic| wtm_at "gs")=>`(tactic| ((with_reducible apply zsd); (focus wtm_at "is")))
theorem JU(T:Txt P K mg a):aJ P w K mg base aR 1 a.Ik a.G9 zx (Rk K):=by
 refine T.AU.F.ok zqJ ?_ ?_;wtm_at "b1";refine⟨_,(au (aE (iP (cy (show bK _ (.builtin "isinstance") (iD K)from pT) rfl T.h0s fg (ae (pv 0) (ae (kW (v:=.ty "int") rfl T.h1f pQ rfl) ah))) (mh (om (cy (show bK _ (.builtin "isinstance") (iD K)from pT) rfl T.h0s fg (ae (pv 0) (ae (kW (v:=.ty "bool") rfl T.h0Q zAl rfl) ah)))))))),?_⟩;wtm_at "cl";rw[show start Em [x0]=[some x0]from rfl];obtain⟨d,hd,q⟩:=h;k_few
 all_goals(cases d<;>simp_all [isInt,B5,Co])
def Py(K:wb):Sp:=λvs H Q _=>∃x0 x1,vs=[x0,x1] /\ ∃a b:Int,x0=.int a/\x1=.int b/\0<=a/\0<=b/\Q (.int (vy a b:Nat)) H
theorem oY{a b:Int}(ha:0<=a)(hb:0<=b)(q:Q (.int (vy a b:Nat)) H):Py K [.int a,.int b] H Q E:=⟨_,_,rfl,a,b,rfl,rfl,ha,hb,q⟩
theorem oH(T:Txt P K mg a):aJ P w K mg base aR 1 a.Gf a.F8 yj (Py K):=by
 refine T.mE.F.ok yC ?_ ?_;wtm_at "b2"
 refine⟨_,(ak (lF vC (fR K hu (pv 1) av) (ak (ay 2 yC.nd (aB gC (pv 0) (pv 1)))
     (ak (ay 0 yC.nd (pv 1))
     (au (ay 1 yC.nd (pv 2))))))
     (au (aE (pv 0)))),?_⟩
 wtm_at "cl";rw[show start Na [x0,x1]=[some x0,some x1,none]from rfl];obtain⟨a',b',rfl,rfl,ha,hb,q⟩:=h;refine zCh ?_;refine Me (λσ H'=>∃(x y:Int)(r:Option V),σ = [some (.int x),some (.int y),r]/\0<=x/\0<=y/\vy x y=vy a' b'/\H'=H) (λσ=>(Tj σ 1).toNat) ⟨a',b',none,rfl,ha,hb,rfl,rfl⟩ ?_;rintro σ H' ⟨x,y,r,rfl,hx,hy,hg,rfl⟩;k_few
 . refine Lx ?_
   k_few;have h1:=QY x (show y≠0 by assumption);have h2:=Qt x (show 0<y by lia);refine⟨?_,_,_,_,rfl,hy,h1,?_,rfl⟩
   . show(x % y).toNat<y.toNat
     lia
   . rw[<- hg];exact Mt () hx
 . rename_i h0
   subst h0
   have e:((vy a' b':Nat):Int)=x:=by
     rw[<- hg,xm];lia
   rw[e]at q;exact q
def bA:wG->Bool
 | .tuple [.int p,.int q]=>gD p q
 | _=>false
theorem Ez(r:Rat):bA (N r)=true:=Mp r
theorem zsP(h:jh d=false):bA d=false:=by
 cases d<;>first | rfl | (simp[jh]at h)
theorem ZN(h:¬ ds.length=2):bA (.tuple ds)=false:=by
 match ds with
 | []=>rfl
 | [_]=>simp[bA]
 | [_,_]=>exact absurd rfl h
 | _::_::_::_=>simp[bA]
theorem zpa(h:isInt d=false):bA (.tuple [d,e])=false:=by
 cases d<;>first | rfl | (simp[isInt]at h)
theorem znu(h:isInt e=false):bA (.tuple [d,e])=false:=by
 cases d<;>cases e<;>first | rfl | (simp[isInt]at h)
theorem PN : isInt d=true ↔ ∃i,d=.int i:=by cases d<;>simp[isInt]
def Ro(K:wb):Sp:=λvs H Q _=>∃x0,vs=[x0] /\ ∃d,Is K H x0 d/\Q (.bl (bA d)) H
theorem zpH{v:V}(h:Is K H v d)(q:Q (.bl (bA d)) H):Ro K [v] H Q E:=⟨v,rfl,d,h,q⟩
local macro_rules | `(tactic| wtm_at "gs")=>`(tactic| ((with_reducible apply zpH); (focus wtm_at "is")))
theorem F5(T:Txt P K mg a):aJ P w K mg base aR 2 a.HR a.GV tQ (Ro K):=by
 refine T.r8.F.ok zqj ?_ ?_;wtm_at "b1"
 refine⟨_,(ak (bE (PW.pt (iH (dZ (di (cy (show bK _ (.builtin "isinstance") (iD K)from pT) rfl T.h0s fg (ae (pv 0) (ae (kW (v:=.ty "tuple") rfl T.h0O rf rfl) ah))))) (jr (fR K hu (ee K T.h0S (q1 0)) av)))) (au (aE fB)) bN)
     (ak (bE (PW.pt (iH (dZ (di (ar (JU T) hr T.AU (ae (qi 0) ah)))) (jr (dZ (di (ar (JU T) hr T.AU (ae (qi 0) ah))))))) (au (aE fB)) bN)
     (au (aE (iP (kR yI (qi 0) av (du _)) (mh (ie K hu (ar (oH T) hr T.mE (ae (cy nH rfl T.h0W mU (ae (qi 0) ah)) (ae (qi 0) ah))) av))))))),?_⟩
 wtm_at "cl";rw[show start C1 [x0]=[some x0]from rfl];obtain⟨d,hd,q⟩:=h;k_few
 . rename_i e
   rw[zsP e]at q;exact q
 . rename_i e
   obtain⟨ds,rfl⟩:=ME.mp e;refine oj hd ?_;k_few
   . rename_i e
     rw[ZN ()]at q;exact q
   . rename_i e
     obtain⟨d0,d1,rfl⟩:∃d0 d1,ds=[d0,d1]:=by
       match ds,e with
       | [d0,d1],_=>exact⟨d0,d1,rfl⟩
       | [],e=>simp at e
       | [_],e=>simp at e
       | _::_::_::_,e=>simp at e;lia
     refine aF (j:=0) hd rfl (λy0 h0=>?_);k_few
     . rename_i e
       rw[zpa e]at q;exact q
     . rename_i e0
       obtain⟨i,rfl⟩:=PN.mp e0;refine aF (j:=1) hd rfl (λy1 h1=>?_);k_few
       . rename_i e
         rw[znu e]at q;exact q
       . rename_i e1
         obtain⟨j,rfl⟩:=PN.mp e1;refine aF (j:=1) hd rfl (λy2 h2=>?_);cases bW.mp h2;k_few
         . refine aF (j:=0) hd rfl (λy3 h3=>?_)
           cases bW.mp h3;o_head aF (j:=1) hd rfl (λy4 h4=>?_);cases bW.mp h4;o_head oY (by split<;>lia) () ?_;k_few
           have e3:bA (.tuple [.int i,.int j])=decide ((vy (if i<0 then -i else i) j:Nat)=(1:Int)):=by
             have e4:vy (if i<0 then -i else i) j=vy i j:=by
               split<;>simp
             rw[e4]
             show gD i j=_
             rename_i e5;simp only[gD,e5,decide_true,qV];rw[vL,decide_eq_true_eq,decide_eq_true_eq];lia
           rw[e3]at q;exact q
         . rename_i e5
           have e3:bA (.tuple [.int i,.int j])=false:=by
             show gD i j=false
             simp only[gD,e5,decide_false,Vg]
           rw[e3]at q;exact q
def SU(K:wb):Sp:=λvs H Q _=>∃x0 x1,vs=[x0,x1] /\ ∃(x y:Rat),Is K H x0 (N x)/\Is K H x1 (N y)/\af 179980 x/\af 179980 y/\Rs K H Q (N (x+y))
theorem Lg{v w:V}(h1:Is K H v (N x))(h2:Is K H w (N y))(b1:af 179980 x)(b2:af 179980 y)(q:Rs K H Q (N (x+y))):SU K [v,w] H Q E:=⟨_,_,rfl,x,y,h1,h2,b1,b2,q⟩
local macro_rules | `(tactic| wtm_at "gs")=>`(tactic| ((with_reducible apply Lg); (focus wtm_at "is"); (focus wtm_at "is"); (focus wtm_at "bdr"); (focus wtm_at "bdr"); intro _ _ _ _))
theorem gB(T:Txt P K mg a):aJ P w K mg base aR 2 a.plus a.IW yX (SU K):=by
 refine T.fU.F.ok z6 ?_ ?_;wtm_at "b2"
 refine⟨_,(ak (ay 2 z6.nd (ar (oH T) hr T.mE (ae (qi 0) (ae (qi 1) ah))))
     (ak (ay 3 z6.nd (aB bZ (aB cx (qi 0) (aB (fv T.tr hr ⟨_,_,rfl⟩) (qi 1) (pv 2))) (aB cx (qi 1) (aB (fv T.tr hr ⟨_,_,rfl⟩) (qi 0) (pv 2)))))
     (ak (ay 4 z6.nd (ar (oH T) hr T.mE (ae (cy nH rfl T.h0W mU (q1 3)) (q1 2))))
     (au (aE (aY (ae (aB (fv T.tr hr ⟨_,_,rfl⟩) (pv 3) (pv 4)) (ae (aB cx (aB (fv T.tr hr ⟨_,_,rfl⟩) (qi 0) (pv 2)) (aB (fv T.tr hr ⟨_,_,rfl⟩) (qi 1) (pv 4))) ah)))))))),?_⟩
 wtm_at "cl";rw[show start Kl [x0,x1]=[some x0,some x1,none,none,none]from rfl];obtain⟨x,y,hx,hy,⟨bx1,bx2⟩,⟨by1,by2⟩,q⟩:=h;have px:=den_pos x;have py:=den_pos y;have ps:=zC x y;have pd:=C5 x y;have c1:j7 0 (eZ x y):=⟨by lia,rD bx2 (oX x y) px⟩;have c2:j7 0 (jz x y):=⟨by lia,rD (rD bx2 (oX x y) px) (Br x y) ps⟩;have f1:=lY by2 (yR x y) ps;have f2:=lY bx2 (oX x y) ps;have f3:=lY by2 (qS (Br x y) (yR x y)) pd;o_head oY () () ?_;rw[show((vy (x.den:Int) (y.den:Int):Nat):Int)=eZ x y from rfl];k_few;rw[show x.num*(y.den:Int).fdiv (eZ x y)+y.num*(x.den:Int).fdiv (eZ x y)=kN x y from rfl];o_head oY (by split<;>lia) () ?_;rw[DS,show((vy (kN x y) (eZ x y):Nat):Int)=jz x y from rfl];k_few;exact ig (ZK x y) (ZW x y) q
def LZ(K:wb):Sp:=λvs H Q _=>∃x0 x1,vs=[x0,x1] /\ ∃(x y:Rat),Is K H x0 (N x)/\Is K H x1 (N y)/\af 179980 x/\af 179980 y/\Rs K H Q (N (x-y))
theorem zxj{v w:V}(h1:Is K H v (N x))(h2:Is K H w (N y))(b1:af 179980 x)(b2:af 179980 y)(q:Rs K H Q (N (x-y))):LZ K [v,w] H Q E:=⟨_,_,rfl,x,y,h1,h2,b1,b2,q⟩
local macro_rules | `(tactic| wtm_at "gs")=>`(tactic| ((with_reducible apply zxj); (focus wtm_at "is"); (focus wtm_at "is"); (focus wtm_at "bdr"); (focus wtm_at "bdr"); intro _ _ _ _))
theorem AI(T:Txt P K mg a):aJ P w K mg base aR 3 a.minus a.IC y8 (LZ K):=by
 refine T.oz.F.ok Zw ?_ ?_;wtm_at "b2";refine⟨_,(au (aE (ar (gB T) hr T.fU (ae (pv 0) (ae (aY (ae (jA jw (qi 1)) (ae (qi 1) ah))) ah))))),?_⟩;wtm_at "cl";rw[show start Bj [x0,x1]=[some x0,some x1]from rfl];obtain⟨x,y,hx,hy,bx,by',q⟩:=h;o_head ig (r:=-y) ∅ ∅ (λv H' s hv=>?_);o_head Lg (by wtm_at "is") hv bx (zzZ by') (λw H'' s2 hw=>?_);rw[zs0]at hw;k_few;exact q w H'' (s.trans s2) hw
def JK(K:wb):Sp:=λvs H Q _=>∃x0 x1,vs=[x0,x1] /\ ∃(x y:Rat),Is K H x0 (N x)/\Is K H x1 (N y)/\af 179980 x/\af 179980 y/\Rs K H Q (N (x*y))
theorem FH{v w:V}(h1:Is K H v (N x))(h2:Is K H w (N y))(b1:af 179980 x)(b2:af 179980 y)(q:Rs K H Q (N (x*y))):JK K [v,w] H Q E:=⟨_,_,rfl,x,y,h1,h2,b1,b2,q⟩
local macro_rules | `(tactic| wtm_at "gs")=>`(tactic| ((with_reducible apply FH); (focus wtm_at "is"); (focus wtm_at "is"); (focus wtm_at "bdr"); (focus wtm_at "bdr"); intro _ _ _ _))
theorem kH(T:Txt P K mg a):aJ P w K mg base aR 2 a.times a.IE yd (JK K):=by
 refine T.jM.F.ok Fe ?_ ?_;wtm_at "b2"
 refine⟨_,(ak (ay 2 Fe.nd (ar (oH T) hr T.mE (ae (cy nH rfl T.h0W mU (ae (qi 0) ah)) (ae (qi 1) ah))))
     (ak (ay 3 Fe.nd (ar (oH T) hr T.mE (ae (cy nH rfl T.h0W mU (ae (qi 1) ah)) (ae (qi 0) ah))))
     (au (aE (aY (ae (aB cx (aB (fv T.tr hr ⟨_,_,rfl⟩) (qi 0) (pv 2)) (aB (fv T.tr hr ⟨_,_,rfl⟩) (qi 1) (pv 3))) (ae (aB cx (aB (fv T.tr hr ⟨_,_,rfl⟩) (qi 0) (pv 3)) (aB (fv T.tr hr ⟨_,_,rfl⟩) (qi 1) (pv 2))) ah))))))),?_⟩
 wtm_at "cl";rw[show start PF [x0,x1]=[some x0,some x1,none,none]from rfl];obtain⟨x,y,hx,hy,⟨bx1,bx2⟩,⟨by1,by2⟩,q⟩:=h;have px:=den_pos x;have py:=den_pos y;have p1:=mQ x y;have p2:=mQ y x;have c1:j7 0 (gk x y):=⟨by lia,rD by2 (nY x y) py⟩;have c2:j7 0 (gk y x):=⟨by lia,rD bx2 (nY y x) px⟩;have f1:=lY bx1 (z8 x y) p1;have f2:=lY by1 (z8 y x) p2;have f3:=lY bx2 (nY y x) p2;have f4:=lY by2 (nY x y) p1;o_head oY (by split<;>lia) () ?_;rw[DS,show((vy x.num (y.den:Int):Nat):Int)=gk x y from rfl];o_head oY (by split<;>lia) () ?_;rw[DS,show((vy y.num (x.den:Int):Nat):Int)=gk y x from rfl];k_few;exact ig (zzE x y) (zzz x y) q
def La(K:wb):Sp:=λvs H Q _=>∃x0 x1,vs=[x0,x1] /\ ∃(x y:Rat),Is K H x0 (N x)/\Is K H x1 (N y)/\af 179980 x/\af 179980 y/\y≠0/\Rs K H Q (N (x / y))
theorem Rz{v w:V}(h1:Is K H v (N x))(h2:Is K H w (N y))(b1:af 179980 x)(b2:af 179980 y)(hy:y≠0)(q:Rs K H Q (N (x / y))):La K [v,w] H Q E:=⟨_,_,rfl,x,y,h1,h2,b1,b2,hy,q⟩
theorem JR(T:Txt P K mg a):aJ P w K mg base aR 3 a.over a.IJ yO (La K):=by
 refine T.A2.F.ok MM ?_ ?_;wtm_at "b2"
 refine⟨_,(ak (bE (eF K hu (qi 1) av) (au Ca) bN)
     (ak (ay 2 MM.nd (zH (d8 mD (qi 1) av (du _)) (aY (ae (qi 1) (ae (qi 1) ah))) (aY (ae (jA jw (qi 1)) (ae (jA jw (qi 1)) ah)))))
     (au (aE (ar (kH T) hr T.jM (q2 0 2)))))),?_⟩
 wtm_at "cl";rw[show start MI [x0,x1]=[some x0,some x1,none]from rfl];obtain⟨x,y,hx,hy,bx,by',hn,q⟩:=h;k_few
 . rename_i z
   exact absurd z (BC hn)
 . rename_i z0 z
   refine ig (r:=y⁻¹) (ye z).1.symm (ye z).2.symm (λv1 H1 S1 i1=>?_);o_head FH (hx.by S1) i1 bx (Sw by' hn) (λv2 H2 S2 i2=>?_);rw[<- uM]at i2;k_few;exact q v2 H2 (S1.trans S2) i2
 . rename_i z0 z
   have z:y.num<0:=by lia
   refine ig (r:=y⁻¹) (tL z).1.symm (tL z).2.symm (λv1 H1 S1 i1=>?_);o_head FH (hx.by S1) i1 bx (Sw by' hn) (λv2 H2 S2 i2=>?_);rw[<- uM]at i2;k_few;exact q v2 H2 (S1.trans S2) i2
def LJ(K:wb):Sp:=λvs H Q _=>∃x0 x1,vs=[x0,x1] /\ ∃(x y:Rat),Is K H x0 (N x)/\Is K H x1 (N y)/\af 179980 x/\af 179980 y/\Q (.bl (decide (x<y))) H
theorem zzB{v w:V}(h1:Is K H v (N x))(h2:Is K H w (N y))(b1:af 179980 x)(b2:af 179980 y)(q:Q (.bl (decide (x<y))) H):LJ K [v,w] H Q E:=⟨_,_,rfl,x,y,h1,h2,b1,b2,q⟩
local macro_rules | `(tactic| wtm_at "gs")=>`(tactic| ((with_reducible apply zzB); (focus wtm_at "is"); (focus wtm_at "is"); (focus wtm_at "bdr"); (focus wtm_at "bdr")))
theorem gL(T:Txt P K mg a):aJ P w K mg base aR 1 a.less a.IY tH (LJ K):=by
 refine T.fT.F.ok zAj ?_ ?_;wtm_at "b2";refine⟨_,(au (aE (kR p_ (aB cx (qi 0) (qi 1)) (aB cx (qi 1) (qi 0)) (du _)))),?_⟩;wtm_at "cl";rw[show start FA [x0,x1]=[some x0,some x1]from rfl];obtain⟨x,y,hx,hy,⟨bx1,bx2⟩,⟨by1,by2⟩,q⟩:=h;k_few;rw[zDy];exact q
def rX(x:Rat):Bool:=decide (0<x)&&(!decide (4<x))&&decide ((x.den:Int)<=8)
def PZ(K:wb):Sp:=λvs H Q _=>∃x0,vs=[x0] /\ ∃x:Rat,Is K H x0 (N x)/\af 80000 x/\Q (.bl (rX x)) H
theorem zp9{v:V}(h:Is K H v (N x))(b:af 80000 x)(q:Q (.bl (rX x)) H):PZ K [v] H Q E:=⟨_,rfl,x,h,b,q⟩
local macro_rules | `(tactic| wtm_at "gs")=>`(tactic| ((with_reducible apply zp9); (focus wtm_at "is"); (focus wtm_at "bdr")))
theorem zp2(T:Txt P K mg a):aJ P w K mg base aR 2 a.H_ a.G3 zD (PZ K):=by
 refine T.Hm.F.ok zoV ?_ ?_;wtm_at "b1";refine⟨_,(au (aE (iP (ar (gL T) hr T.fT (ae (br (v:=.ref a.cV) rfl T.dN rfl) (q1 0))) (iP (om (ar (gL T) hr T.fT (ae (br (v:=.ref a.AJ) rfl T.U8 rfl) (q1 0)))) (mh (kR md (qi 0) (pV rfl T.Yj) (du _))))))),?_⟩;wtm_at "cl";rw[show start EI [x0]=[some x0]from rfl];obtain⟨x,hx,bx,q⟩:=h;unfold rX at q;k_few
 ·rename_i h1 h2
  rw[decide_eq_true h1,decide_eq_false h2]at q;exact q
 ·rename_i h1 h2
  rw[decide_eq_true h1,decide_eq_true h2]at q;exact q
 ·rename_i h1
  rw[decide_eq_false h1]at q;exact q
def oE(x:Rat):Bool:=(!decide (x<0))&&(!decide (1<x))&&decide ((x.den:Int)<=12)
def Pw(K:wb):Sp:=λvs H Q _=>∃x0,vs=[x0] /\ ∃x:Rat,Is K H x0 (N x)/\af 80000 x/\Q (.bl (oE x)) H
theorem zqI{v:V}(h:Is K H v (N x))(b:af 80000 x)(q:Q (.bl (oE x)) H):Pw K [v] H Q E:=⟨_,rfl,x,h,b,q⟩
local macro_rules | `(tactic| wtm_at "gs")=>`(tactic| ((with_reducible apply zqI); (focus wtm_at "is"); (focus wtm_at "bdr")))
theorem zqE(T:Txt P K mg a):aJ P w K mg base aR 2 a.ID a.G_ zX (Pw K):=by
 refine T.HM.F.ok zrD ?_ ?_;wtm_at "b1";refine⟨_,(au (aE (iP (om (ar (gL T) hr T.fT (ae (pv 0) (ae (br (v:=.ref a.cV) rfl T.dN rfl) ah)))) (iP (om (ar (gL T) hr T.fT (ae (br (v:=.ref a.dP) rfl T.eQ rfl) (q1 0)))) (mh (kR md (qi 0) (pV rfl T.Ym) (du _))))))),?_⟩;wtm_at "cl";rw[show start Bc [x0]=[some x0]from rfl];obtain⟨x,hx,bx,q⟩:=h;unfold oE at q;k_few
 ·rename_i h1 h2
  rw[decide_eq_false h1,decide_eq_false h2]at q;exact q
 ·rename_i h1 h2
  rw[decide_eq_false h1,decide_eq_true h2]at q;exact q
 ·rename_i h1
  rw[decide_eq_true h1]at q;exact q
def lC(x y:Rat):Bool:=rX x&&oE y && !decide (x+y<1)
def Dw(K:wb):Sp:=λvs H Q _=>∃x0 x1,vs=[x0,x1]/\((∃d e,Is K H x0 d/\Is K H x1 e/\(bA d&&bA e)=false/\Rq H Q (.bl false))\/(∃x y:Rat,Is K H x0 (N x)/\Is K H x1 (N y)/\af 1000 x/\af 1000 y/\Rq H Q (.bl (lC x y))))
theorem znH{v w:V}(h1:Is K H v d)(h2:Is K H w e)(n:(bA d&&bA e)=false)(q:Rq H Q (.bl false)):Dw K [v,w] H Q E:=⟨_,_,rfl,.inl ⟨d,e,h1,h2,n,q⟩⟩
theorem zpt{v w:V}(h1:Is K H v (N x))(h2:Is K H w (N y))(b1:af 1000 x)(b2:af 1000 y)(q:Rq H Q (.bl (lC x y))):Dw K [v,w] H Q E:=⟨_,_,rfl,.inr ⟨x,y,h1,h2,b1,b2,q⟩⟩
theorem zo8(T:Txt P K mg a):aJ P w K mg base aR 3 a.HX a.GY yK (Dw K):=by
 refine T.Hj.F.ok zqh ?_ ?_;wtm_at "b2"
 refine⟨_,(ak (bE (PW.pt (iH (dZ (di (ar (F5 T) hr T.r8 (q1 0)))) (jr (dZ (di (ar (F5 T) hr T.r8 (q1 1))))))) (au (aE fB)) bN)
     (au (aE (iP (ar (zp2 T) hr T.Hm (q1 0)) (iP (ar (zqE T) hr T.HM (q1 1)) (mh (om (ar (gL T) hr T.fT (ae (ar (gB T) hr T.fU (q2 0 1)) (ae (br (v:=.ref a.dP) rfl T.eQ rfl) ah)))))))))),?_⟩
 wtm_at "cl";rw[show start CV [x0,x1]=[some x0,some x1]from rfl];rcases h with⟨d,e,hd,he,hn,q⟩ | ⟨x,y,hx,hy,bx,by',q⟩
 . k_few
   . exact q _ (aj.refl _)
   . exact q _ (aj.refl _)
   . rename_i h1 h2
     exact absurd hn (by rw[h1,h2];decide)
 . unfold lC at q
   k_few
   . rename_i z;rw[Ez]at z;cases z
   . rename_i z;rw[Ez]at z;cases z
   . rename_i h1 h2 v H' S hv
     rw[h1,h2]at q;exact q _ S
   . rename_i h1 h2
     rw[h1,h2]at q;exact q _ (aj.refl _)
   . rename_i h1
     rw[h1]at q;exact q _ (aj.refl _)
def MC:wG->Bool
 | .tuple [d,e]=>!(bA d&&bA e)
 | _=>true
theorem zrZ(h:MC (.tuple [d,e])=true):(bA d&&bA e)=false:=by
 have h:(!(bA d&&bA e))=true:=h;cases z:(bA d&&bA e)with
 | false=>rfl
 | true=>rw[z]at h;exact absurd h ⋯
def Tr(K:wb):Sp:=λvs H Q _=>∃x0,vs=[x0]/\((∃d,Is K H x0 d/\MC d=true/\Rq H Q (.bl false))\/(∃x y:Rat,Is K H x0 (R x y)/\af 1000 x/\af 1000 y/\Rq H Q (.bl (lC x y))))
theorem ztu{v:V}(h:Is K H v (R x y))(b1:af 1000 x)(b2:af 1000 y)(q:Rq H Q (.bl (lC x y))):Tr K [v] H Q E:=⟨_,rfl,.inr ⟨x,y,h,b1,b2,q⟩⟩
theorem ZH(T:Txt P K mg a):aJ P w K mg base aR 4 a.II a.HF zi (Tr K):=by
 refine T.HZ.F.ok zsJ ?_ ?_;wtm_at "b1";refine⟨_,(au (aE (iP (cy (show bK _ (.builtin "isinstance") (iD K)from pT) rfl T.h0s fg (ae (pv 0) (ae (kW (v:=.ty "tuple") rfl T.h0O rf rfl) ah))) (iP (ie K hu (ee K T.h0S (q1 0)) av) (mh (ar (zo8 T) hr T.Hj (ae (qi 0) (ae (qi 0) ah)))))))),?_⟩;wtm_at "cl";rw[show start FI [x0]=[some x0]from rfl];rcases h with⟨d,hd,hn,q⟩ | ⟨x,y,hr,bx,by',q⟩
 ·k_few
  ·rename_i e
   obtain⟨ds,rfl⟩:=ME.mp e;refine oj hd ?_;k_few
   ·rename_i e
    obtain⟨d0,d1,rfl⟩:∃d0 d1,ds=[d0,d1]:=by
     match ds,e with
     | [d0,d1],_=>exact⟨d0,d1,rfl⟩
     | [],e=>simp at e
     | [_],e=>simp at e
     | _::_::_::_,e=>simp at e;lia
    refine aF (j:=0) hd rfl (λy0 h0=>?_);o_head aF (j:=1) hd rfl (λy1 h1=>?_);o_head znH h0 h1 (zrZ hn) (λH' S=>?_);k_few;exact q _ S
   ·exact q _ (aj.refl _)
  ·exact q _ (aj.refl _)
 ·k_few
  refine zpt (by assumption) (by assumption) bx by' (λH' S=>?_);k_few;exact q _ S
def lR(x:Rat):Str:=if 1<x then "rising" else if x=1 then "even" else "falling"
def NY(K:wb):Sp:=λvs H Q _=>∃x0,vs=[x0] /\ ∃x y:Rat,Is K H x0 (R x y)/\af 80000 x/\Q (.str (lR x)) H
theorem EB{v:V}(h:Is K H v (R x y))(b:af 80000 x)(q:Q (.str (lR x)) H):NY K [v] H Q E:=⟨_,rfl,x,y,h,b,q⟩
theorem Ew(T:Txt P K mg a):aJ P w K mg base aR 2 a.Jo a.IL zK (NY K):=by
 refine T.sM.F.ok zzS ?_ ?_;wtm_at "b1"
 refine⟨_,(ak (bE (di (ar (gL T) hr T.fT (ae (br (v:=.ref a.dP) rfl T.eQ rfl) (ae (qi 0) ah)))) (au (aE cv)) bN)
     (ak (bE (eF K hu (qi 0) (br (v:=.ref a.dP) rfl T.eQ rfl)) (au (aE cv)) bN)
     (au (aE cv)))),?_⟩
 wtm_at "cl";rw[show start FU [x0]=[some x0]from rfl];obtain⟨x,y,hx,bx,q⟩:=h;unfold lR at q;k_few
 . rename_i h1
   rw[if_pos h1]at q;exact q
 . rename_i h1 _ _ h2
   rw[if_neg h1,if_pos h2]at q;exact q
 . rename_i h1 _ _ h2
   rw[if_neg h1,if_neg h2]at q;exact q
def CS(K:wb):Sp:=λvs H Q _=>∃x0 x1,vs=[x0,x1] /\ ∃(a b:Rat)(n:Int),x1=.int n/\Is K H x0 (R a b)/\af 80000 a/\af 80000 b/\0<=n/\n<=64/\(∀i,i<=n.toNat->af 80000 (a^i))/\(∀i,i<=n.toNat->af 80000 (aC a b i))/\Rs K H Q (R (a^n.toNat) (aC a b n.toNat))
theorem R0{a:Rat}{n:Int}{v:V}(h1:Is K H v (R a b))(b1:af 80000 a)(b2:af 80000 b)(h0:0<=n)(h64:n<=64)(f1:∀i,i<=n.toNat->af 80000 (a^i))(f2:∀i,i<=n.toNat->af 80000 (aC a b i))(q:Rs K H Q (R (a^n.toNat) (aC a b n.toNat))):CS K [v,.int n] H Q E:=⟨_,_,rfl,a,b,n,rfl,h1,b1,b2,h0,h64,f1,f2,q⟩
theorem DY{a:Rat}{n:Int}{v:V}(h1:Is K H v (R a b))(b1:af 10 a)(b2:af 10 b)(h0:0<=n)(h64:n<=64)(q:Rs K H Q (R (a^n.toNat) (aC a b n.toNat))):CS K [v,.int n] H Q E :=
 R0 h1 (b1.mono ⋯) (b2.mono ⋯) h0 h64 (λi hi=>(b1.pow i).mono ()) (λi hi=>(b1.aC b2 i).mono ()) q
theorem yB(T:Txt P K mg a):aJ P w K mg base aR 3 a.Je a.Ie tW (CS K):=by
 refine T.oy.F.ok mZ ?_ ?_;wtm_at "b2"
 refine⟨_,(ak (ay 2 mZ.nd (br (v:=.ref a.dP) rfl T.eQ rfl))
     (ak (ay 3 mZ.nd (br (v:=.ref a.cV) rfl T.dN rfl))
     (ak (fE vC rfl (je rfl T.h0L (q1 1)) (dh (i:=4) mZ.nd rfl (Or.inl rfl)) (ak (ay 2 mZ.nd (ar (kH T) hr T.jM (ae (qi 0) (q1 2))))
     (au (ay 3 mZ.nd (ar (gB T) hr T.fU (ae (ar (kH T) hr T.jM (ae (qi 0) (q1 3))) (ae (qi 0) ah)))))))
     (au (aE (aY (q2 2 3))))))),?_⟩
 wtm_at "cl";rw[show start Mh [x0,x1]=[some x0,some x1,none,none,none]from rfl];obtain⟨r,s',n,rfl,hr',ba,bb,h0,h64,f1,f2,q⟩:=h;o_head kI (n:=n) () () (λi σ H'=>∃(f g:V)(o:Option V),σ = [some x0,some (.int n),some f,some g,o]/\aj H H'/\Is K H' f (N (r^i))/\Is K H' g (N (aC r s' i))) ⟨_,_,_,rfl,aj.refl H,by rw[Qm];exact lX.mpr ⟨_,rfl,T.sO H⟩,lX.mpr ⟨_,rfl,T.eJ H⟩⟩ ?_ ?_
 . rintro i σ H' hi ⟨f,g,o,rfl,S1,hf,hg⟩
   have hr1:=hr'.by S1;have bf:af 80000 (r^i):=f1 i ();have bg:af 80000 (aC r s' i):=f2 i ();have bg2:af 179980 (r*aC r s' i):=(ba.mul bg).mono ⋯;o_head ⟨_,_,_,rfl,S1.trans (aj.trans (by assumption) (aj.trans (by assumption) (by assumption))),?_,?_⟩
   . rw[Vs,QZ]
     wtm_at "is"
   . wtm_at "is"
 . rintro σ H' ⟨f,g,o,rfl,S1,hf,hg⟩
   wtm_at "ga";exact q _ _ (S1.trans (by assumption)) (by assumption)
def O8(K:wb):Sp:=λvs H Q _=>∃x0 x1,vs=[x0,x1] /\ ∃(f g x:Rat),Is K H x0 (R f g)/\Is K H x1 (N x)/\af 700 f/\af 30000 g/\af 162000 x/\Rs K H Q (N (f*x+g))
theorem Ry{f g:Rat}{v w:V}(h1:Is K H v (R f g))(h2:Is K H w (N x))(b1:af 700 f)(b2:af 30000 g)(b3:af 162000 x)(q:Rs K H Q (N (f*x+g))):O8 K [v,w] H Q E:=⟨_,_,rfl,f,g,x,h1,h2,b1,b2,b3,q⟩
theorem Sn(T:Txt P K mg a):aJ P w K mg base aR 3 a.Ii a.G2 sW (O8 K):=by
 refine T.AO.F.ok zqg ?_ ?_;wtm_at "b2";refine⟨_,(au (aE (ar (gB T) hr T.fU (ae (ar (kH T) hr T.jM (ae (qi 0) (q1 1))) (ae (qi 0) ah))))),?_⟩;wtm_at "cl";rw[show start Ds [x0,x1]=[some x0,some x1]from rfl];obtain⟨f,g,x,hp,hx,bf,bg,bx,q⟩:=h;k_few;rename_i hz;exact q _ _ (aj.trans (by assumption) (by assumption)) hz
def zc(K:wb):Sp:=λvs H Q _=>∃x0,vs=[x0]/\((∃d,Is K H x0 d/\bA d=false/\Q (.bl false) H)\/(∃x:Rat,Is K H x0 (N x)/\af 80000 x/\Q (.bl (j8 x)) H))
theorem zqa{v:V}(h:Is K H v d)(n:bA d=false)(q:Q (.bl false) H):zc K [v] H Q E:=⟨_,rfl,.inl ⟨d,h,n,q⟩⟩
theorem zqy{v:V}(h:Is K H v (N x))(b:af 80000 x)(q:Q (.bl (j8 x)) H):zc K [v] H Q E:=⟨_,rfl,.inr ⟨x,h,b,q⟩⟩
theorem zru(T:Txt P K mg a):aJ P w K mg base aR 3 a.Iu a.Hu zu (zc K):=by
 refine T.HC.F.ok zqP ?_ ?_;wtm_at "b1"
 refine⟨_,(ak (bE (PW.pt (iH (dZ (di (ar (F5 T) hr T.r8 (q1 0)))) (jr (di (ar (gL T) hr T.fT (ae (pv 0) (ae (br (v:=.ref a.cV) rfl T.dN rfl) ah))))))) (au (aE fB)) bN)
     (au (aE (iP (ar (gL T) hr T.fT (ae (pv 0) (ae (br (v:=.ref a.dP) rfl T.eQ rfl) ah))) (mh (kR md (qi 0) (pV rfl T.Yn) (du _))))))),?_⟩
 wtm_at "cl";rw[show start Bp [x0]=[some x0]from rfl];rcases h with⟨d,hd,hn,q⟩ | ⟨x,hx,bx,q⟩
 . k_few
   . exact q
   . rename_i e;rw[hn]at e;cases e
 . unfold j8 at q
   k_few
   . rename_i z;rw[Ez]at z;cases z
   . rename_i h1
     rw[decide_eq_true h1]at q;exact q
   . rename_i h1 h2
     rw[decide_eq_false h1,decide_eq_true h2]at q;exact q
   . rename_i h1 h2
     rw[decide_eq_false h1,decide_eq_false h2]at q;exact q
def fS:wG->Bool
 | .tuple [.int p,.int q]=>gD p q&&j8 (wy p q)
 | _=>false
theorem J4(x:Rat):fS (N x)=j8 x:=by
 show(gD x.num x.den&&j8 (wy x.num x.den))=j8 x
 rw[Mp,xh,qV]
theorem zs9(h:bA d=true):∃x:Rat,d=N x:=by
 match d with
 | .tuple [.int p,.int q] =>
  obtain⟨r,e1,e2⟩:=zp5 (show gD p q=true from h);exact⟨r,by rw[e1,e2];rfl⟩
 | .none=>simp[bA]at h
 | .bool _=>simp[bA]at h
 | .int _=>simp[bA]at h
 | .str _=>simp[bA]at h
 | .list _=>simp[bA]at h
 | .dict _=>simp[bA]at h
 | .tuple []=>simp[bA]at h
 | .tuple [_]=>simp[bA]at h
 | .tuple (_::_::_::_)=>simp[bA]at h
 | .tuple [.none,_]=>simp[bA]at h
 | .tuple [.bool _,_]=>simp[bA]at h
 | .tuple [.str _,_]=>simp[bA]at h
 | .tuple [.tuple _,_]=>simp[bA]at h
 | .tuple [.list _,_]=>simp[bA]at h
 | .tuple [.dict _,_]=>simp[bA]at h
 | .tuple [.int _,.none]=>simp[bA]at h
 | .tuple [.int _,.bool _]=>simp[bA]at h
 | .tuple [.int _,.str _]=>simp[bA]at h
 | .tuple [.int _,.tuple _]=>simp[bA]at h
 | .tuple [.int _,.list _]=>simp[bA]at h
 | .tuple [.int _,.dict _]=>simp[bA]at h
theorem zzU(h:bA d=false):fS d=false:=by
 unfold fS
 split
 ·rename_i p q
  rw[show gD p q=false from h];rfl
 ·rfl
theorem LH{v:V}(h:Is K H v d)(b:∀x,d=N x->af 80000 x)(q:Q (.bl (fS d)) H):zc K [v] H Q E:=by
 cases e:bA d with
 | false=>rw[zzU e]at q;exact zqa h e q
 | true =>
  obtain⟨x,rfl⟩:=zs9 e;rw[J4]at q;exact zqy h (b x rfl) q
def M5(K:wb):Sp:=λvs H Q _=>∃x0,vs=[x0]/\((∃d,Is K H x0 d/\(oF d || jh d)=false/\Rq H Q (.bl false))\/(∃ds,(Is K H x0 (.list ds)\/Is K H x0 (.tuple ds))/\(∀e∈ds,∀x,e=N x->af 80000 x)/\Rq H Q (.bl (decide (1<=ds.length)&&decide (ds.length<=8)&&ds.all fS))))
theorem znL{v:V}(h:Is K H v (.list ds)\/Is K H v (.tuple ds))(b:∀e∈ds,∀x,e=N x->af 80000 x)(q:Rq H Q (.bl (decide (1<=ds.length)&&decide (ds.length<=8)&&ds.all fS))):M5 K [v] H Q E:=⟨_,rfl,.inr ⟨ds,h,b,q⟩⟩
theorem znP(T:Txt P K mg a):aJ P w K mg base aR 4 a.HQ a.GL yW (M5 K):=by
 refine T.GW.F.ok znF ?_ ?_;wtm_at "b1"
 refine⟨_,(ak (bE (PW.pt (iH (dZ (di (cy (show bK _ (.builtin "isinstance") (CK K)from ztj) rfl T.h0s fg (ae (pv 0) (ae (aY (ae (kW (v:=.ty "list") rfl T.h0P pk rfl) (ae (kW (v:=.ty "tuple") rfl T.h0O rf rfl) ah))) ah))))) (jr (dZ (zxD md md av (ee K T.h0S (q1 0)) (pV rfl T.Yo)))))) (au (aE fB)) bN)
     (au (aE (cy (show bK _ (.builtin "all") (ny K)from tM rfl) rfl T.h0U zj (ae (eC rfl (cW ["one"] [none]) (Nt (pv 0)) (λ_ _ _ _ _=>(cC 0)) (λ_ _ _ _ _=>eI) (λ_ _ _ _ _=>(ar (zru (K:=K) (mg:=mg) (a:=a) T) hr T.HC (q1 0)))) ah))))),?_⟩
 wtm_at "cl";rw[show start ES [x0]=[some x0]from rfl];rcases h with⟨d,hd,hn,q⟩ | ⟨ds,hd,bd,q⟩
 . k_few
   refine rA ∅ (λtp H1 _ S1 e1=>?_);o_head B4 (hd.by S1) e1 ?_;rw[hn];k_few;exact q H1 S1
 . rcases hd with hd | hd
   . k_few
     refine rA ∅ (λtp H1 _ S1 e1=>?_);o_head B4 (hd.by S1) e1 ?_;rw[show(oF (.list ds) || jh (.list ds))=true from rfl];obtain⟨ap,us,rfl,hs,tu⟩:=cf.mp (hd.by S1);have hul:=tu.length;o_head iu hs ?_;rw[hul];k_few
     . rename_i z0 z
       have:=q H1 S1;rw[decide_eq_false (show ¬ ds.length<=8 by lia),Q8,Vg]at this;exact this
     . rename_i z0 z
       have h1:1<=ds.length:=by lia
       have h8:ds.length<=8:=by lia
       refine .inl (mM (o0:=none) (tl:=[]) hs rfl (λj y H'=>y=.bl (fS (ds.getD j .none))) ?_ ?_)
       . intro D i x ys o H2 hx inv
         obtain⟨hi,ix⟩:=rz tu hx;o_head LH (ix.by inv.same) (λx e=>bd _ (getD_mem hi) x e) ?_;k_few;exact eU inv () (λ_ _ _ _ _ z=>z) ⟨_,rfl⟩ (aj.refl _) rfl
       . intro D ys H2 hn S2 hD hl hr
         have hys:ys=(ds.map fS).map V.bl:=by
           refine WV (by rw[hl,hul,wm,wm]) λj h1 h2=>?_
           have:=hr j ys[j] (wc h1);rw[this,Vc,Vc,wa,wc]
           rfl
         subst hys;o_head oI (.of hD) ?_;k_few;have e:(ds.map fS).all id=ds.all fS:=by rw[X8];rfl
         have:=q H2 (S1.trans S2);rw[decide_eq_true h1,decide_eq_true h8,<- e]at this;exact this
     . rename_i z
       have:=q H1 S1;rw[decide_eq_false (show ¬ 1<=ds.length by lia),Vg,Vg]at this;exact this
   . k_few
     refine rA ∅ (λtp H1 _ S1 e1=>?_);o_head B4 (hd.by S1) e1 ?_;rw[show(oF (.tuple ds) || jh (.tuple ds))=true from rfl];obtain⟨ap,us,rfl,hs,tu⟩:=bQ.mp (hd.by S1);have hul:=tu.length;o_head Mz hs ?_;rw[hul];k_few
     . rename_i z0 z
       have:=q H1 S1;rw[decide_eq_false (show ¬ ds.length<=8 by lia),Q8,Vg]at this;exact this
     . rename_i z0 z
       have h1:1<=ds.length:=by lia
       have h8:ds.length<=8:=by lia
       refine .inr (jC (o0:=none) (tl:=[]) hs rfl (λj y H'=>y=.bl (fS (ds.getD j .none))) ?_ ?_)
       . intro D i x ys o H2 hx inv
         obtain⟨hi,ix⟩:=rz tu hx;o_head LH (ix.by inv.same) (λx e=>bd _ (getD_mem hi) x e) ?_;k_few;exact eU inv () (λ_ _ _ _ _ z=>z) ⟨_,rfl⟩ (aj.refl _) rfl
       . intro D ys H2 hn S2 hD hl hr
         have hys:ys=(ds.map fS).map V.bl:=by
           refine WV (by rw[hl,hul,wm,wm]) λj h1 h2=>?_
           have:=hr j ys[j] (wc h1);rw[this,Vc,Vc,wa,wc]
           rfl
         subst hys;o_head oI (.of hD) ?_;k_few;have e:(ds.map fS).all id=ds.all fS:=by rw[X8];rfl
         have:=q H2 (S1.trans S2);rw[decide_eq_true h1,decide_eq_true h8,<- e]at this;exact this
     . rename_i z
       have:=q H1 S1;rw[decide_eq_false (show ¬ 1<=ds.length by lia),Vg,Vg]at this;exact this
theorem zvc{a:Rat}(h:aO a b):lC a b=true:=by
 obtain⟨h1,h2,h3,h4,h5,h6,h7⟩:=h;have k2:¬ (4:Rat)<a:=qa.mpr h2;have k4:¬ b<0:=qa.mpr h4;have k5:¬ (1:Rat)<b:=qa.mpr h5;have k7:¬ a+b<1:=qa.mpr h7;have k3:(a.den:Int)<=8:=by lia
 have k6:(b.den:Int)<=12:=by lia
 simp[lC,rX,oE,h1,k2,k3,k4,k5,k6,k7]
theorem zCR(h:∀x∈xs,fD x):(xs.map N).all fS=true:=by
 rw[WW];intro d hd;obtain⟨x,hx,rfl⟩:=wU.mp hd;rw[J4];exact(h x hx).is
theorem zAd(h:∀x∈xs,fD x):∀e∈xs.map N,∀x,e=N x->af 80000 x:=by
 intro e he x hx;obtain⟨y,hy,rfl⟩:=wU.mp he;rw[<- Z1 hx];exact(h y hy).f_.mono ⋯
def L_(K:wb):Sp:=λvs H Q _=>∃x0 x1,vs=[x0,x1] /\ ∃(a b:Rat)(xs:List Rat),Is K H x0 (R a b)/\aO a b/\(Is K H x1 (LN xs)\/Is K H x1 (TN xs))/\1<=xs.length/\xs.length<=8/\(∀x∈xs,fD x)/\Rs K H Q (bo a b xs)
theorem MH{a:Rat}{v w:V}(h1:Is K H v (R a b))(ok:aO a b)(h2:Is K H w (LN xs)\/Is K H w (TN xs))(h3:1<=xs.length)(h4:xs.length<=8)(h5:∀x∈xs,fD x)(q:Rs K H Q (bo a b xs)):L_ K [v,w] H Q E:=⟨_,_,rfl,a,b,xs,h1,ok,h2,h3,h4,h5,q⟩
theorem Kc(T:Txt P K mg a):aJ P w K mg base aR 5 a.Iw a.Ht ya (L_ K):=by
 refine T.AR.F.ok zqT ?_ ?_;wtm_at "b2"
 refine⟨_,(ak (bE (dZ (di (ar (ZH T) hr T.HZ (q1 0)))) (au Ca) bN)
     (ak (bE (dZ (di (ar (znP T) hr T.GW (q1 1)))) (au Ca) bN)
     (au (aE (aY (ae (pv 0) (ae (d9 K T.h0O (q1 1)) ah))))))),?_⟩
 wtm_at "cl";rw[show start FZ [x0,x1]=[some x0,some x1]from rfl];obtain⟨ra,rb,xs,hr,ok,hp,h1,h8,hph,q⟩:=h;o_head ztu hr (ok.ba.mono ⋯) (ok.bb.mono ⋯) (λH1 S1=>?_);rw[zvc ok];k_few;have hp1:Is K H1 x1 (LN xs)\/Is K H1 x1 (TN xs):=hp.imp (λz=>z.by S1) (λz=>z.by S1);refine znL (ds:=xs.map N) hp1 (zAd hph) (λH2 S2=>?_);rw[zCR hph,wm,decide_eq_true h1,decide_eq_true h8,show(true&&true&&true)=true from rfl];have hp2:Is K H2 x1 (LN xs)\/Is K H2 x1 (TN xs):=hp1.imp (λz=>z.by S2) (λz=>z.by S2);have hr2:Is K H2 x0 (R ra rb):=(hr.by S1).by S2;k_few;rcases hp2 with z | z
 . refine gx z (λw H3 S3 i3=>?_)
   o_head cg (ds:=[R ra rb,TN xs]) ∅ (.cons (hr2.by S3) (.cons i3 .nil)) (λv H4 S4 i4=>?_);exact q v H4 (S1.trans (S2.trans (S3.trans S4))) i4
 . refine yE z ?_
   o_head cg (ds:=[R ra rb,TN xs]) ∅ (.cons hr2 (.cons z .nil)) (λv H4 S4 i4=>?_);exact q v H4 (S1.trans (S2.trans S4)) i4
def Te(K:wb):Sp:=λvs H Q _=>∃x0,vs=[x0] /\ ∃xs:List Rat,(Is K H x0 (LN xs)\/Is K H x0 (TN xs))/\1<=xs.length/\(∀i,af 80000 (xs.getD i 0)) /\ ∀v,Is K H v (N (bG xs))->Q v H
theorem Mk{v:V}(h:Is K H v (LN xs)\/Is K H v (TN xs))(h1:1<=xs.length)(b:∀i,af 80000 (xs.getD i 0))(q:∀v,Is K H v (N (bG xs))->Q v H):Te K [v] H Q E:=⟨_,rfl,xs,h,h1,b,q⟩
theorem LQ(T:Txt P K mg a):aJ P w K mg base aR 2 a.Io a.G8 yy (Te K):=by
 refine T.AV.F.ok w_ ?_ ?_;wtm_at "b1"
 refine⟨_,(ak (ay 1 w_.nd (qi 0))
     (ak (fE vC rfl (Nt (pv 0)) (dh (i:=2) w_.nd rfl (Or.inl rfl)) (au (bE (di (ar (gL T) hr T.fT (q2 1 2))) (au (ay 1 w_.nd (pv 2))) bN)))
     (au (aE (pv 1))))),?_⟩
 wtm_at "cl";rw[show start LA [x0]=[some x0,none,none]from rfl];obtain⟨xs,hx,h1,bx,q⟩:=h;rcases hx with hx | hx
 . obtain⟨ap,us,rfl,hs,tu⟩:=cf.mp hx
   have hul:us.length=xs.length:=by rw[tu.length,wm]
   o_head ml hx ⋯ () (λv0 i0=>?_);have i0:Is K H v0 (N (mx (xs.getD 0 0) [])):=i0;o_head .inl (zO hs (λi σ H'=>∃o v,σ = [some (.ref ap),some v,o]/\H'=H/\Is K H v (N (mx (xs.getD 0 0) (xs.take i)))) ⟨_,v0,rfl,rfl,by rw[UE];exact i0⟩ (λi σ H' _ h=>by obtain⟨_,_,_,rfl,_⟩:=h;exact hs) ?_ ?_)
   . rintro i x σ H' hx' ⟨o,v,rfl,rfl,iv⟩
     obtain⟨hi,ix⟩:=dB tu hx';have b1:=RJ bx h1 i;have b2:=bx i;k_few
     . rename_i z
       exact⟨_,x,rfl,rfl,by rw[nZ hi,yf,if_pos z];exact ix⟩
     . rename_i z
       exact⟨_,v,rfl,rfl,by rw[nZ hi,yf,if_neg z];exact iv⟩
   . rintro σ H' ⟨o,v,rfl,rfl,iv⟩
     rw[hul,Wv]at iv;k_few;exact q v iv
 . obtain⟨ap,us,rfl,hs,tu⟩:=bQ.mp hx
   have hul:us.length=xs.length:=by rw[tu.length,wm]
   o_head zAF hx ⋯ () (λv0 i0=>?_);have i0:Is K H v0 (N (mx (xs.getD 0 0) [])):=i0;o_head .inr (PD hs (λi σ H'=>∃o v,σ = [some (.ref ap),some v,o]/\H'=H/\Is K H v (N (mx (xs.getD 0 0) (xs.take i)))) ⟨_,v0,rfl,rfl,by rw[UE];exact i0⟩ (λi σ H' _ h=>by obtain⟨_,_,_,rfl,_⟩:=h;exact hs) ?_ ?_)
   . rintro i x σ H' hx' ⟨o,v,rfl,rfl,iv⟩
     obtain⟨hi,ix⟩:=dB tu hx';have b1:=RJ bx h1 i;have b2:=bx i;k_few
     . rename_i z
       exact⟨_,x,rfl,rfl,by rw[nZ hi,yf,if_pos z];exact ix⟩
     . rename_i z
       exact⟨_,v,rfl,rfl,by rw[nZ hi,yf,if_neg z];exact iv⟩
   . rintro σ H' ⟨o,v,rfl,rfl,iv⟩
     rw[hul,Wv]at iv;k_few;exact q v iv
def OZ(K:wb):Sp:=λvs H Q _=>∃x0 x1,vs=[x0,x1] /\ ∃(xs:List Rat)(v:Rat),Is K H x0 (TN xs)/\Is K H x1 (N v)/\xs.length<=900 /\ ∀u H',aj H H'->Is K H' u (TW (fQ xs v))->Q u H'
theorem zqF{v:Rat}{w:V}(h1:Is K H w (TN xs))(h2:Is K H u (N v))(hl:xs.length<=900)(q:∀u H',aj H H'->Is K H' u (TW (fQ xs v))->Q u H'):OZ K [w,u] H Q E:=⟨_,_,rfl,xs,v,h1,h2,hl,q⟩
theorem Zt(T:Txt P K mg a):aJ P w K mg base aR 1 a.Im a.Hf tZ (OZ K):=by
 refine T.HP.F.ok zrj ?_ ?_;wtm_at "b2";refine⟨_,(au (aE (d9 K T.h0O (ae (eC rfl (cW ["worm","own","phase"] [none,none,some 1]) (N3 rfl T.h0y (q1 0)) (λ_ _ _ _ _=>by exact(show PG _ _ (gW K 2 _)from iY (n:=2) rfl (dw (cC 0) (dw (cC 1) gZ)))) (λ_ _ _ _ _=>(lM (eF K hu (pv 1) (pv 2)))) (λ_ _ _ _ _=>(pv 0))) ah)))),?_⟩;wtm_at "cl";rw[show start Dj [x0,x1]=[some x0,some x1]from rfl];obtain⟨xs,v,hx,hv,hl,q⟩:=h;obtain⟨ap,us,rfl,hu',tu⟩:=bQ.mp hx;have hul:us.length=xs.length:=by rw[tu.length,wm]
 o_head zrE hu' (λD i ys σ' H'=>(∃o1 o2,σ'=[o1,o2,some x1])/\H D=none/\aj H H'/\H' D=some (.lst (vz ((wq i).filter λw=>decide (xs.getD w 0=v))))) (λD H' n s e=>⟨⟨_,_,rfl⟩,n,s,e⟩) (λD i ys σ' H' h=>h.2.2.1.kf hu') ?_ ?_
 ·rintro D i x ys σ' H1 c H2 hx' ⟨⟨o1,o2,rfl⟩,n,S1,e1⟩ hc S2 e2
  obtain⟨hi,ix⟩:=dB tu hx';have T2:=S1.trans S2;have ix2:=ix.by T2;have hv2:=hv.by T2;have e12:=S2 _ _ e1
  have hfl:((wq i).filter λw=>decide (xs.getD w 0=v)).length<=i:=by
   have:=Wk (λw=>decide (xs.getD w 0=v)) (wq i);rw[ve]at this;exact this
  refine me (.of e2) rfl ?_;k_few
  ·rename_i z
   refine j3 e12 (by rw[gm];lia) (λH6 E6 e6=>⟨⟨_,_,rfl⟩,n,T2.grow n E6,?_⟩);rw[my (n:=i),decide_eq_true z,if_pos rfl,pJ];exact e6
  ·rename_i z
   refine⟨[],⟨_,_,rfl⟩,n,T2,?_⟩;rw[my (n:=i),decide_eq_false z,if_neg ⋯,vP];exact e12
 ·rintro D ys σ' H1 ⟨_,n,S1,e1⟩
  rw[hul]at e1;o_head p0 (.of e1) (λl H2 n2 S2 e3=>?_);exact q _ H2 (S1.trans S2) (Aj.mpr ⟨l,rfl,.of e3⟩)
def SQ(K:wb):Sp:=λvs H Q _=>∃x0,vs=[x0] /\ ∃(a b:Rat)(xs:List Rat),Is K H x0 (bo a b xs)/\xs.length<=8/\(∀i,af 80000 (xs.getD i 0)) /\ ∀l H' us,H l=none->aj H H'->H' l=some (.lst us)->ao K H' us ((ag xs).map (jR xs))->Q (.ref l) H'
theorem Cr{a:Rat}{v:V}(h:Is K H v (bo a b xs))(h8:xs.length<=8)(bx:∀i,af 80000 (xs.getD i 0))(q:∀l H' us,H l=none->aj H H'->H' l=some (.lst us)->ao K H' us ((ag xs).map (jR xs))->Q (.ref l) H'):SQ K [v] H Q E:=⟨_,rfl,a,b,xs,h,h8,bx,q⟩
theorem zsB(b:∀i,af m (xs.getD i 0))(h:x∈xs):af m x:=by
 obtain⟨j,hj,rfl⟩:=w6 h;have:=b j;rw[wa,wc hj]at this;exact this
theorem zvE{β:Type}(f : α -> β)(l:List α):(!(l.map f).isEmpty) = !l.isEmpty:=by cases l<;>rfl
theorem Bu(T:Txt P K mg a):aJ P w K mg base aR 3 a.Jb a.Ig yi (SQ K):=by
 refine T.sv.F.ok rl ?_ ?_;wtm_at "b1"
 refine⟨_,(ak (ay 1 rl.nd (cR ah))
     (ak (ay 2 rl.nd (ke (show bK _ (.type "list") (p7 K)from EU) rfl T.h0P pk (ae (qi 0) ah)))
     (ak (lF vC (ET (pv 2)) (ak (ay 3 rl.nd (ar (LQ T) hr T.AV (q1 2)))
     (ak (kb (jS Wn Wg Wh jE (pv 1) (ae (aY (ae (pv 3) (ae (ar (Zt T) hr T.HP (ae (qi 0) (q1 3))) ah))) ah)))
     (au (nv (i:=2) rl.nd rfl (Or.inl rfl) rfl (cW ["other","phase"] [none,some 3]) (ji (pv 2)) (λ_ _ _ _ _=>(cC 0)) (λ_ _ _ _ _=>(lM (fR K hu (pv 0) (pv 1)))) (λ_ _ _ _ _=>(pv 0)))))))
     (au (aE (pv 1)))))),?_⟩
 wtm_at "cl";rw[show start Og [x0]=[some x0,none,none,none]from rfl];obtain⟨ra,rb,xs,hw,h8,bx,q⟩:=h;o_head eX ∅ (λlt H1 n1 S1 e1=>?_);o_head aF (j:=1) (hw.by S1) rfl (λvp ip=>?_);o_head CD ip (λll H2 us n2 S2 e2 t2=>?_);have nlt:ll≠lt:=λz=>by subst z;rw[e1]at n2;cases n2
 o_head rq (λm σ' H'=>∃(ll:wg)(left done:List Rat)(us ws:List V)(f:Nat)(o3:Option V),σ'=[some x0,some (.ref lt),some (.ref ll),o3]/\m=left.length/\aj H H'/\ll≠lt/\H' lt=some (.lst ws)/\ao K H' ws (done.map (jR xs))/\H' ll=some (.lst us)/\ao K H' us (left.map N)/\(∀y∈left,y∈xs)/\left.length<=f/\done.length+left.length<=xs.length/\done++jc f left=ag xs) _ ⟨ll,xs,[],us,[],xs.length,_,rfl,rfl,S1.trans S2,nlt,S2 _ _ e1,.nil,e2,t2,λy h=>h,wo _,by simp,rfl⟩ ?_;rintro m σ' H3 ⟨ll,left,done,us,ws,f,o3,rfl,rfl,S3,nl,et,tt',el,tl',sub,hf,hdl,heq⟩;o_head Rm (dC el tl') ?_;rw[zvE]
 by_cases he:left=[]
 . rw[show(!left.isEmpty)=false by rw[he];rfl]
   refine lQ ?_;rw[he,DE,vP]at heq;rw[heq]at tt';k_few;exact q lt H3 ws n1 S3 et tt'
 . rw [show (!left.isEmpty) = true by cases left with
       | nil=>exact absurd rfl he
       | cons y l=>rfl]
   refine lV ?_;refine oW ?_;have hpos:=VB.mpr he
   have bl:∀i,af 80000 (left.getD i 0):=λi=>by
     rcases wB i left.length with z | z
     . exact zsB bx (sub _ (getD_mem z))
     . rw[wa,wQ z];exact af.zero.mono ⋯
   obtain⟨f',rfl⟩:∃f',f=f'+1:=⟨f-1,by lia⟩;rw[mR he]at heq;have hless:=LY he;have hwl:=tt'.length;rw[wm]at hwl;o_head Mk (.inl (dC el tl')) hpos bl (λvm im=>?_);o_head iC (aG.of et) ?_;o_head aF (j:=1) (hw.by S3) rfl (λvq iq=>?_);o_head zqF iq im () (λv4 H4 S4 i4=>?_);o_head cg (ds:=[N (bG left),TW (fQ xs (bG left))]) ∅ (.cons (im.by S4) (.cons i4 .nil)) (λv5 H5 S5 i5=>?_);k_few;have T5:=S4.trans S5;refine hW (T5 _ _ et) () (λH6 E6 e6=>?_);have K6:=E6.keep (T5 _ _ et);have el6:=E6 _ _ nl (T5 _ _ el);have tl6:ao K H6 us (left.map N):=ao.keep (T5.keep.trans K6) _ _ (fu _) tl'
   have tt6:ao K H6 (ws++[v5]) ((done++[bG left]).map (jR xs)):=by
     rw[vQ];exact(ao.keep (T5.keep.trans K6) _ _ (zvY ..) tt').snoc (i5.kU K6 (OI ..))
   have im6:=(im.by T5).fP K6;have S6:aj H H6:=(S3.trans T5).grow n1 E6;generalize hmx:bG left=mxx at *;o_head rY (.of el6) (λD i ys σ' H'=>(∃o,σ'=[o,some vm])/\H6 D=none/\aj H6 H'/\H' D=some (.lst ys)/\ao K H' ys (((left.take i).filter λy=>!decide (y=mxx)).map N)) (λD H' n s e=>⟨⟨_,rfl⟩,n,s,e,.nil⟩) (λD i ys σ' H' h=>h.2.2.1.seq (.of el6)) ?_ ?_
   . rintro D i x ys σ' H7 hx ⟨⟨o,rfl⟩,n7,S7,e7,t7⟩
     obtain⟨hi,ix⟩:=dB tl6 hx;have ix7:=ix.by S7;have im7:=im6.by S7;have hyl:=t7.length;rw[wm]at hyl;have hfl:=Wk (λy=>!decide (y=mxx)) (left.take i);rw[Wu]at hfl;k_few
     . rename_i z
       refine j3 e7 () (λH8 E8 e8=>⟨⟨_,rfl⟩,n7,S7.grow n7 E8,e8,?_⟩);have K8:=E8.keep e7;rw[nZ hi,Vl,WT,decide_eq_false z,vQ];exact(ao.keep K8 _ _ (fu _) t7).append (.cons (ix7.fP K8) .nil)
     . rename_i z
       refine⟨ys,⟨_,rfl⟩,n7,S7,e7,?_⟩;rw[nZ hi,Vl,WT,decide_eq_true (by first | exact z | exact Vw.mp z)];have:([]:List Rat).filter (λy=>!decide (y=mxx))=[]:=rfl
       simpa using t7
   . rintro D ys σ' H7 ⟨_,n7,S7,e7,t7⟩
     have hul:=tl6.length;rw[wm]at hul;rw[hul,Wv]at t7;k_few;exact⟨(left.filter λy=>!decide (y=mxx)).length,by lia,D,_,done++[mxx],ys,ws++[v5],f',_,rfl,rfl,S6.trans S7,(λz=>by subst z;rw[e6]at n7;cases n7),S7 _ _ e6,ao.same S7 _ _ tt6,e7,t7,λy hy=>sub y (vj.mp hy).1,by lia,by rw[wT];simp only[Wi];lia,by rw[V1];exact heq⟩
def RB(K:wb):Sp:=λvs H Q _=>∃x0 x1,vs=[x0,x1] /\ ∃(lw:wg)(left:List Nat)(ps:List Rat),x0=.ref lw/\H lw=some (.lst (vz left))/\Is K H x1 (LN ps)/\(∀w∈left,w<ps.length)/\left.length<=900/\(∀i,af 80000 (ps.getD i 0))/\Rs K H Q (TW (az ps left))
theorem MK{lw:wg}{left:List Nat}{v:V}(e:H lw=some (.lst (vz left)))(h:Is K H v (LN ps))(hw:∀w∈left,w<ps.length)(hl:left.length<=900)(b:∀i,af 80000 (ps.getD i 0))(q:Rs K H Q (TW (az ps left))):RB K [.ref lw,v] H Q E:=⟨_,_,rfl,lw,left,ps,rfl,e,h,hw,hl,b,q⟩
theorem Zf(ps:List Rat)(l:List Nat):(az ps l).length<=l.length:=Wk _ _
theorem Mn(T:Txt P K mg a):aJ P w K mg base aR 2 a.Hy a.GO yg (RB K):=by
 refine T.AN.F.ok znK ?_ ?_;wtm_at "b2";refine⟨_,(au (aE (d9 K T.h0O (ae (eC rfl (cW ["worm","phases"] [none,some 1]) (ji (pv 0)) (λ_ _ _ _ _=>(cC 0)) (λ_ _ _ _ _=>(lM (dZ (di (ar (gL (K:=K) (mg:=mg) (a:=a) T) hr T.fT (ae (cT (show fA _ (cJ K)from cE) (pv 1) (pv 0) (λ_ _=>rfl)) (ae (br (v:=.ref a.dP) rfl T.eQ rfl) ah))))))) (λ_ _ _ _ _=>(pv 0))) ah)))),?_⟩;wtm_at "cl";rw[show start BF [x0,x1]=[some x0,some x1]from rfl];obtain⟨lw,left,ps,rfl,e1,hx,hw,hl,bp,q⟩:=h;o_head rY (.of e1) (λD i ys σ' H'=>(∃o,σ'=[o,some x1])/\H D=none/\aj H H'/\H' D=some (.lst (vz (az ps (left.take i))))) (λD H' n s e=>⟨⟨_,rfl⟩,n,s,e⟩) (λD i ys σ' H' h=>h.2.2.1.seq (.of e1)) ?_ ?_
 ·rintro D i x ys σ' H1 hx' ⟨⟨o,rfl⟩,n,S1,e2⟩
  obtain⟨hi,rfl⟩:=pO hx';have hx1:=hx.by S1;have hlt:=hw _ (vY hi);have bw:=bp left[i];have hle:=Zf ps (left.take i);have htl:(left.take i).length<=900:=by rw[Wu];lia
  o_head ml hx1 () () (λv iv=>?_);rw[wY]at iv;generalize hww:left[i]=ww at *;k_few
  ·rename_i z
   refine j3 e2 (by rw[gm];lia) (λH6 E6 e6=>⟨⟨_,rfl⟩,n,S1.grow n E6,?_⟩);rw[nA hi,hww,zw9 z,pJ];exact e6
  ·rename_i z
   refine⟨[],⟨_,rfl⟩,n,S1,?_⟩;rw[nA hi,hww,zwf (by first | exact z | exact Vw.mp z)];exact e2
 ·rintro D ys σ' H1 ⟨_,n,S1,e2⟩
  rw[gm,Wv]at e2;o_head p0 (.of e2) (λl H2 n2 S2 e3=>?_);exact q _ H2 (S1.trans S2) (Aj.mpr ⟨l,rfl,.of e3⟩)
def TF(K:wb):Sp:=λvs H Q _=>∃x0,vs=[x0] /\ ∃(a b:Rat)(xs:List Rat)(m:Nat),Is K H x0 (bo a b xs)/\af 10 a/\af 10 b/\1<=xs.length/\xs.length<=8/\Cm m xs/\m+2+21*xs.length<=79000/\Rs K H Q (GD a b xs)
theorem DH{a:Rat}{v:V}(h:Is K H v (bo a b xs))(ba:af 10 a)(bb:af 10 b)(h1:1<=xs.length)(h8:xs.length<=8)(c:Cm m xs)(hm:m+2+21*xs.length<=79000)(q:Rs K H Q (GD a b xs)):TF K [v] H Q E:=⟨_,rfl,a,b,xs,m,h,ba,bb,h1,h8,c,hm,q⟩
structure ZM(K:wb)(a b:Rat)(xs:List Rat)(m:Nat)(H H':Hp)(vw:V)(lp lv ll:wg)(left:List Nat)(ps:List Rat)(done:List (List Nat))(f:Nat)(pv wv:List V)(vwave:V):Prop where
 same:aj H H'
 hp:H lp=none
 hv:H lv=none
 iw:Is K H' vw (N (1-bG xs))
 m_:lp≠lv
 Eo:ll≠lp
 Ax:ll≠lv
 ep:H' lp=some (.lst pv)
 tp:ao K H' pv (ps.map N)
 el:H' ll=some (.lst (vz left))
 ev:H' lv=some (.lst wv)
 tv:ao K H' wv (done.map TW)
 iv:Is K H' vwave (TW (az ps left))
 nd:left.Nodup
 lt:∀w∈left,w<xs.length
 len:ps.length=xs.length
 fl:left.length<=f
 dl:done.length+left.length<=xs.length
 cm:Cm (m+2+21*(xs.length-left.length)) ps
 w1:done++(b_ a b f ps left).1=bS a b xs
 w2:(b_ a b f ps left).2=(dD a b xs).2
def JP(K:wb)(a b:Rat)(xs:List Rat)(m:Nat)(H:Hp)(x0 vw:V)(lp lv:wg)(k:Nat)(σ':L2.St)(H':Hp):Prop:=∃(ll:wg)(left:List Nat)(ps:List Rat)(done:List (List Nat))(f:Nat)(pv wv:List V)(vwave:V)(o6 o7:Option V),σ'=[some x0,some vw,some (.ref lp),some (.ref ll),some (.ref lv),some vwave,o6,o7,none]/\k=left.length/\ZM K a b xs m H H' vw lp lv ll left ps done f pv wv vwave
theorem pe{o:HO}(h:H p=none)(k:H q=some o):p≠q:=λe=>by rw[e,k]at h;cases h
theorem zvK{β γ:Type}(f : α -> β)(g : β -> γ)(l:List α):(!((l.map f).map g).isEmpty) = !l.isEmpty:=by cases l<;>rfl
theorem zxa{l:List α}(h:l≠[]):(!l.isEmpty)=true:=by cases l with
 | nil=>exact absurd rfl h
 | cons x l=>rfl
theorem Fh(T:Txt P K mg a):aJ P w K mg base aR 4 a.mH a.IQ zt (TF K):=by
 refine T.sN.F.ok iU ?_ ?_;wtm_at "b1"
 refine⟨_,(ak (ay 1 iU.nd (ar (AI T) hr T.oz (ae (br (v:=.ref a.dP) rfl T.eQ rfl) (ae (ar (LQ T) hr T.AV (ae (qi 0) ah)) ah))))
     (ak (nv (i:=2) iU.nd rfl (Or.inl rfl) rfl (cW ["phase","wait"] [none,some 1]) (jD (qi 0)) (λ_ _ _ _ _=>(cC 0)) (λ_ _ _ _ _=>eI) (λ_ _ _ _ _=>(ar (gB (K:=K) (mg:=mg) (a:=a) T) hr T.fU (q2 0 1))))
     (ak (ay 3 iU.nd (zp4 rfl rfl T.h0P rfl T.h0L (ae (ee K T.h0S (q1 2)) ah)))
     (ak (ay 4 iU.nd (cR ah))
     (ak (ay 5 iU.nd (ar (Mn T) hr T.AN (q2 3 2)))
     (ak (lF vC (ET (pv 5)) (ak (kb (jS Wn Wg Wh jE (pv 4) (q1 5)))
     (ak (ay 3 iU.nd (eC rfl (cW ["worm","wave"] [none,some 5]) (ji (pv 3)) (λ_ _ _ _ _=>(cC 0)) (λ_ _ _ _ _=>(lM (d8 (show bL _ (vU .NotIn) (kz K true)from zvF) (pv 0) (pv 1) (by with_unfolding_all rfl)))) (λ_ _ _ _ _=>(pv 0))))
     (ak (ay 6 iU.nd (ar (yB T) hr T.oy (ae (qi 0) (ae (ee K T.h0S (q1 5)) ah))))
     (ak (fE vC rfl (ji (pv 3)) (dh (i:=7) iU.nd rfl (Or.inl rfl)) (au (nC (ar (Sn T) hr T.AO (ae (pv 6) (ae (cT cE (pv 2) (pv 7) (λ_ _=>rfl)) ah))) (tX (pv 2) (pv 7) tm))))
     (au (ay 5 iU.nd (ar (Mn T) hr T.AN (q2 3 2)))))))))
     (ak (nv (i:=8) iU.nd rfl (Or.inl rfl) rfl (cW ["worm","phase","left"] [none,none,some 3]) (Zh rfl T.h0y (q1 2)) (λ_ _ _ _ _=>by exact(show PG _ _ (gW K 2 _)from iY (n:=2) rfl (dw (cC 0) (dw (cC 1) gZ)))) (λ_ _ _ _ _=>eI) (λ_ _ _ _ _=>(zH (d8 (show bL _ (vU .In) (kz K false)from zBU) (pv 0) (pv 2) (by with_unfolding_all rfl)) (pv 1) (br (v:=.ref a.cV) rfl T.dN rfl))))
     (au (aE (aY (ae (pv 1) (ae (d9 K T.h0O (q1 4)) (ae (aY (ae (qi 0) (ae (d9 K T.h0O (q1 8)) ah))) ah))))))))))))),?_⟩
 wtm_at "cl";rw[show start Mo [x0]=[some x0,none,none,none,none,none,none,none,none]from rfl];obtain⟨ra,rb,xs,m,hw,ba,bb,h1,h8,cm,hm,q⟩:=h;have bx:∀i,af 80000 (xs.getD i 0):=λi=>(cm.get i).mono ()
 have bm:af 79000 (bG xs):=(cm.f_ (gH h1)).mono ();o_head aF (j:=1) hw rfl (λvp ip=>?_);o_head Mk (.inr ip) h1 bx (λvm im=>?_);k_few;rename_i vw H1 S1 iw;refine aF (j:=1) (hw.by S1) rfl (λvp1 ip1=>?_);obtain⟨ap,us,rfl,hu,tu⟩:=bQ.mp ip1;refine jC (o0:=none) (tl:=[some vw]) hu rfl (λj y H'=>Is K H' y (N ((aZ xs).getD j 0))) ?_ ?_
 . intro D i x ys o H2 hx inv
   obtain⟨hi,ix⟩:=dB tu hx;have S2:=inv.same;have ix2:=ix.by S2;have iw2:=iw.by S2;have bi:=bx i;have bw:af 79040 (1-bG xs):=(af.one.sub bm).mono ⋯;k_few;rename_i v3 H3 S3 i3;exact eU inv () gM ⟨_,rfl⟩ S3 (by rw[zvP hi];exact i3)
 . intro lp ys H2 hnp S2 hD hl hr
   have hl':ys.length=(aZ xs).length:=by rw[hl,tu.length,wm,eS]
   have tp:ao K H2 ys ((aZ xs).map N):=gI hl' hr;have iw2:=iw.by S2;have T2:=S1.trans S2;have hpH:H lp=none:=lP S1 hnp;clear hl hr hu tu ip1 ip im iw S1 S2 hnp;o_head zxh (dC hD tp) ?_;rw[eS];o_head zwe (n:=xs.length) () (λll H3 n3 S3 e3=>?_);o_head eX ∅ (λlv H4 n4 S4 e4=>?_);k_few;have hD4:=S4 _ _ (S3 _ _ hD);have tp4:ao K H4 ys ((aZ xs).map N):=ao.same (S3.trans S4) _ _ tp;have kY:Cm (m+2) (aZ xs):=(Cm.rise (h:=0) (cm.lA (ys:=0::xs) λy hy=>by rcases wK.mp hy with rfl | hy;(exact .inr rfl);exact .inl hy) (gH h1)).lA λy hy=>.inl (wA _ hy)
   have b3:∀i,af 80000 ((aZ xs).getD i 0):=λi=>(kY.get i).mono ()
   refine MK (S4 _ _ e3) (dC hD4 tp4) (λw hw'=>by rw[eS];exact wF.mp hw') (by rw[ve];lia) b3 (λvwave H5 S5 i5=>?_);have T5:=T2.trans (S3.trans (S4.trans S5));have hvH:H lv=none:=lP (T2.trans S3) n4;have m_:lp≠lv:=(pe n4 (S3 _ _ hD)).symm;have Eo:ll≠lp:=pe n3 hD;have Ax:ll≠lv:=(pe n4 e3).symm
   have G0:JP K ra rb xs m H x0 vw lp lv xs.length [some x0,some vw,some (.ref lp),some (.ref ll),some (.ref lv),some vwave,none,none,none] H5:=by
     refine⟨ll,wq xs.length,aZ xs,[],xs.length,ys,[],vwave,none,none,rfl,by rw[ve],T5,hpH,hvH,iw2.by (S3.trans (S4.trans S5)),m_,Eo,Ax,S5 _ _ hD4,ao.same S5 _ _ tp4,S5 _ _ (S4 _ _ e3),S5 _ _ e4,.nil,i5,WU,λw hw'=>wF.mp hw',eS xs,by rw[ve];exact wo _,by rw[ve];simp,kY.mono (),?_,rfl⟩;rw[Qf];rfl
   clear T5 S5 S4 S3 T2 hD hD4 tp tp4 b3 kY n3 n4 e3 e4 iw2 i5 hl';o_head rq (JP K ra rb xs m H x0 vw lp lv) _ G0 ?_;clear G0 m_ Eo Ax;rintro k σ' H6 ⟨ll,left,ps,done,f,pv,wv,vwave,o6,o7,rfl,hk,G⟩;have bp:∀i,af 80000 (ps.getD i 0):=λi=>(G.cm.get i).mono (by have:=G.dl;lia)
   o_head zzR (show Is K H6 vwave (.tuple (((az ps left).map λ(w:Nat)=>(w:Int)).map PyData.int))from G.iv) ?_;rw[zvK]
   by_cases he:az ps left=[]
   . rw[show(!(az ps left).isEmpty)=false by rw[he];rfl]
     refine lQ ?_;have w1:=G.w1;have w2:=G.w2;rw[lI he]at w1 w2;rw[vP]at w1;have eps:ps=(dD ra rb xs).2.2:=congrArg uP w2;have elf:left=(dD ra rb xs).2.1:=congrArg uO w2;have hph:fH left ps=cz ra rb xs:=by rw[cz,<- eps,<- elf]
     o_head zwR (.of G.ep) (o0:=none) (o0':=none) (tl:=[some (.ref ll)]) rfl (λj y H'=>Is K H' y (N ((fH left ps).getD j 0))) gM ?_ ?_
     . intro D i x zs o1 o2 H7 c hx inv hc
       obtain⟨hi,ix⟩:=dB G.tp hx;have S7:=inv.2.2.1;refine me (.of hc) rfl ?_;o_head zzs (aG.of (S7 _ _ G.el)) ?_;k_few
       . rename_i z
         exact tR inv (by have:=G.len;lia) gM ⟨_,_,rfl⟩ (aj.refl _) (by rw[kM hi,if_pos z];exact ix.by S7)
       . rename_i z
         exact tR inv (by have:=G.len;lia) gM ⟨_,_,rfl⟩ (aj.refl _) (by rw[kM hi,if_neg z];exact dU 0 (T.eJ _) rfl rfl)
     . intro D zs H7 hn S7 hD hl hr
       have hpl:=G.tp.length;rw[wm]at hpl;have tz:ao K H7 zs ((fH left ps).map N):=gI (by rw[hl,B0,hpl]) hr;rw[hph]at tz;have tv:=ao.same S7 _ _ G.tv;have ev:=S7 _ _ G.ev;have iw7:=G.iw.by S7;have T7:=G.same.trans S7;rw[w1]at tv;o_head gx (cf.mpr ⟨lv,wv,rfl,.of ev,tv⟩) (λv8 H8 S8 i8=>?_);o_head aF (j:=0) (hw.by (T7.trans S8)) rfl (λv9 i9=>?_);o_head gx (dC (S8 _ _ hD) (ao.same S8 _ _ tz)) (λv10 H10 S10 i10=>?_);o_head cg (ds:=[R ra rb,TN (cz ra rb xs)]) ∅ (.cons (i9.by S10) (.cons i10 .nil)) (λv11 H11 S11 i11=>?_);o_head cg (ds:=[N (1-bG xs),kJ (bS ra rb xs),bo ra rb (cz ra rb xs)]) ∅ (.cons (iw7.by (S8.trans (S10.trans S11))) (.cons (i8.by (S10.trans S11)) (.cons i11 .nil))) (λv12 H12 S12 i12=>?_);exact q v12 H12 (T7.trans (S8.trans (S10.trans (S11.trans S12)))) i12
   . rw[zxa he]
     refine lV ?_;refine oW ?_;have hwl:=G.tv.length;rw[wm]at hwl;have hdl:=G.dl;have hlen:=As ps left;have hpos:0<(az ps left).length:=VB.mpr he;o_head iC (aG.of G.ev) ?_;o_head hW G.ev () (λH7 E7 e7=>?_);have K7:aV H6 H7:=E7.keep G.ev;have S7:aj H H7:=G.same.grow G.hv E7;have el7:=E7 _ _ G.Ax G.el;have ep7:=E7 _ _ G.m_ G.ep;have tp7:=ao.keep K7 _ _ (fu _) G.tp;have iv7:=G.iv.kU K7 (sR _);have iw7:=G.iw.fP K7
     have tv7:ao K H7 (wv++[vwave]) ((done++[az ps left]).map TW):=by
       rw[vQ];exact(ao.keep K7 _ _ (zev _) G.tv).snoc iv7
     obtain⟨aw,rfl,hsw⟩:=Aj.mp iv7;o_head rY (.of el7) (λD i ys σ' H'=>(∃o,σ'=[o,some (.ref aw)])/\H7 D=none/\aj H7 H'/\H' D=some (.lst (vz (aW (left.take i) (az ps left))))) (λD H' n s e=>⟨⟨_,rfl⟩,n,s,e⟩) (λD i ys σ' H' h=>h.2.2.1.seq (.of el7)) ?_ ?_
     . rintro D i x ys σ' H8 hx' ⟨⟨o,rfl⟩,n,S8,e8⟩
       obtain⟨hi,rfl⟩:=pO hx';have hle:(aW (left.take i) (az ps left)).length<=(left.take i).length:=Wk _ _;rw[Wu]at hle;o_head zsw (S8.kf hsw) ?_;generalize hww:left[i]=ww at *;k_few
       . rename_i z
         refine j3 e8 (by rw[gm];lia) (λH9 E9 e9=>⟨⟨_,rfl⟩,n,S8.grow n E9,?_⟩);rw[nA hi,hww,zvt z,pJ];exact e9
       . rename_i z
         refine⟨[],⟨_,rfl⟩,n,S8,?_⟩;rw[nA hi,hww,Zb (by first | exact z | exact Vw.mp z)];exact e8
     . rintro D ys σ' H8 ⟨_,n8,S8,e8⟩
       rw[gm,Wv]at e8;have nD1:D≠lp:=pe n8 ep7;have nD2:D≠lv:=pe n8 e7;have T8:=S7.trans S8;have iv8:=iv7.by S8;o_head aF (j:=0) (hw.by T8) rfl (λvr ir=>?_);o_head N5 iv8 ?_;o_head DY ir ba bb () () (λvpush H9 S9 ipush=>?_);rw[wY]at ipush;have bf:af 700 (ra^(az ps left).length):=(ba.pow _).mono ();have bg:af 30000 (aC ra rb (az ps left).length):=(ba.aC bb _).mono ();have T9:=S8.trans S9;have ep9:=T9 _ _ ep7;have tp9:ao K H9 pv (ps.map N):=ao.same T9 _ _ tp7;have e9:=S9 _ _ e8;have ev9:=T9 _ _ e7;have ndl:=m8 (wave:=az ps left) G.nd;have ltl:=nJ (wave:=az ps left) G.lt;generalize hL:aW left (az ps left)=left' at *;o_head zO (.of e9) (λi σ'' H''=>∃o pv',σ''=[some x0,some vw,some (.ref lp),some (.ref D),some (.ref lv),some (.ref aw),some vpush,o,none]/\Exc lp H9 H''/\H'' lp=some (.lst pv')/\ao K H'' pv' ((cc (ra^(az ps left).length) (aC ra rb (az ps left).length) ps (left'.take i)).map N)) ⟨_,pv,rfl,Exc.refl _ _,ep9,tp9⟩ (λi σ'' H'' _ ⟨_,_,_,e,_⟩=>.of (e _ _ nD1 e9)) ?_ ?_
       . rintro i x σ'' H10 hx' ⟨o,pv',rfl,E10,e10,t10⟩
         obtain⟨hi,rfl⟩:=pO hx';have K10:aV H9 H10:=E10.keep ep9;have hlt:=ltl _ (vY hi);have hpl:=gX (ra^(az ps left).length) (aC ra rb (az ps left).length) (left'.take i) ps;have hps:=G.len
         have bq:af 80000 ((cc (ra^(az ps left).length) (aC ra rb (az ps left).length) ps (left'.take i)).getD left'[i] 0):=by
           have nt:(left'.take i).Nodup:=ndl.sublist (ug ..);rw[iW _ _ _ _ nt (λw hw'=>by rw[hps];exact ltl w (uV _ _ hw'))];rw[if_neg]
           . exact bp _
           . intro hm
             obtain⟨j,hj,ej⟩:=w6 hm;rw[Wu]at hj;rw[uk]at ej;exact absurd ej ((Wq.mp ndl) j i () hi ())
         have ip10:=ipush.kU K10 (Dv _ _);generalize hww:left'[i]=ww at *;generalize hqs:cc (ra^(az ps left).length) (aC ra rb (az ps left).length) ps (left'.take i)=qs at *;o_head ml (dC e10 t10) () () (λv11 i11=>?_);rw[wY]at i11;o_head Ry ip10 i11 bf bg (bq.mono ⋯) (λv12 H12 S12 i12=>?_);have e12:=S12 _ _ e10;have hvl:=t10.length;rw[wm]at hvl;o_head CL (j:=ww) e12 (by unfold ja;rw[if_pos (),if_pos ()];simp) (λH13 E13 e13=>?_);refine⟨_,_,rfl,E10.trans (S12.exc.trans E13),e13,?_⟩;have K13:=E13.keep e12;rw[nA hi,hww,zrF,hqs];refine gI (by rw[VP,VP];exact hvl) (λj v hj=>?_);rw[V0]at hj
         by_cases hjw:ww=j
         . subst hjw
           rw[if_pos rfl,if_pos ()]at hj;cases hj;rw[LP ()];exact i12.fP K13
         . rw[if_neg hjw]at hj
           rw[RK hjw];obtain⟨_,ij⟩:=dB t10 hj;exact(ij.by S12).fP K13
       . rintro σ'' H10 ⟨o,pv',rfl,E10,e10,t10⟩
         rw[gm,Wv]at t10;have K10:aV H9 H10:=E10.keep ep9;have hps:=G.len
         have cm10:Cm (m+2+21*(xs.length-left'.length)) (cc (ra^(az ps left).length) (aC ra rb (az ps left).length) ps left'):=by
           have c0:Cm (m+2+21*(xs.length-left.length)) (0::ps):=G.cm.lA λy hy=>by rcases wK.mp hy with rfl | hy;(exact .inr rfl);exact .inl hy
           exact((c0.wave ba bb (az ps left).length ndl (λw hw'=>by rw[hps];exact ltl w hw')).lA λy hy=>.inl (wA _ hy)).mono ()
         have hpl:=gX (ra^(az ps left).length) (aC ra rb (az ps left).length) left' ps;have w1:=G.w1;have w2:=G.w2;have hfl:=G.fl;obtain⟨f',rfl⟩:∃f',f=f'+1:=⟨f-1,by lia⟩;rw[iO he,hL]at w1 w2;generalize hqs:cc (ra^(az ps left).length) (aC ra rb (az ps left).length) ps left'=qs at *;k_few;have e10':=E10 _ _ nD1 e9;refine MK e10' (dC e10 t10) (λw hw'=>by rw[hpl,hps];exact ltl w hw') () (λi=>(cm10.get i).mono ()) (λvwave2 H11 S11 i11=>?_);k_few;have KA:=T9.keep.trans K10;refine⟨left'.length,by lia,D,left',qs,done++[az ps left],f',pv',wv++[V.ref aw],vwave2,_,_,rfl,rfl,?_⟩;exact⟨((S7.trans T9).grow G.hp E10).trans S11,G.hp,G.hv,(iw7.fP KA).by S11,G.m_,nD1,nD2,S11 _ _ e10,ao.same S11 _ _ t10,S11 _ _ e10',S11 _ _ (E10 _ _ G.m_.symm ev9),ao.same S11 _ _ (ao.keep KA _ _ (zev _) tv7),i11,ndl,ltl,by rw[hpl];exact hps,by lia,by rw[wT];simp;lia,cm10,by rw[V1];exact w1,w2⟩
def RF(K:wb):Sp:=λvs H Q _=>∃x0 x1,vs=[x0,x1] /\ ∃(a b:Rat)(xs:List Rat)(n:Int),x1=.int n/\Is K H x0 (bo a b xs)/\af 10 a/\af 10 b/\1<=xs.length/\xs.length<=8/\0<=n/\n<=40/\(∀i,i<=n.toNat->Cm 74000 (aT a b xs i::ai a b xs i)) /\ ∀l H',H l=none->aj H H'->Is K H' (.ref l) (.list (hV a b xs n.toNat))->Q (.ref l) H'
theorem zqo{a:Rat}{n:Int}{v:V}(h:Is K H v (bo a b xs))(ba:af 10 a)(bb:af 10 b)(h1:1<=xs.length)(h8:xs.length<=8)(n0:0<=n)(n1:n<=40)(c:∀i,i<=n.toNat->Cm 74000 (aT a b xs i::ai a b xs i))(q:∀l H',H l=none->aj H H'->Is K H' (.ref l) (.list (hV a b xs n.toNat))->Q (.ref l) H'):RF K [v,.int n] H Q E:=⟨_,_,rfl,a,b,xs,n,rfl,h,ba,bb,h1,h8,n0,n1,c,q⟩
theorem ZL(T:Txt P K mg a):aJ P w K mg base aR 5 a.I_ a.Hz Ar (RF K):=by
 refine T.Ia.F.ok lh ?_ ?_;wtm_at "b2"
 refine⟨_,(ak (ay 2 lh.nd (cR ah))
     (ak (ay 3 lh.nd (br (v:=.ref a.cV) rfl T.dN rfl))
     (ak (ay 4 lh.nd (pv 0))
     (ak (fE vC rfl (je rfl T.h0L (q1 1)) (dh (i:=5) lh.nd rfl (Or.inl rfl)) (ak (ay 6 lh.nd (ar (Fh T) hr T.sN (q1 4)))
     (ak (ay 3 lh.nd (ar (gB T) hr T.fU (ae (pv 3) (ae (qi 6) ah))))
     (ak (ay 4 lh.nd (qi 6))
     (au (kb (jS Wn Wg Wh jE (pv 2) (ae (aY (ae (pv 3) (ae (qi 6) (ae (qi 4) ah)))) ah))))))))
     (au (aE (pv 2))))))),?_⟩
 wtm_at "cl";rw[show start JW [x0,x1]=[some x0,some x1,none,none,none,none,none]from rfl];obtain⟨ra,rb,xs,n,rfl,hw,ba,bb,h1,h8,n0,n1,cm,q⟩:=h;o_head eX ∅ (λlr H1 nr S1 e1=>?_);o_head kI (n:=n) () () (λi σ H'=>∃vh vs o5 o6 us,σ = [some x0,some (.int n),some (.ref lr),some vh,some vs,o5,o6]/\aj H H'/\H' lr=some (.lst us)/\ao K H' us (hV ra rb xs i)/\Is K H' vh (N (aT ra rb xs i))/\Is K H' vs (bo ra rb (ai ra rb xs i))) ⟨_,_,_,_,[],rfl,S1,e1,.nil,dU 0 (T.eJ _) rfl rfl,hw.by S1⟩ ?_ ?_
 . rintro i σ H2 hi ⟨vh,vs,o5,o6,us,rfl,S2,e2,t2,ih,iw⟩
   have hc:=cm i ();have hpl:=a_ ra rb xs i;have bh:af 74000 (aT ra rb xs i):=hc.f_ (wD ..);have hc':Cm 74000 (ai ra rb xs i):=hc.lA λy hy=>.inl (wA _ hy)
   have bw:af 74040 (1-bG (ai ra rb xs i)):=(af.one.sub (hc'.f_ (gH ()))).mono ⋯;o_head DH iw ba bb () () hc' (by rw[hpl];lia) (λv3 H3 S3 i3=>?_);o_head aF (j:=0) i3 rfl (λv4 i4=>?_);have ih3:=ih.by S3;k_few;rename_i v5 H5 S5 i5;refine aF (j:=2) (i3.by S5) rfl (λv6 i6=>?_);have T5:=S3.trans S5;o_head iC (aG.of (T5 _ _ e2)) ?_;o_head aF (j:=1) (i3.by S5) rfl (λv7 i7=>?_);o_head aF (j:=1) i6 rfl (λv8 i8=>?_);o_head cg (ds:=[N (aT ra rb xs (i+1)),kJ (bS ra rb (ai ra rb xs i)),TN (ai ra rb xs (i+1))]) ∅ (.cons i5 (.cons i7 (.cons i8 .nil))) (λv9 H9 S9 i9=>?_);k_few;have T9:=T5.trans S9;have e9:=T9 _ _ e2;have hul:=t2.length;rw[zv3]at hul;refine hW e9 () (λH10 E10 e10=>?_);have K10:=E10.keep e9;have i10:=i9.kU K10 (R3 _ _ _)
   have t10:ao K H10 (us++[v9]) (hV ra rb xs (i+1)):=by
     rw[Ej];exact(ao.keep K10 _ _ (zpG ..) (ao.same T9 _ _ t2)).snoc i10
   exact⟨_,_,_,_,_,rfl,(S2.trans T9).grow nr E10,e10,t10,(i5.by S9).fP K10,(i6.by S9).kU K10 (zze _ _ _)⟩
 . rintro σ H2 ⟨vh,vs,o5,o6,us,rfl,S2,e2,t2,ih,iw⟩
   k_few;exact q lr H2 nr S2 (cf.mpr ⟨lr,us,rfl,.of e2,t2⟩)
def BD(a b:Rat)(xs:List Rat)(n:Nat):wG:=.tuple [N (aT a b xs n),bo a b (ai a b xs n)]
def PM(K:wb):Sp:=λvs H Q _=>∃x0 x1,vs=[x0,x1] /\ ∃(a b:Rat)(xs:List Rat)(n:Int),x1=.int n/\Is K H x0 (bo a b xs)/\af 10 a/\af 10 b/\1<=xs.length/\xs.length<=8/\0<=n/\n<=40/\(∀i,i<=n.toNat->Cm 74000 (aT a b xs i::ai a b xs i))/\Rs K H Q (BD a b xs n.toNat)
theorem Nk{a:Rat}{n:Int}{v:V}(h:Is K H v (bo a b xs))(ba:af 10 a)(bb:af 10 b)(h1:1<=xs.length)(h8:xs.length<=8)(n0:0<=n)(n1:n<=40)(c:∀i,i<=n.toNat->Cm 74000 (aT a b xs i::ai a b xs i))(q:Rs K H Q (BD a b xs n.toNat)):PM K [v,.int n] H Q E:=⟨_,_,rfl,a,b,xs,n,rfl,h,ba,bb,h1,h8,n0,n1,c,q⟩
theorem rL{v:V}(h:Is K H v (.list (ds++[d])))(q:∀x,Is K H x d->Q x H):cJ K v (.int (-1)) H Q:=by
 obtain⟨a,xs,rfl,hs,t⟩:=cf.mp h;have hl:=t.length;rw[wT,Wi]at hl;obtain⟨x,e1,hx⟩:=t.get (i:=ds.length) (d:=d) (by rw[vK (wo _),Vt];rfl);exact gJ hs (Bw (by rw[hl];exact e1)) (q x hx)
theorem zvk(T:Txt P K mg a):aJ P w K mg base aR 6 a.behind a.HW AH (PM K):=by
 refine T.Iy.F.ok EA ?_ ?_;wtm_at "b2"
 refine⟨_,(ak (ay 2 EA.nd (ar (ZL T) hr T.Ia (q2 0 1)))
     (ak (bE (dZ (ET (pv 2))) (au (aE (aY (ae (br (v:=.ref a.cV) rfl T.dN rfl) (q1 0))))) bN)
     (ak (ay 3 EA.nd (cT cE (pv 2) (jA jw av) (λ_ _=>rfl)))
     (au (aE (aY (ae (qi 3) (ae (aY (ae (qi 0) (ae (qi 3) ah))) ah)))))))),?_⟩
 wtm_at "cl";rw[show start RX [x0,x1]=[some x0,some x1,none,none]from rfl];obtain⟨ra,rb,xs,n,rfl,hw,ba,bb,h1,h8,n0,n1,cm,q⟩:=h;o_head zqo hw ba bb h1 h8 n0 n1 cm (λlr H1 nr S1 i1=>?_);o_head Rm i1 ?_;generalize n.toNat=k at *;cases k with
 | zero =>
   rw[show(!(hV ra rb xs 0).isEmpty)=false from rfl];o_head cg (ds:=[N 0,bo ra rb xs]) ∅ (.cons (dU 0 (T.eJ _) rfl rfl) (.cons (hw.by S1) .nil)) (λv H2 S2 i2=>?_);exact q v H2 (S1.trans S2) i2
 | succ k =>
   rw[Ej]at i1;rw[show(!(hV ra rb xs (k+1)).isEmpty)=true by rw[Ej];simp];o_head rL i1 (λv2 i2=>?_);have i2:Is K H1 v2 (yt (aT ra rb xs (k+1)) (bS ra rb (ai ra rb xs k)) (ai ra rb xs (k+1))):=i2;o_head aF (j:=0) i2 rfl (λv3 i3=>?_);o_head aF (j:=0) (hw.by S1) rfl (λv4 i4=>?_);o_head aF (j:=2) i2 rfl (λv5 i5=>?_);o_head cg (ds:=[R ra rb,TN (ai ra rb xs (k+1))]) ∅ (.cons i4 (.cons i5 .nil)) (λv6 H6 S6 i6=>?_);o_head cg (ds:=[N (aT ra rb xs (k+1)),bo ra rb (ai ra rb xs (k+1))]) ∅ (.cons (i3.by S6) (.cons i6 .nil)) (λv7 H7 S7 i7=>?_);exact q v7 H7 (S1.trans (S6.trans S7)) i7
def Rn(K:wb):Sp:=λvs H Q _=>∃x0,vs=[x0] /\ ∃(a b:Rat)(xs:List Rat),Is K H x0 (bo a b xs)/\Q (.bl (decide (0∈xs))) H
theorem Lp{a:Rat}{v:V}(h:Is K H v (bo a b xs))(q:Q (.bl (decide (0∈xs))) H):Rn K [v] H Q E:=⟨_,rfl,a,b,xs,h,q⟩
theorem M7(T:Txt P K mg a):aJ P w K mg base aR 1 a.IH a.Hx t_ (Rn K):=by
 refine T.AW.F.ok zsu ?_ ?_;wtm_at "b1";refine⟨_,(au (aE (kR (show bL _ (vU .In) (Cb K)from zCQ hu) (br (v:=.ref a.cV) rfl T.dN rfl) (qi 0) (by with_unfolding_all rfl)))),?_⟩;wtm_at "cl";rw[show start Ex [x0]=[some x0]from rfl];obtain⟨ra,rb,xs,hw,q⟩:=h;o_head aF (j:=1) hw rfl (λvp ip=>?_);exact zAi (dU 0 (T.eJ _) rfl rfl) ip q
def bP(xs:List Rat):List Rat:=(ag xs).dropLast
def NQ(xs:List Rat):wG:=.tuple [TZ (aX xs),TN (bP xs)]
def Pg(K:wb)(a:Ad):Sp:=λvs H Q E=>∃x0,vs=[x0] /\ ∃(ra rb:Rat)(xs:List Rat),Is K H x0 (bo ra rb xs)/\xs.length<=8/\(∀i,af 80000 (xs.getD i 0))/\(¬ 0∈xs->∀H',aj H H'->E (.ref a.d4) none H')/\(0∈xs->Rs K H Q (NQ xs))
theorem CF{v:V}(h:Is K H v (bo ra rb xs))(h8:xs.length<=8)(bx:∀i,af 80000 (xs.getD i 0))(qe:¬ 0∈xs->∀H',aj H H'->E (.ref a.d4) none H')(q:0∈xs->Rs K H Q (NQ xs)):Pg K a [v] H Q E:=⟨_,rfl,ra,rb,xs,h,h8,bx,qe,q⟩
theorem KR:∀(n:Nat)(l:List Rat),(jc n l).length<=n
 | 0,l=>wo _
 | n+1,[]=>by rw[DE];simp
 | n+1,x::l=>by
  rw[mR ∅,vx];have:=KR n ((x::l).filter λy=>!decide (y=bG (x::l)));lia
theorem B2(T:Txt P K mg a):aJ P w K mg base (eO P w) 4 a.laid a.IX tF (Pg K a):=by
 refine T.sH.F.pY Ap ?_ ?_;wtm_at "b1"
 refine⟨_,(ak (bE (dZ (di (ar (M7 T) hr T.AW (q1 0)))) (au (Nl T.Yz rfl rfl T.Ij JV (ae cv ah))) bN)
     (ak (ay 1 Ap.nd (ar (Bu T) hr T.sv (q1 0)))
     (ak (ay 2 Ap.nd (d9 K T.h0O (ae (eC rfl (cW ["row"] [none]) (ji (pv 1)) (λ_ _ _ _ _=>(cC 0)) (λ_ _ _ _ _=>eI) (λ_ _ _ _ _=>(ee K T.h0S (ae (zM (K:=K) cE (pv 0)) ah)))) ah)))
     (ak (ay 3 Ap.nd (d9 K T.h0O (ae (eC rfl (cW ["row"] [none]) (ji (zB yZ (pv 1) v_ (yM (jA jw av)))) (λ_ _ _ _ _=>(cC 0)) (λ_ _ _ _ _=>eI) (λ_ _ _ _ _=>(zM (K:=K) cE (pv 0)))) ah)))
     (au (aE (aY (q2 2 3)))))))),?_⟩
 wtm_at "cl";rw[show start KS [x0]=[some x0,none,none,none]from rfl];obtain⟨ra,rb,xs,hw,h8,bx,qe,q⟩:=h;have hvl:(ag xs).length<=8:=Wb (KR _ _) h8;o_head Lp hw ?_;k_few
 . rename_i z
   exact⟨by simp;decide,qe z H (aj.refl _)⟩
 . rename_i z
   have z:=(by first | exact z | exact Vw.mp z:0∈xs);refine Cr hw h8 bx (λlr H1 us n1 S1 e1 t1=>?_);have hul:=t1.length;rw[wm]at hul;o_head mM (.of e1) (o0:=none) (tl:=[]) rfl (λj y _=>y=.int ((aX xs).getD j 0)) ?_ ?_
   . intro D j x ys o H2 hx inv
     obtain⟨hj,ix⟩:=rz t1 hx;rw[wm]at hj;rw[wa,wx,wc hj]at ix;have ix2:Is K H2 x (jR xs (ag xs)[j]):=ix.by inv.same;o_head aF (j:=1) ix2 rfl (λv3 i3=>?_);o_head N5 i3 ?_;o_head eU inv () (λ_ _ _ _ _ h=>h) ⟨_,rfl⟩ (aj.refl _) ?_;unfold aX;rw[wa,wx,wc hj]
     rfl
   . intro D ys H2 hn S2 hD hl hr
     have hys:ys=(aX xs).map V.int:=pZ (by rw[hl,hul];unfold aX;rw[wm]) hr;subst hys;o_head p0 (.of hD) (λl3 H3 n3 S3 e3=>?_);have i3:Is K H3 (.ref l3) (TZ (aX xs)):=oU.mpr ⟨l3,rfl,.of e3⟩;have T3:=S2.trans S3;o_head DC (cf.mpr ⟨lr,us,rfl,.of (T3 _ _ e1),ao.same T3 _ _ t1⟩) (λl4 H4 us4 n4 S4 e4 t4=>?_);rw[LW,<- uD]at t4;o_head mM (.of e4) (o0:=none) (tl:=[]) rfl (λj y H'=>Is K H' y (N ((bP xs).getD j 0))) ?_ ?_
     . intro D' j x ys o H5 hx inv
       obtain⟨hj,ix⟩:=rz t4 hx;have hj2:j<(bP xs).length:=by rw[wm]at hj;exact hj
       have hj8:(bP xs).length<=8:=by unfold bP;rw[XE];lia
       rw[wa,wx,wc (show j<(ag xs).dropLast.length from hj2)]at ix;have ix5:Is K H5 x (jR xs (bP xs)[j]):=ix.by inv.same;o_head aF (j:=0) ix5 rfl (λv6 i6=>?_);o_head eU inv () gM ⟨_,rfl⟩ (aj.refl _) ?_;rw[wa,wc hj2];exact i6
     . intro D' zs H5 hn5 S5 hD5 hl5 hr5
       have hu4:=t4.length;rw[wm]at hu4;have tz:ao K H5 zs ((bP xs).map N):=gI (by rw[hl5,hu4];rfl) hr5;o_head gx (dC hD5 tz) (λv6 H6 S6 i6=>?_);o_head cg (ds:=[TZ (aX xs),TN (bP xs)]) ∅ (.cons (i3.by (S4.trans (S5.trans S6))) (.cons i6 .nil)) (λv7 H7 S7 i7=>?_);exact q z v7 H7 (S1.trans (T3.trans (S4.trans (S5.trans (S6.trans S7))))) i7
theorem zyw(h:Cm m xs)(i j:Nat):af (m+2) (xs.getD i 0+(1-xs.getD j 0)):=by
 obtain⟨B,h0,h1,h2⟩:=h
 have key:∀i,∃t:Int,xs.getD i 0=wy t B/\Bd m t:=λi=>by
  rcases wB i xs.length with q | q
  ·rw[wa,wc q]
   exact h2 _ (vY q)
  ·rw[wa,wQ q]
   exact⟨0,by simp,⟨by simp;exact Wt m⟩⟩
 obtain⟨t,et,bt⟩:=key i;obtain⟨z,ez,bz⟩:=key j
 have e2:wy t B+(1-wy z B)=wy (t+B-z) B:=by
  symm
  refine fk () ?_;have q1:=bY t (show B≠0 by lia);have q2:=bY z (show B≠0 by lia);have q3:((t+B-z:Int):Rat)=(t:Rat)+(B:Rat)-(z:Rat):=by push_cast;rfl
  rw[q3,<- q1,<- q2]
  grind
 rw[et,ez,e2];exact af.divInt () (((bt.add h1).sub bz).mono ()) (h1.mono ())
def R1(K:wb):Sp:=λvs H Q _=>∃x0 x1 x2 x3,vs=[x0,x1,x2,x3] /\ ∃(a b:Rat)(n i:Int)(xs:List Rat)(m:Nat),x1=.int n/\x3=.int i/\Is K H x0 (R a b)/\Is K H x2 (LN xs)/\af 10 a/\af 10 b/\0<=n/\n<=64/\0<=i/\i<xs.length/\xs.length<=100/\Cm m xs/\m<=160000 /\
 ∀l H' us,H l=none->aj H H'->H' l=some (.lst us)->ao K H' us ((cX a b n.toNat xs i.toNat).map N)->Q (.ref l) H'
theorem Zd{a:Rat}{n i:Int}{v w:V}(h1:Is K H v (R a b))(h2:Is K H w (LN xs))(b1:af 10 a)(b2:af 10 b)(h0:0<=n)(h64:n<=64)(i0:0<=i)(i1:i<xs.length)(hl:xs.length<=100)(hm:Cm m xs)(hm2:m<=160000)
  (q:∀l H' us,H l=none->aj H H'->H' l=some (.lst us)->ao K H' us ((cX a b n.toNat xs i.toNat).map N)->Q (.ref l) H'):R1 K [v,.int n,w,.int i] H Q E:=⟨_,_,_,_,rfl,a,b,n,i,xs,m,rfl,rfl,h1,h2,b1,b2,h0,h64,i0,i1,hl,hm,hm2,q⟩
theorem zkw(T:Txt P K mg a):aJ P w K mg base aR 4 a.GQ a.Gh Aa (R1 K):=by
 refine T.Gk.F.ok tO ?_ ?_;wtm_at "b4"
 refine⟨_,(ak (ay 4 tO.nd (ar (AI T) hr T.oz (ae (br (v:=.ref a.dP) rfl T.eQ rfl) (ae (cT cE (pv 2) (pv 3) (λ_ _=>rfl)) ah))))
     (ak (ay 5 tO.nd (ar (yB T) hr T.oy (q2 0 1)))
     (ak (nv (i:=6) tO.nd rfl (Or.inl rfl) rfl (cW ["phase","push","wait"] [none,some 5,some 4]) (ji (pv 2)) (λ_ _ _ _ _=>(cC 0)) (λ_ _ _ _ _=>eI) (λ_ _ _ _ _=>(ar (Sn (K:=K) (mg:=mg) (a:=a) T) hr T.AO (ae (pv 1) (ae (ar (gB (K:=K) (mg:=mg) (a:=a) T) hr T.fU (q2 0 2)) ah)))))
     (ak (nC (br (v:=.ref a.cV) rfl T.dN rfl) (tX (pv 6) (pv 3) tm))
     (au (aE (pv 6))))))),?_⟩
 wtm_at "cl";rw[show start TX [x0,x1,x2,x3]=[some x0,some x1,some x2,some x3,none,none,none]from rfl];obtain⟨a',b',n,i,xs,m,rfl,rfl,hr',hx,ba,bb,h0,h64,i0,i1,hl,hm,hm2,q⟩:=h;have bi:af 160000 (xs.getD i.toNat 0):=(hm.get _).mono hm2;have bw:af 160040 (1-xs.getD i.toNat 0):=(af.one.sub bi).mono ⋯;have bf:af 700 (a'^n.toNat):=(ba.pow n.toNat).mono ();have bg:af 30000 (aC a' b' n.toNat):=(ba.aC bb n.toNat).mono ();o_head ml hx i0 i1 (λv1 iv1=>?_);k_few;rename_i v2 H2 S2 iv2;refine DY (hr'.by S2) ba bb h0 h64 (λv3 H3 S3 iv3=>?_);have T3:=S2.trans S3;have iv2':=iv2.by S3;have hx3:=hx.by T3;clear iv1 iv2 S2 S3 hx hr';k_few;obtain⟨lx,vs,rfl,hs,t⟩:=cf.mp hx3;refine mM hs (o0:=none) (tl:=[some v3,some v2]) rfl (λj v H=>Is K H v (N ((xs.map λx=>push a' b' n.toNat (x+(1-xs.getD i.toNat 0))).getD j 0))) ?_ ?_
 . rintro D j x ys o H1 hx' inv
   obtain⟨hj,ix⟩:=dB t hx';have ix1:=ix.by inv.same;have jv2:=iv2'.by inv.same;have jv3:=iv3.by inv.same;have bx:af 160000 (xs.getD j 0):=(hm.get j).mono hm2;k_few;rename_i v4 H4 S4 iv4;refine Ry (jv3.by S4) iv4 bf bg ((zyw hm j i.toNat).mono ()) (λv5 H5 S5 iv5=>?_);exact eU inv () gM ⟨_,rfl⟩ (S4.trans S5) (by rw[Sd hj,gY];exact iv5)
 . rintro D ys H4 hn S4 e4 hl4 hr4
   have hvl:=t.length;rw[wm]at hvl;have hyl:ys.length=xs.length:=by lia
   clear hs t hx3 iv2' iv3;o_head CL (j:=i.toNat) e4 (by unfold ja;rw[if_pos i0,if_pos ()]) (λH5 E5 e5=>?_);k_few;have hD:=lP T3 hn;refine q D H5 _ hD ((T3.trans S4).grow hD E5) e5 (gI (by rw[VP,iV];exact hyl) λj v hv=>?_);rw[V0]at hv
   by_cases hij:i.toNat=j
   . subst hij
     rw[if_pos rfl,if_pos ()]at hv;cases hv;rw[fo _ _ _ _ _ _ (),if_pos rfl];exact dU 0 (T.eJ _) rfl rfl
   . rw[if_neg hij]at hv
     have hj:j<xs.length:=by
       rcases wB j ys.length with z | z
       . lia
       . rw[wQ z]at hv;cases hv
     have hz:=hr4 j v hv;rw[Sd hj]at hz;rw[fo _ _ _ _ _ _ hj,if_neg (WI hij)];exact hz.fP (E5.keep e4)
structure cQ(a b:Rat)(ns:List Int)(xs:List Rat):Prop where
 ba:af 10 a
 bb:af 10 b
 n0:∀n∈ns,0<=n/\n<=64
 len:ns.length=xs.length+1
 b8:ns.length<=50
 cm:∃m,Cm m xs/\m+2*ns.length+21*upTo ns ns.length<=160000
theorem Ms : ∀{k j:Nat},k<=j->j<=ns.length->upTo ns k<=upTo ns j:=by
 intro k j hk
 induction j with
 | zero => intro _; have : k = 0 := by lia
           subst this;exact wo _
 | succ j ih =>
   intro hj;rcases wB k (j+1)with z | z
   . rw[oM ()]
     have:=ih () ();lia
   . have:k=j+1:=by lia
     subst this;exact wo _
theorem cQ.row{a:Rat}(h:cQ a b ns xs){k:Nat}(hk:k<=ns.length):∃m,Cm m (aN a b ns (xs++[0]) k)/\m<=160000:=by
 obtain⟨m,hm,hm2⟩:=h.cm;refine⟨_,(hm.snoc).rows h.ba h.bb k hk,?_⟩;have:=Ms (ns:=ns) hk (wo _);lia
def nO(a b:Rat)(ns:List Int)(xs:List Rat):List (List Rat):=(wq (ns.length+1)).map (aN a b ns (xs++[0]))
theorem rm(a b:Rat)(ns:List Int)(xs:List Rat):(nO a b ns xs).length=ns.length+1:=by simp[nO]
theorem tV{a:Rat}{k:Nat}(h:k<=ns.length):(nO a b ns xs).getD k []=aN a b ns (xs++[0]) k:=by
 unfold nO;rw[wa,wx,Wm ()]
 rfl
def RS(K:wb):Sp:=λvs H Q _=>∃x0 x1 x2,vs=[x0,x1,x2] /\ ∃(a b:Rat)(ns:List Int)(xs:List Rat),Is K H x0 (R a b)/\Is K H x1 (TZ ns)/\Is K H x2 (TN xs)/\cQ a b ns xs /\ ∀l H',aj H H'->Is K H' (.ref l) (LL (nO a b ns xs))->Q (.ref l) H'
theorem CB{a:Rat}{v w:V}(h1:Is K H v (R a b))(h2:Is K H w (TZ ns))(h3:Is K H u (TN xs))(ok:cQ a b ns xs)(q:∀l H',aj H H'->Is K H' (.ref l) (LL (nO a b ns xs))->Q (.ref l) H'):RS K [v,w,u] H Q E:=⟨_,_,_,rfl,a,b,ns,xs,h1,h2,h3,ok,q⟩
theorem C2(T:Txt P K mg a):aJ P w K mg base aR 5 a.sI a.Ib yH (RS K):=by
 refine T.sC.F.ok zh ?_ ?_;wtm_at "b3"
 refine⟨_,(ak (ay 3 zh.nd (cR (ae (aB bZ (ke (show bK _ (.type "list") (p7 K)from EU) rfl T.h0P pk (q1 2)) (cR (ae (br (v:=.ref a.cV) rfl T.dN rfl) ah))) ah)))
     (ak (fE vC rfl (N3 rfl T.h0y (q1 1)) (iY (n:=2) rfl (dw (dh (i:=4) zh.nd rfl (Or.inl rfl)) (dw (dh (i:=5) zh.nd rfl (Or.inl rfl)) gZ))) (au (kb (jS Wn Wg Wh jE (pv 3) (ae (ar (zkw T) hr T.Gk (by exact(@ae _ _ _ _ _ (pv 0) (@ae _ _ _ _ _ (pv 5) (@ae _ _ _ _ _ (cT cE (pv 3) (pv 4) (λ_ _=>rfl)) (@ae _ _ _ _ _ (pv 4) ah dY) iX) dY) dY))) ah)))))
     (au (aE (pv 3))))),?_⟩
 wtm_at "cl";rw[show start Tv [x0,x1,x2]=[some x0,some x1,some x2,none,none,none]from rfl];obtain⟨a',b',ns,xs,hr',hn',hp',ok,q⟩:=h;have hlen:=ok.len;have hfew:=ok.b8;o_head CD hp' (λl1 H1 us hl1 S1 e1 t1=>?_);have hul:=t1.length;rw[wm]at hul;o_head eX ∅ (λl2 H2 hl2 S2 e2=>?_);refine zf (S2 _ _ e1) e2 (qg (kS (by simp;lia))) (λl3 H3 hl3 S3 e3=>?_);o_head eX ∅ (λlt H4 hlt S4 e4=>?_);have T4:aj H H4:=S1.trans (S2.trans (S3.trans S4));have e3':=S4 _ _ e3;have ne43:l3≠lt:=λz=>by subst z;rw[e3]at hlt;cases hlt
 have t3:ao K H4 (us++[V.ref a.cV]) ((xs++[0]).map N):=by
   rw[vQ];exact(ao.same (S2.trans (S3.trans S4)) _ _ t1).append (.cons (dU 0 (T.eJ _) rfl rfl) .nil)
 have hD:=lP (S1.trans (S2.trans S3)) hlt;clear hl1 hl2 hl3 S1 S2 S3 S4 e1 e2 e3 t1 hlt;k_few;obtain⟨an,rfl,hsn⟩:=oU.mp hn'
 refine zwi (T4.kf hsn) (λk σ H'=>∃o1 o2 vs,σ = [some x0,some (.ref an),some x2,some (.ref lt),o1,o2]/\aj H H'/\H' lt=some (.lst vs)/\vs.length=k+1 /\ ∀j v,vs[j]? = some v->∃lj ws,v=.ref lj/\lj≠lt/\H' lj=some (.lst ws)/\ao K H' ws ((aN a' b' ns (xs++[0]) j).map N))
   ⟨_,_,_,rfl,T4,e4,rfl,λj v hv=>?_⟩ (λk σ H' _ ⟨_,_,_,_,s,_⟩=>s.kf hsn) ?_ ?_
 . match j,hv with
   | 0,e=>cases wN e;exact⟨l3,_,rfl,ne43,e3',t3⟩
   | j+1,e=>simp at e
 . rintro k x σ H5 t H6 hx ⟨o1,o2,vs,rfl,S5,e5,hl5,hr5⟩ ht S6 e6
   have hk:k<ns.length:=by
     rcases wB k ns.length with z | z
     . exact z
     . rw[wQ (by simpa using z)]at hx;cases hx
   have hxv:x=.int (ns.getD k 0):=by
     rw[wx,wc hk]at hx;rw[wa,wc hk];exact(wN hx).symm
   subst hxv;have hnk:=ok.n0 (ns.getD k 0) (by rw[wa,wc hk];exact vY hk);refine me (.of e6) rfl ?_;k_few;have e5':=S6 _ _ e5;refine iC (aG.of e5') ?_;k_few;have hkv:∃v,vs[k]? = some v:=⟨vs[k]'(),wc ()⟩;obtain⟨v,hv⟩:=hkv;obtain⟨lk,ws,rfl,nek,ek,tk⟩:=hr5 k v hv;refine gJ (aG.of e5') (mw hv) ?_;k_few;obtain⟨m,hm,hm2⟩:=ok.row (k:=k) ();have hrl:=cS a' b' ns (xs++[0]) k;rw[wT]at hrl;have T6:=S5.trans S6;refine Zd (hr'.by T6) (dC (S6 _ _ ek) (ao.same S6 _ _ tk)) ok.ba ok.bb hnk.1 hnk.2 () (by rw[hrl];simp;lia) (by rw[hrl];simp;lia) hm hm2 (λl7 H7 us7 hl7 S7 e7 t7=>?_);have e5'':=S7 _ _ e5';have ne7:l7≠lt:=λz=>by subst z;rw[e5']at hl7;cases hl7
   o_head hW e5'' () (λH8 E8 e8=>?_);have K8:aV H7 H8:=E8.keep e5'';refine⟨_,_,_,rfl,(T6.trans S7).grow hD E8,e8,by simp[hl5],λj v hv=>?_⟩;rcases wB j vs.length with z | z
   . rw[Wc z]at hv
     obtain⟨lj,wj,rfl,nej,ej,tj⟩:=hr5 j v hv;exact⟨lj,wj,rfl,nej,E8 _ _ nej (S7 _ _ (S6 _ _ ej)),ao.keep (S6.keep.trans (S7.keep.trans K8)) _ _ (fu _) tj⟩
   . have hj:j=vs.length:=by
       rcases wB vs.length j with q | q
       . rw[wQ (by simp;lia)]at hv;cases hv
       . lia
     subst hj;rw[vK (wo _),Vt]at hv;cases wN hv;rw[hl5];refine⟨l7,us7,rfl,ne7,E8 _ _ ne7 e7,ao.keep K8 _ _ (fu _) ?_⟩;rw[aN]
     simpa using t7
 . rintro σ H5 ⟨o1,o2,vs,rfl,S5,e5,hl5,hr5⟩
   o_head q lt H5 S5 (cf.mpr ⟨lt,vs,rfl,.of e5,Sa (by rw[hl5,rm];simp) λj v hv=>?_⟩)
   have hj:j<vs.length:=by
     rcases wB j vs.length with z | z
     . exact z
     . rw[wQ z]at hv;cases hv
   obtain⟨lj,wj,rfl,nej,ej,tj⟩:=hr5 j v hv;rw[tV (by simp at hl5;lia)];exact dC ej tj
def cH(a b:Rat)(ns:List Int)(xs:List Rat):List Rat:=(aN a b ns (xs++[0]) ns.length).dropLast
def Pc(K:wb):Sp:=λvs H Q _=>∃x0 x1 x2,vs=[x0,x1,x2] /\ ∃(a b:Rat)(ns:List Int)(xs:List Rat),Is K H x0 (R a b)/\Is K H x1 (TZ ns)/\Is K H x2 (TN xs)/\cQ a b ns xs/\Rs K H Q (TN (cH a b ns xs))
theorem RU{a:Rat}{v w:V}(h1:Is K H v (R a b))(h2:Is K H w (TZ ns))(h3:Is K H u (TN xs))(ok:cQ a b ns xs)(q:Rs K H Q (TN (cH a b ns xs))):Pc K [v,w,u] H Q E:=⟨_,_,_,rfl,a,b,ns,xs,h1,h2,h3,ok,q⟩
theorem L8(T:Txt P K mg a):aJ P w K mg base aR 6 a.G6 a.Gm zQ (Pc K):=by
 refine T.AL.F.ok zlq ?_ ?_;wtm_at "b3";refine⟨_,(au (aE (d9 K T.h0O (ae (zB yZ (cT cE (ar (C2 T) hr T.sC (q3 0 1 2)) (jA jw av) (λ_ _=>rfl)) v_ (yM (jA jw av))) ah)))),?_⟩;wtm_at "cl";rw[show start Bi [x0,x1,x2]=[some x0,some x1,some x2]from rfl];obtain⟨a',b',ns,xs,hr',hn',hp',ok,q⟩:=h;o_head CB hr' hn' hp' ok (λl H1 S1 i1=>?_);o_head Zq i1 (by rw[rm];lia) (λv2 i2=>?_);rw[rm,Qo,tV (wo _)]at i2;o_head DC i2 (λl3 H3 ys hn3 S3 e3 t3=>?_);rw[LW,<- uD]at t3;o_head gx (dC e3 t3) (λw H4 S4 i4=>?_);exact q w H4 (S1.trans (S3.trans S4)) i4
theorem Jx{a:Rat}(ok:cQ a b ns xs)(c:Cm m xs)(hm:m+2*ns.length+21*upTo ns ns.length<=160000){k:Nat}(hk:k<=ns.length):Cm 160000 (fm a b ns (xs++[0]) k::aN a b ns (xs++[0]) k):=by
 have h1:=Ms (ns:=ns) hk (wo _);exact(c.snoc.Jj ok.ba ok.bb (ns:=ns) k hk).mono ()
def JC(K:wb):Sp:=λvs H Q _=>∃x0 x1 x2,vs=[x0,x1,x2] /\ ∃(a b:Rat)(ns:List Int)(xs:List Rat)(m:Nat),Is K H x0 (R a b)/\Is K H x1 (TZ ns)/\Is K H x2 (TN xs)/\cQ a b ns xs/\Cm m xs/\m+2*ns.length+21*upTo ns ns.length<=160000/\Rs K H Q (N (eY a b ns xs))
theorem znQ{a:Rat}{v w:V}(h1:Is K H v (R a b))(h2:Is K H w (TZ ns))(h3:Is K H u (TN xs))(ok:cQ a b ns xs)(hm:Cm m xs)(hm2:m+2*ns.length+21*upTo ns ns.length<=160000)(q:Rs K H Q (N (eY a b ns xs))):JC K [v,w,u] H Q E:=⟨_,_,_,rfl,a,b,ns,xs,m,h1,h2,h3,ok,hm,hm2,q⟩
theorem znr(T:Txt P K mg a):aJ P w K mg base aR 6 a.HD a.GI zw (JC K):=by
 refine T.G4.F.ok pW ?_ ?_;wtm_at "b3"
 refine⟨_,(ak (ay 3 pW.nd (br (v:=.ref a.cV) rfl T.dN rfl))
     (ak (ay 4 pW.nd (ar (C2 T) hr T.sC (q3 0 1 2)))
     (ak (fE vC rfl (je rfl T.h0L (ae (ee K T.h0S (q1 1)) ah)) (dh (i:=5) pW.nd rfl (Or.inl rfl)) (au (ay 3 pW.nd (ar (gB T) hr T.fU (ae (pv 3) (ae (ar (AI T) hr T.oz (ae (br (v:=.ref a.dP) rfl T.eQ rfl) (ae (cT cE (cT cE (pv 4) (pv 5) (λ_ _=>rfl)) (pv 5) (λ_ _=>rfl)) ah))) ah))))))
     (au (aE (pv 3)))))),?_⟩
 wtm_at "cl";rw[show start TH [x0,x1,x2]=[some x0,some x1,some x2,none,none,none]from rfl];obtain⟨a',b',ns,xs,m,hr',hn',hp',ok,hm,hm2,q⟩:=h;o_head CB hr' hn' hp' ok (λl H1 S1 i1=>?_);o_head Bn (hn'.by S1) ?_;have hlen:=ok.len;have hfew:=ok.b8;refine kI (n:=(ns.length:Int)) () () (λk σ H'=>∃v o,σ = [some x0,some x1,some x2,some v,some (.ref l),o]/\aj H1 H'/\Is K H' v (N (fm a' b' ns (xs++[0]) k))) ⟨_,_,rfl,aj.refl _,dU 0 (T.eJ _) rfl rfl⟩ ?_ ?_
 . rintro k σ H2 hk ⟨v,o,rfl,S2,iv⟩
   have hk':k<ns.length:=by simpa using hk
   have c:=Jx ok hm hm2 (k:=k) ();have b1:af 160000 (fm a' b' ns (xs++[0]) k):=c.f_ (wD ..);have b2:af 160000 ((aN a' b' ns (xs++[0]) k).getD k 0):=(og c λy hy=>wA _ hy).get k;have b4:af 160040 (1-(aN a' b' ns (xs++[0]) k).getD k 0):=(af.one.sub b2).mono ⋯;have i2:=i1.by S2;o_head Ki i2 () (by rw[rm];lia) (λv3 i3=>?_);rw[wY,tV ()]at i3;o_head ml i3 () (by rw[cS,wT];simp;lia) (λv4 i4=>?_);rw[wY]at i4;k_few;exact⟨_,_,rfl,S2.trans (aj.trans (by assumption) (by assumption)),by assumption⟩
 . rintro σ H2 ⟨v,o,rfl,S2,iv⟩
   k_few;exact q _ _ (S1.trans S2) iv
def eK(a b:Rat)(ns:List Int)(xs:List Rat):List Rat:=(wq ns.length).map λk=>(aN a b ns (xs++[0]) (k+1)).getD ((k+1) % ns.length) 0
theorem jo(a b:Rat)(ns:List Int)(xs:List Rat):(eK a b ns xs).length=ns.length:=by simp[eK]
theorem mT{a:Rat}{k:Nat}(h:k<ns.length):(eK a b ns xs).getD k 0=(aN a b ns (xs++[0]) (k+1)).getD ((k+1) % ns.length) 0:=by
 unfold eK;rw[wa,wx,Wm h]
 rfl
def JL(K:wb):Sp:=λvs H Q _=>∃x0 x1 x2,vs=[x0,x1,x2] /\ ∃(a b:Rat)(ns:List Int)(xs:List Rat),Is K H x0 (R a b)/\Is K H x1 (TZ ns)/\Is K H x2 (TN xs)/\cQ a b ns xs/\Rs K H Q (TN (eK a b ns xs))
theorem J8{a:Rat}{v w:V}(h1:Is K H v (R a b))(h2:Is K H w (TZ ns))(h3:Is K H u (TN xs))(ok:cQ a b ns xs)(q:Rs K H Q (TN (eK a b ns xs))):JL K [v,w,u] H Q E:=⟨_,_,_,rfl,a,b,ns,xs,h1,h2,h3,ok,q⟩
theorem Kq(T:Txt P K mg a):aJ P w K mg base aR 6 a.iB a.IK tP (JL K):=by
 refine T.A3.F.ok CI ?_ ?_;wtm_at "b3"
 refine⟨_,(ak (ay 3 CI.nd (ar (C2 T) hr T.sC (q3 0 1 2)))
     (ak (ay 4 CI.nd (ee K T.h0S (q1 1)))
     (au (aE (d9 K T.h0O (ae (eC rfl (cW ["turn","rows","count"] [none,some 3,some 4]) (je rfl T.h0L (q1 4)) (λ_ _ _ _ _=>(cC 0)) (λ_ _ _ _ _=>eI) (λ_ _ _ _ _=>(cT (show fA _ (cJ K)from cE) (cT (show fA _ (cJ K)from cE) (pv 1) (aB bZ (pv 0) av) (λ_ _=>rfl)) (aB gC (aB bZ (pv 0) av) (pv 2)) (λ_ _=>rfl)))) ah)))))),?_⟩
 wtm_at "cl";rw[show start PU [x0,x1,x2]=[some x0,some x1,some x2,none,none]from rfl];obtain⟨a',b',ns,xs,hr',hn',hp',ok,q⟩:=h;have hlen:=ok.len;have hfew:=ok.b8;o_head CB hr' hn' hp' ok (λl H1 S1 i1=>?_);o_head Bn (hn'.by S1) ?_;o_head zAp (n:=(ns.length:Int)) () () (o0:=none) (tl:=[some (.ref l),some (.int (ns.length:Int))]) rfl (λi v H=>Is K H v (N ((eK a' b' ns xs).getD i 0))) ?_ ?_
 . rintro D i ys o H2 hi inv
   have hi':i<ns.length:=by simpa using hi
   have i2:=i1.by inv.same;have hn0:(0:Int)<(ns.length:Int):=by lia
   o_head Ki i2 () (by rw[rm];lia) (λv3 i3=>?_);rw[show((i:Int)+1).toNat=i+1 by lia,tV ()]at i3;k_few;have e:((i:Int)+1) % (ns.length:Int)=(((i+1) % ns.length:Nat):Int):=by push_cast;rfl
   have hm:(i+1) % ns.length<ns.length:=Qw _ ();rw[e];refine ml i3 () (by rw[cS,wT];simp;lia) (λv4 i4=>?_);rw[wY,<- mT hi']at i4;exact eU inv () gM ⟨_,rfl⟩ (aj.refl _) i4
 . rintro D ys H2 hn S2 e2 hl2 hr2
   o_head gx (dC e2 (gI (by rw[hl2,jo];simp) hr2)) (λw H3 S3 i3=>?_);exact q w H3 (S1.trans (S2.trans S3)) i3
theorem yA{bs:List Bool}{zs:List V}(hl:zs.length=bs.length)(h:∀j z,zs[j]? = some z->z=V.bl (bs.getD j true)):zs=bs.map V.bl:=by
 refine WV (by rw[wm];exact hl) λi h1 h2=>?_
 rw[h i _ (wc h1),Vc,wa,wc ()]
 rfl
def dr(xs:List Rat):List Rat:=[1]++xs++[0]
theorem sV(xs:List Rat):(dr xs).length=xs.length+2:=by simp[dr]
def nU(xs:List Rat):List Bool:=(wq (xs.length+1)).map λi=>decide ((dr xs).getD (i+1) 0<(dr xs).getD i 0)
def mj(ts:List Rat):List Bool:=ts.map λx=>decide (x<1)
def dQ(a b:Rat)(ns:List Int)(xs:List Rat):Bool:=(nU xs).all id&&(mj (eK a b ns xs)).all id
theorem zsr(h:i<xs.length+1):(nU xs).getD i true=decide ((dr xs).getD (i+1) 0<(dr xs).getD i 0):=by
 unfold nU;rw[wa,wx,Wm h]
 rfl
theorem Z_{ts:List Rat}(h:i<ts.length):(mj ts).getD i true=decide (ts.getD i 0<1):=by
 unfold mj;rw[wa,wx,wa,wc h]
 rfl
theorem PQ(h:Cm m xs)(i:Nat):af m ((dr xs).getD i 0):=by
 unfold dr;rcases Nat.eq_zero_or_pos i with rfl | hi
 ·exact af.one.mono h.pos
 ·obtain⟨j,rfl⟩:∃j,i=j+1:=⟨i-1,by lia⟩
  exact h.snoc.get j
theorem Ti{a:Rat}(ok:cQ a b ns xs)(hi:i<ns.length):af 160000 ((eK a b ns xs).getD i 0):=by
 rw[mT hi];obtain⟨m,hm,hm2⟩:=ok.row (k:=i+1) ();exact(hm.get _).mono hm2
def Mq(K:wb):Sp:=λvs H Q _=>∃x0 x1 x2,vs=[x0,x1,x2] /\ ∃(a b:Rat)(ns:List Int)(xs:List Rat),Is K H x0 (R a b)/\Is K H x1 (TZ ns)/\Is K H x2 (TN xs)/\cQ a b ns xs/\Rq H Q (.bl (dQ a b ns xs))
theorem Dz{a:Rat}{v w:V}(h1:Is K H v (R a b))(h2:Is K H w (TZ ns))(h3:Is K H u (TN xs))(ok:cQ a b ns xs)(q:Rq H Q (.bl (dQ a b ns xs))):Mq K [v,w,u] H Q E:=⟨_,_,_,rfl,a,b,ns,xs,h1,h2,h3,ok,q⟩
theorem Ci(T:Txt P K mg a):aJ P w K mg base aR 7 a.IT a.Hv yN (Mq K):=by
 refine T.sj.F.ok JN ?_ ?_;wtm_at "b3"
 refine⟨_,(ak (ay 3 JN.nd (aB bZ (aB bZ (cR (ae (br (v:=.ref a.dP) rfl T.eQ rfl) ah)) (ke (show bK _ (.type "list") (p7 K)from EU) rfl T.h0P pk (q1 2))) (cR (ae (br (v:=.ref a.cV) rfl T.dN rfl) ah))))
     (ak (bE (dZ (di (cy (show bK _ (.builtin "all") (ny K)from tM rfl) rfl T.h0U zj (ae (eC rfl (cW ["upper","lower"] [none,none]) (zzT rfl T.h0X (ae (pv 3) (ae (zB yZ (pv 3) (yM av) v_) ah))) (λ_ _ _ _ _=>by exact(show PG _ _ (gW K 2 _)from iY (n:=2) rfl (dw (cC 0) (dw (cC 1) gZ)))) (λ_ _ _ _ _=>eI) (λ_ _ _ _ _=>(ar (gL (K:=K) (mg:=mg) (a:=a) T) hr T.fT (q2 1 0)))) ah)))) (au (aE fB)) bN)
     (au (aE (cy (show bK _ (.builtin "all") (ny K)from tM rfl) rfl T.h0U zj (ae (eC rfl (cW ["top"] [none]) (jD (ar (Kq T) hr T.A3 (q3 0 1 2))) (λ_ _ _ _ _=>(cC 0)) (λ_ _ _ _ _=>eI) (λ_ _ _ _ _=>(ar (gL (K:=K) (mg:=mg) (a:=a) T) hr T.fT (ae (pv 0) (ae (br (v:=.ref a.dP) rfl T.eQ rfl) ah))))) ah)))))),?_⟩
 wtm_at "cl";rw[show start PY [x0,x1,x2]=[some x0,some x1,some x2,none]from rfl];obtain⟨a',b',ns,xs,hr',hn',hp',ok,q⟩:=h;have hlen:=ok.len;have hfew:=ok.b8;obtain⟨m,hcm,hcm2⟩:=ok.cm;o_head eX ∅ (λl0 H1 n1 S1 e1=>?_);o_head CD (hp'.by S1) (λl1 H2 us n2 S2 e2 t2=>?_);have hul:=t2.length;rw[wm]at hul;refine zf (S2 _ _ e1) e2 (qg (kS (by simp;lia))) (λl2 H3 n3 S3 e3=>?_);o_head eX ∅ (λl3 H4 n4 S4 e4=>?_);refine zf (S4 _ _ e3) e4 (qg (kS (by simp;lia))) (λl5 H5 n5 S5 e5=>?_);have T5:aj H H5:=S1.trans (S2.trans (S3.trans (S4.trans S5)))
 have t5:ao K H5 ([V.ref a.dP]++us++[V.ref a.cV]) ((dr xs).map N):=by
   unfold dr;rw[vQ,vQ];exact(ao.append (.cons (dU 1 (T.sO _) rfl rfl) .nil) (ao.same (S3.trans (S4.trans S5)) _ _ t2)).append (.cons (dU 0 (T.eJ _) rfl rfl) .nil)
 have ir5:=hr'.by T5;have in5:=hn'.by T5;have ip5:=hp'.by T5;clear n1 n2 n3 n4 n5 S1 S2 S3 S4 S5 e1 e2 e3 e4 t2 hr' hn' hp';generalize [V.ref a.dP]++us++[V.ref a.cV]=ws at e5 t5;have hws:=t5.length;rw[wm,sV]at hws;o_head DC (dC e5 t5) (λl6 H6 ys n6 S6 e6 t6=>?_);rw[show(1:Int)=((1:Nat):Int)from rfl,ZC _ _ (by rw[wm,sV];lia),<- XG]at t6;have hys:=t6.length;rw[wm,vW,sV]at hys;have e56:=S6 _ _ e5;have t56:=ao.same S6 _ _ t5;have T6:=T5.trans S6;have ir6:=ir5.by S6;have in6:=in5.by S6;have ip6:=ip5.by S6;clear ir5 in5 ip5 T5 S6 e5 t5 n6;o_head Zm (t:=false) (u:=false) (aG.of e56) (aG.of e6) () (o0:=none) (o0':=none) (tl:=[]) rfl (λi v H=>v=V.bl ((nU xs).getD i true)) (λ_ _ _ _ _ h=>h) ?_ ?_
 . rintro D i x y zs o1 o2 H7 c hx hy inv e7
   obtain⟨hi,ix⟩:=dB t56 hx;obtain⟨hj,iy⟩:=dB t6 hy;rw[vW,sV]at hj
   have ed:((dr xs).drop 1).getD i 0=(dr xs).getD (i+1) 0:=by
     rw[wa,xj,wa,Nat.add_comm]
   rw[ed]at iy;have S7:=inv.2.2.1;have b1:af 160000 ((dr xs).getD i 0):=(PQ hcm i).mono ();have b2:af 160000 ((dr xs).getD (i+1) 0):=(PQ hcm (i+1)).mono ();refine Ff (me (.of e7) rfl ?_);have ix7:=ix.by S7;have iy7:=iy.by S7;k_few;exact tR inv () (λ_ _ _ _ _ h=>h) ⟨_,_,rfl⟩ (aj.refl _) (by rw[zsr ()])
 . rintro D zs H7 hn S7 e7 hl7 hr7
   have hz:=yA (bs:=nU xs) (by unfold nU;rw[wm,ve];lia) hr7;rw[hz]at e7;o_head oI (.of e7) ?_;k_few
   . rename_i z
     have ef:dQ a' b' ns xs=false:=by unfold dQ;rw[z];rfl
     rw[<- ef];exact q _ (T6.trans S7)
   . rename_i z
     have ef:dQ a' b' ns xs=(mj (eK a' b' ns xs)).all id:=by unfold dQ;rw[z];rfl
     rw[ef]at q;refine J8 (ir6.by S7) (in6.by S7) (ip6.by S7) ok (λv8 H8 S8 i8=>?_);have T8:=T6.trans (S7.trans S8);obtain⟨a8,us8,rfl,hs8,t8⟩:=bQ.mp i8;have hl8:=t8.length;rw[wm,jo]at hl8;refine jC hs8 (o0:=none) (tl:=[]) rfl (λi v H=>v=V.bl ((mj (eK a' b' ns xs)).getD i true)) ?_ ?_
     . rintro D i x ys' o H9 hx inv
       obtain⟨hi,ix⟩:=dB t8 hx;rw[jo]at hi;have ix9:=ix.by inv.same;have b1:af 160000 ((eK a' b' ns xs).getD i 0):=Ti ok hi;have b2:af 160000 1:=af.one.mono ⋯;k_few;exact eU inv () (λ_ _ _ _ _ h=>h) ⟨_,rfl⟩ (aj.refl _) (by rw[Z_ (by rw[jo];exact hi)])
     . rintro D ys' H9 hn9 S9 e9 hl9 hr9
       have hz':=yA (bs:=mj (eK a' b' ns xs)) (by unfold mj;rw[wm,jo];lia) hr9;rw[hz']at e9;o_head oI (.of e9) ?_;exact q _ (T8.trans S9)
def cK(n:Nat):List Rat:=Q2 n 0
theorem Rl(n i:Nat):(cK n).getD i 0=0:=by
 unfold cK;rw[wa,xQ]
 split<;>rfl
theorem Ao(n:Nat):Cm 1 (cK n):=by
 refine⟨1,by decide,⟨by decide⟩,λx hx=>⟨0,?_,⟨by decide⟩⟩⟩;rw[List.eq_of_mem_replicate hx]
 rfl
def SO(K:wb):Sp:=λvs H Q _=>∃x0 x1,vs=[x0,x1] /\ ∃(a b:Rat)(ns:List Int),Is K H x0 (R a b)/\Is K H x1 (TZ ns)/\cQ a b ns (cK (ns.length-1))/\0<=ns.sum/\ns.sum<=64/\Rs K H Q (.tuple [N (a^ns.sum.toNat),TN (cH a b ns (cK (ns.length-1)))])
theorem rQ{a:Rat}{v w:V}(h1:Is K H v (R a b))(h2:Is K H w (TZ ns))(ok:cQ a b ns (cK (ns.length-1)))(h0:0<=ns.sum)(h64:ns.sum<=64)(q:Rs K H Q (.tuple [N (a^ns.sum.toNat),TN (cH a b ns (cK (ns.length-1)))])):SO K [v,w] H Q E:=⟨_,_,rfl,a,b,ns,h1,h2,ok,h0,h64,q⟩
theorem p9(T:Txt P K mg a):aJ P w K mg base aR 7 a.Ic a.GS yh (SO K):=by
 refine T.mF.F.ok BI ?_ ?_;wtm_at "b2"
 refine⟨_,(ak (ay 2 BI.nd (n_ (ar (yB T) hr T.oy (ae (pv 0) (ae (cy (show bK _ (.builtin "sum") (C7 K)from zvx rfl) rfl T.h0Y zBE (q1 1)) ah)))))
     (ak (ay 3 BI.nd (d9 K T.h0O (ae (eC rfl (cW ["size"] [none]) (jD (zB yZ (pv 1) (yM av) v_)) (λ_ _ _ _ _=>(cC 0)) (λ_ _ _ _ _=>eI) (λ_ _ _ _ _=>(br (v:=.ref a.cV) rfl T.dN rfl))) ah)))
     (au (aE (aY (ae (pv 2) (ae (ar (L8 T) hr T.AL (q3 0 1 3)) ah))))))),?_⟩
 wtm_at "cl";rw[show start NG [x0,x1]=[some x0,some x1,none,none]from rfl];obtain⟨a',b',ns,hr',hn',ok,h0,h64,q⟩:=h;have hlen:=ok.len;have hfew:=ok.b8;o_head zyK hn' ?_;o_head DY hr' ok.ba ok.bb h0 h64 (λv1 H1 S1 i1=>?_);k_few;rename_i v2 i2;have hn1:Is K H1 x1 (.tuple (ns.map PyData.int)):=hn'.by S1;refine zy5 hn1 ?_ (λv3 H3 S3 i3=>?_)
 . rintro ⟨e,_⟩
   have e':min 1 (ns.map PyData.int).length=0:=e;rw[wm]at e';lia
 rw[zvZ]at i3;obtain⟨a3,vs3,rfl,hs3,t3⟩:=bQ.mp i3;have hl3:=t3.length;rw[uU,wm]at hl3;have hzl:(cK (ns.length-1)).length=ns.length-1:=Vh ..;o_head jC hs3 (o0:=none) (tl:=[]) rfl (λi v H=>Is K H v (N ((cK (ns.length-1)).getD i 0))) ?_ ?_
 . rintro D i x ys o H4 hx inv
   have hi:i<vs3.length:=by
     rcases wB i vs3.length with z | z
     . exact z
     . rw[wQ z]at hx;cases hx
   k_few;exact eU inv () gM ⟨_,rfl⟩ (aj.refl _) (by rw[Rl];exact dU 0 (T.eJ _) rfl rfl)
 . rintro D ys H4 hn4 S4 e4 hl4 hr4
   o_head gx (dC (xs:=cK (ns.length-1)) e4 (gI () hr4)) (λv5 H5 S5 i5=>?_);have T5:aj H1 H5:=S3.trans (S4.trans S5);o_head RU ((hr'.by S1).by T5) ((hn'.by S1).by T5) i5 ok (λv6 H6 S6 i6=>?_);k_few;exact cg ∅ (.cons (i2.by (T5.trans S6)) (.cons i6 .nil)) (λv H' S h=>q v H' (S1.trans (T5.trans (S6.trans S))) h)
def dM(a b:Rat)(ns:List Int):List Rat:=(cH a b ns (cK (ns.length-1))).map (λs=>s / (1-a^ns.sum.toNat))
theorem lG{a:Rat}(h:ns.length=xs.length+1):(cH a b ns xs).length=xs.length:=by
 unfold cH;rw[XE,cS];simp
theorem Ck{a:Rat}(h:ns.length=xs.length+1)(hi:i<xs.length):(cH a b ns xs).getD i 0=(aN a b ns (xs++[0]) ns.length).getD i 0:=by
 unfold cH;have hl:(aN a b ns (xs++[0]) ns.length).length=xs.length+1:=by rw[cS];simp
 rw[wa,wa,List.getElem?_dropLast,if_pos ()]
theorem Fz(h:i<xs.length):(xs++[0]).getD i 0=xs.getD i 0:=by
 rw[wa,wa,Wc h]
theorem rG : (xs++[0]).getD xs.length 0=0:=by
 rw[wa,vK (wo _),Vt]
 rfl
theorem Mb:∀{ns:List Int},(∀n∈ns,0<=n)->((ns.map xY).sum:Int)=ns.sum
 | [],_=>rfl
 | n::ns,h=>by
  have h1:=Mb (ns:=ns) λm hm=>h m (wA _ hm)
  have h2:=h n (wD ..);rw[wV,Vx,Vx];lia
theorem J3(h:∀n∈ns,0<=n):upTo ns ns.length=ns.sum.toNat:=by
 have:=Mb h;unfold GM.upTo;rw[Wv];lia
theorem znO{a:Rat}(h:ns.length=xs.length+1)(hn:∀n∈ns,0<=n)(hi:i<xs.length):(cH a b ns xs).getD i 0=a^ns.sum.toNat*xs.getD i 0+(cH a b ns (cK (ns.length-1))).getD i 0:=by
 have hz:(cK (ns.length-1)).length=xs.length:=by unfold cK;rw[Vh];lia
 have hu:=J3 hn;rw[Ck h hi,Ck () ()];have hr:=CQ a b ns (xs++[0]) (cK (ns.length-1)++[0]) (by simp[hz]) (by simp[h]) xs.length ∅ (by rw[rG];rw[<- hz,rG]) ns.length (wo _) i (by simp;lia);rw[if_neg (),show ns.length-1=xs.length by lia]at hr;rw[show ns.length-1=xs.length by lia]at hz ⊢;rw[rG,Fz hi,Fz (),Rl,hu]at hr
 have hl0:(cK xs.length++[0]).getD xs.length 0=0:=by
  have:=rG (xs:=cK xs.length);rw[hz]at this;exact this
 rw[hl0]at hr
 grind
theorem Oc{a:Rat}(h:1<=ns.length):(dM a b ns).length=ns.length-1:=by
 unfold dM;rw[wm,lG (by unfold cK;rw[Vh];lia)];unfold cK;rw[Vh]
theorem zrv{a:Rat}(h:i<(dM a b ns).length):(dM a b ns).getD i 0=(cH a b ns (cK (ns.length-1))).getD i 0 / (1-a^ns.sum.toNat):=by
 unfold dM at *;rw[wm]at h;rw[wa,wx,wa,wc h];rfl
theorem Si{g:Rat}(h:Cm m xs)(bg:af n g)(hg:g≠0):Cm (m+n) (xs.map (λs=>s / g)):=by
 obtain⟨B,h0,bB,hx⟩:=h;have hgn:=BC hg
 have key:∀(t:Int),wy t B / g=wy (t*(g.den:Int)) (B*g.num):=by
  intro t
  conv=>lhs;rw[<- xh g]
  rw[uM,Rat.inv_divInt,Rat.divInt_mul_divInt]
 rcases Int.lt_or_gt_of_ne hgn with z | z
 ·refine⟨B * -g.num,vV h0 (),bB.mul bg.t.neg,λx hxm=>?_⟩
  obtain⟨s,hs,rfl⟩:=wU.mp hxm;obtain⟨t,rfl,bt⟩:=hx s hs;refine⟨-(t*(g.den:Int)),?_,(bt.mul bg.b).neg⟩
  show wy t B / g=_
  rw[key t,uG,Rat.divInt_neg',Int.neg_neg]
 ·refine⟨B*g.num,vV h0 (),bB.mul bg.t,λx hxm=>?_⟩
  obtain⟨s,hs,rfl⟩:=wU.mp hxm;obtain⟨t,rfl,bt⟩:=hx s hs;exact⟨t*(g.den:Int),key t,bt.mul bg.b⟩
theorem DX{a:Rat}(ba:af 10 a)(bb:af 10 b)(hm:Cm m xs):Cm (m+2*ns.length+21*upTo ns ns.length) (cH a b ns xs):=by
 obtain⟨B,h0,h1,h2⟩:=(hm.snoc).rows ba bb (ns:=ns) ns.length (wo _);exact⟨B,h0,h1,λx hx=>h2 x (List.dropLast_subset _ hx)⟩
theorem zxJ{a:Rat}(ba:af 10 a)(bb:af 10 b)(h8:ns.length<=8)(hu:upTo ns ns.length<=8)(hs:ns.sum.toNat<=8)(hF:a^ns.sum.toNat≠1):Cm 268 (dM a b ns):=by
 have bF:af 81 (a^ns.sum.toNat):=(ba.pow ns.sum.toNat).mono ();have bg:af 83 (1-a^ns.sum.toNat):=(af.one.sub bF).mono ⋯;have hg:1-a^ns.sum.toNat≠0:=λe=>hF (by grind)
 exact(Si (DX (ns:=ns) ba bb (Ao (ns.length-1))) bg hg).mono ()
theorem zpU{a:Rat}(ok:cQ a b ns (cK (ns.length-1)))(h8:ns.sum<=8)(i:Nat):af 400 ((cH a b ns (cK (ns.length-1))).getD i 0):=((DX ok.ba ok.bb (Ao _)).get i).mono (by
 have h1:=J3 (λn hn=>(ok.n0 n hn).1);have h2:=ok.b8;lia)
def NZ(K:wb):Sp:=λvs H Q _=>∃x0 x1,vs=[x0,x1] /\ ∃(a b:Rat)(ns:List Int),Is K H x0 (R a b)/\Is K H x1 (TZ ns)/\cQ a b ns (cK (ns.length-1))/\0<=ns.sum/\ns.sum<=8/\(a^ns.sum.toNat=1->Rq H Q .bC)/\(a^ns.sum.toNat≠1->Rs K H Q (TN (dM a b ns)))
theorem ND{a:Rat}{v w:V}(h1:Is K H v (R a b))(h2:Is K H w (TZ ns))(ok:cQ a b ns (cK (ns.length-1)))(h0:0<=ns.sum)(h8:ns.sum<=8)(q1:a^ns.sum.toNat=1->Rq H Q .bC)(q2:a^ns.sum.toNat≠1->Rs K H Q (TN (dM a b ns))):NZ K [v,w] H Q E:=⟨_,_,rfl,a,b,ns,h1,h2,ok,h0,h8,q1,q2⟩
theorem Oe(T:Txt P K mg a):aJ P w K mg base aR 8 a.Ji a.Ip yk (NZ K):=by
 refine T.A0.F.ok CN ?_ ?_;wtm_at "b2"
 refine⟨_,(ak (ay 2 CN.nd (ar (p9 T) hr T.mF (q2 0 1)))
     (ak (bE (eF K hu (qi 2) (br (v:=.ref a.dP) rfl T.eQ rfl)) (au (aE j5)) bN)
     (ak (ay 3 CN.nd (ar (AI T) hr T.oz (ae (br (v:=.ref a.dP) rfl T.eQ rfl) (ae (qi 2) ah))))
     (au (aE (d9 K T.h0O (ae (eC rfl (cW ["shift","gap"] [none,some 3]) (jD (qi 2)) (λ_ _ _ _ _=>(cC 0)) (λ_ _ _ _ _=>eI) (λ_ _ _ _ _=>(ar (JR (K:=K) (mg:=mg) (a:=a) T) hr T.A2 (q2 0 1)))) ah))))))),?_⟩
 wtm_at "cl";rw[show start NN [x0,x1]=[some x0,some x1,none,none]from rfl];obtain⟨ra,rb,ns,hr',hn',ok,h0,h8,q1,q2⟩:=h;have bF:af 100 (ra^ns.sum.toNat):=(ok.ba.pow ns.sum.toNat).mono ();o_head rQ hr' hn' ok h0 () (λv1 H1 S1 i1=>?_);o_head aF (j:=0) i1 rfl (λv2 i2=>?_);k_few
 . rename_i z
   exact q1 z H1 S1
 . rename_i z
   refine aF (j:=0) i1 rfl (λv3 i3=>?_);k_few;rename_i v4 H4 S4 i4;have hg:(1-ra^ns.sum.toNat)≠0:=λe=>z (by grind)
   have bg:af 102 (1-ra^ns.sum.toNat):=(af.one.sub bF).mono ⋯;refine aF (j:=1) (i1.by S4) rfl (λv5 i5=>?_);obtain⟨ap,us,rfl,hu,tu⟩:=bQ.mp i5;refine jC (o0:=none) (tl:=[some v4]) hu rfl (λj y H'=>Is K H' y (N ((dM ra rb ns).getD j 0))) ?_ ?_
   . intro D i x ys o H5 hx inv
     obtain⟨hi,ix⟩:=dB tu hx;have ix5:=ix.by inv.same;have i45:=i4.by inv.same
     have hi1000:i<=1000:=by
       have h1:=ok.len;have h2:=ok.b8;have h3:=lG (a:=ra) (b:=rb) (show ns.length=(cK (ns.length-1)).length+1 from ok.len);lia
     o_head Rz ix5 i45 ((zpU ok h8 i).mono ⋯) (bg.mono ⋯) hg (λv6 H6 S6 i6=>?_);k_few
     have e:(dM ra rb ns).getD i 0=(cH ra rb ns (cK (ns.length-1))).getD i 0 / (1-ra^ns.sum.toNat):=by
       unfold dM;rw[wa,wx,wa,wc hi];rfl
     exact eU inv hi1000 gM ⟨_,rfl⟩ S6 (by rw[e];exact i6)
   . intro D ys H5 hn S5 hD hl hr5
     have hl':ys.length=(dM ra rb ns).length:=by
       unfold dM;rw[hl,tu.length,wm,wm]
     refine gx (dC hD (gI hl' hr5)) (λw H6 S6 i6=>?_);k_few;exact q2 z w H6 (S1.trans (S4.trans (S5.trans S6))) i6
def fK(p q:Rat)(xs ss:List Rat):List Rat:=(wq xs.length).map λi=>p*xs.getD i 0+q*ss.getD i 0
theorem mS(p q:Rat)(xs ss:List Rat):(fK p q xs ss).length=xs.length:=by unfold fK;rw[wm,ve]
theorem Mx{p q:Rat}(h:i<xs.length):(fK p q xs ss).getD i 0=p*xs.getD i 0+q*ss.getD i 0:=by
 unfold fK;rw[wa,wx,Wm h];rfl
def RP(K:wb):Sp:=λvs H Q _=>∃x0 x1 x2 x3,vs=[x0,x1,x2,x3] /\ ∃(d:wG)(p q:Rat)(xs ss:List Rat),Is K H x0 (.tuple [d,TN ss])/\Is K H x1 (TN xs)/\Is K H x2 (N p)/\Is K H x3 (N q)/\ss.length=xs.length/\xs.length<=50/\af 40000 p/\af 40000 q/\(∀i,af 138000 (xs.getD i 0))/\(∀i,af 138000 (ss.getD i 0))/\Rs K H Q (TN (fK p q xs ss))
theorem R6{p q':Rat}{v w z:V}(h0:Is K H v (.tuple [d,TN ss]))(h1:Is K H w (TN xs))(h2:Is K H u (N p))(h3:Is K H z (N q'))(hl:ss.length=xs.length)(hf:xs.length<=50)(b1:af 40000 p)(b2:af 40000 q')(b3:∀i,af 138000 (xs.getD i 0))(b4:∀i,af 138000 (ss.getD i 0))(q:Rs K H Q (TN (fK p q' xs ss))):RP K [v,w,u,z] H Q E:=⟨_,_,_,_,rfl,d,p,q',xs,ss,h0,h1,h2,h3,hl,hf,b1,b2,b3,b4,q⟩
theorem OK(T:Txt P K mg a):aJ P w K mg base aR 3 a.IM a.HI yP (RP K):=by
 refine T.AY.F.ok zs7 ?_ ?_;wtm_at "b4";refine⟨_,(au (aE (d9 K T.h0O (ae (eC rfl (cW ["place","shift","of_place","of_shift"] [none,none,some 2,some 3]) (zzc rfl T.h0X (ae (pv 1) (ae (qi 0) ah))) (λ_ _ _ _ _=>by exact(show PG _ _ (gW K 2 _)from iY (n:=2) rfl (dw (cC 0) (dw (cC 1) gZ)))) (λ_ _ _ _ _=>eI) (λ_ _ _ _ _=>(ar (gB (K:=K) (mg:=mg) (a:=a) T) hr T.fU (ae (ar (kH (K:=K) (mg:=mg) (a:=a) T) hr T.jM (q2 2 0)) (ae (ar (kH (K:=K) (mg:=mg) (a:=a) T) hr T.jM (q2 3 1)) ah))))) ah)))),?_⟩;wtm_at "cl";rw[show start Ek [x0,x1,x2,x3]=[some x0,some x1,some x2,some x3]from rfl];obtain⟨d,p,q',xs,ss,h0,h1,h2,h3,hl,hf,b1,b2,b3,b4,q⟩:=h;obtain⟨a1,us,rfl,hs1,t1⟩:=bQ.mp h1;o_head aF (j:=1) h0 rfl (λv5 i5=>?_);obtain⟨a2,ws,rfl,hs2,t2⟩:=bQ.mp i5;have l1:=t1.length;have l2:=t2.length;rw[wm]at l1 l2;o_head zAb (t:=true) (u:=true) hs1 hs2 () (o0:=none) (o0':=none) (tl:=[some x2,some x3]) rfl (λj y H'=>Is K H' y (N ((fK p q' xs ss).getD j 0))) gM ?_ ?_
 ·intro D j y z zs o1 o2 H7 c hy hz inv hc
  obtain⟨hj,iy⟩:=dB t1 hy;obtain⟨_,iz⟩:=dB t2 hz;have S7:=inv.2.2.1;have iy7:=iy.by S7;have iz7:=iz.by S7;have ip7:=h2.by S7;have iq7:=h3.by S7;have c1:=b3 j;have c2:=b4 j;have m1:af 179980 (p*xs.getD j 0):=(b1.mul c1).mono ⋯;have m2:af 179980 (q'*ss.getD j 0):=(b2.mul c2).mono ⋯;refine me (.of hc) rfl ?_;k_few;rename_i v8 H8 S8 i8 v9 H9 S9 i9 v10 H10 S10 i10;rw[<- Mx hj]at i10;exact tR inv () gM ⟨_,_,rfl⟩ (S8.trans (S9.trans S10)) i10
 ·intro D zs H7 hn S7 hD hl7 hr7
  have tz:ao K H7 zs ((fK p q' xs ss).map N):=gI (by rw[hl7,mS];lia) hr7;o_head gx (dC hD tz) (λv8 H8 S8 i8=>?_);exact q v8 H8 (S7.trans S8) i8
structure dk(ns:List Int):Prop where
 some:1<=ns.length
 b8:ns.length<=8
 each:∀n∈ns,1<=n/\n<=8
 sum:ns.sum<=8
theorem tT:∀{ns:List Int},(∀n∈ns,0<=n)->((ns.map xY).sum:Int)=ns.sum
 | [],_=>rfl
 | n::ns,h=>by
  have h1:=tT (ns:=ns) λm hm=>h m (wA _ hm)
  have h2:=h n (wD ..);rw[wV,Vx,Vx];lia
theorem dk.upTo(h:dk ns):upTo ns ns.length<=8:=by
 have h1:=tT (ns:=ns) λn hn=>by have:=h.each n hn;lia
 have h2:=h.sum;unfold GM.upTo;rw[Wv];lia
def dj(a b:Rat)(ns:List Int):List Rat:=cH a b ns (cK (ns.length-1))
def cB(a b:Rat)(ns:List Int)(n:Nat)(xs:List Rat):List Rat:=(wq xs.length).map λi=>fj (a^ns.sum.toNat) ((dj a b ns).getD i 0) n (xs.getD i 0)
theorem Cd(n:Nat):(cK n).length=n:=Vh ..
theorem oK{a:Rat}(h:1<=ns.length):(dj a b ns).length=ns.length-1:=by
 unfold dj;rw[lG (by rw[Cd];lia),Cd]
theorem dE(a b:Rat)(ns:List Int)(n:Nat)(xs:List Rat):(cB a b ns n xs).length=xs.length:=by unfold cB;rw[wm,ve]
theorem kF{a:Rat}(h:i<xs.length):(cB a b ns n xs).getD i 0=fj (a^ns.sum.toNat) ((dj a b ns).getD i 0) n (xs.getD i 0):=by
 unfold cB;rw[wa,wx,Wm h];rfl
theorem BZ{ys:List Rat}(hl:xs.length=ys.length)(h:∀i,i<xs.length->xs.getD i 0=ys.getD i 0):xs=ys:=WV hl λi h1 h2=>by
 have:=h i h1;rw[wa,wa,wc h1,wc h2]at this;exact this
theorem oQ(a b:Rat)(ns:List Int)(xs:List Rat):cB a b ns 0 xs=xs:=BZ (dE ..) λi hi=>by
 rw[dE]at hi;rw[kF hi,zv4]
theorem NV(a b:Rat)(ns:List Int)(m n:Nat)(xs:List Rat):cB a b ns n (cB a b ns m xs)=cB a b ns (m+n) xs:=BZ (by rw[dE,dE,dE]) λi hi=>by
 rw[dE,dE]at hi;rw[kF (by rw[dE];exact hi),kF hi,kF hi,zxX]
theorem BO{a:Rat}(h:ns.length=xs.length+1)(hn:∀n∈ns,0<=n):cB a b ns 1 xs=cH a b ns xs:=BZ (by rw[dE,lG h]) λi hi=>by
 rw[dE]at hi;rw[kF hi,zws,znO h hn hi]
 rfl
structure eA(a b:Rat)(ns:List Int)(n:Nat):Prop where
 ok:aO a b
 sz:dk ns
 b8:n<=60
 k:(6*ns.sum.toNat+1+1)*n<=32000
theorem zzr{a:Rat}(h:aO a b):af 6 a:=by
 have h1:=h.a0;have h2:=h.a4;have h3:=h.ad;have n0:0<=a.num:=Qv.mpr (vX h1)
 have n1:a.num<=4*a.den:=by
  have:=(Xz a 4).mp h2
  simpa using this
 have e:(2:Nat)^6=64:=by decide
 exact⟨⟨by rw[e];lia⟩,⟨by rw[e];lia⟩⟩
theorem j6{a:Rat}(h:aO a b)(S:Nat):af (6*S+1) (a^S):=(zzr h).pow S
theorem eA.le{a:Rat}(h:eA a b ns n)(e:m<=n):eA a b ns m:=⟨h.ok,h.sz,Wb e h.b8,Wb (XS _ e) h.k⟩
theorem eA.pow{a:Rat}(h:eA a b ns n)(hi:i<=n):af 32020 ((a^ns.sum.toNat)^i):=((j6 h.ok _).pow i).mono (by
 have h1:=(h.le hi).k;have h2:=Wr i (show 6*ns.sum.toNat+1<=6*ns.sum.toNat+1+1 by lia);lia)
theorem eA.aC{a:Rat}(h:eA a b ns n)(hi:i<=n):af 32020 (aC (a^ns.sum.toNat) 1 i):=(MZ (j6 h.ok _) i).mono (by have:=(h.le hi).k;lia)
theorem nD{a:Rat}(h:aO a b)(k:dk ns):cQ a b ns (cK (ns.length-1)):=⟨h.ba,h.bb,λn hn=>by have:=k.each n hn;lia,by rw[Cd];have:=k.some;lia,by have:=k.b8;lia,⟨1,Ao _,by have:=k.b8;have:=k.upTo;lia⟩⟩
theorem Fb{a:Rat}(h:aO a b)(k:dk ns):Cm 185 (dj a b ns):=(DX (ns:=ns) h.ba h.bb (Ao (ns.length-1))).mono (by have:=k.b8;have:=k.upTo;lia)
theorem Dk{a:Rat}(h:aO a b)(k:dk ns)(i:Nat):af 185 ((dj a b ns).getD i 0):=(Fb h k).get i
theorem dk.nn(k:dk ns):∀n∈ns,0<=n:=λn hn=>by have:=k.each n hn;lia
theorem dk.pos(k:dk ns):1<=ns.sum/\ns.sum<=8:=by
 refine⟨?_,k.sum⟩;have h1:=tT k.nn;have h2:=k.some
 match ns,h2,k.each with
 | n::ns,_,he =>
  have:=he n (wD ..);rw[wV,Vx]at h1;lia
theorem A9{a:Rat}(h:aO a b){S:Nat}(hS:1<=S):a^S=1 ↔ a=1:=by
 obtain⟨m,rfl⟩:∃m,S=m+1:=⟨S-1,by lia⟩
 constructor
 ·intro e
  by_cases z:a<1
  ·have:=ZD h.a0 z m
   rw[e]at this;exact absurd this (by grind)
  ·by_cases y:a=1
   ·exact y
   ·have z3:1<a:=Qp (qa.mp z) (WI y)
    have:=ztm z3 m;rw[e]at this;exact absurd this (by grind)
 ·intro e
  rw[e,GM.one_pow']
theorem zvX{a:Rat}(hF:a^ns.sum.toNat≠1)(hi:i<(dM a b ns).length):(dM a b ns).getD i 0*(1-a^ns.sum.toNat)=(dj a b ns).getD i 0:=by
 rw[zrv hi];exact Vj (λe=>hF (by grind))
theorem zAD{a:Rat}(h:aO a b)(S n:Nat):af ((6*S+3)*n+1) ((a^S)^n):=((j6 h S).pow n).mono (by have:=Wr n (show 6*S+1<=6*S+3 by lia);lia)
theorem Nc{a:Rat}(h:aO a b)(S n:Nat):af ((6*S+3)*n+1) (aC (a^S) 1 n):=(MZ (j6 h S) n).mono (by have:=Wr n (show 6*S+1+1<=6*S+3 by lia);lia)
def Jz(K:wb):Sp:=λvs H Q _=>∃x0 x1 x2,vs=[x0,x1,x2] /\ ∃(F:Rat)(n:Int)(xs ss:List Rat),x2=.int n/\Is K H x0 (.tuple [N F,TN ss])/\Is K H x1 (TN xs)/\0<=n/\n<=64/\ss.length=xs.length/\xs.length<=50/\af 40000 F/\(∀i,i<=n.toNat->af 40000 (F^i))/\(∀i,i<=n.toNat->af 40000 (aC F 1 i))/\(∀i,af 138000 (xs.getD i 0))/\(∀i,af 138000 (ss.getD i 0))/\Rs K H Q (TN ((wq xs.length).map λi=>fj F (ss.getD i 0) n.toNat (xs.getD i 0)))
theorem RO{F:Rat}{n:Int}{v w:V}(h0:Is K H v (.tuple [N F,TN ss]))(h1:Is K H w (TN xs))(n0:0<=n)(n1:n<=64)(hl:ss.length=xs.length)(hf:xs.length<=50)(b0:af 40000 F)(b1:∀i,i<=n.toNat->af 40000 (F^i))(b2:∀i,i<=n.toNat->af 40000 (aC F 1 i))(b3:∀i,af 138000 (xs.getD i 0))(b4:∀i,af 138000 (ss.getD i 0))(q:Rs K H Q (TN ((wq xs.length).map λi=>fj F (ss.getD i 0) n.toNat (xs.getD i 0)))):Jz K [v,w,.int n] H Q E:=⟨_,_,_,rfl,F,n,xs,ss,rfl,h0,h1,n0,n1,hl,hf,b0,b1,b2,b3,b4,q⟩
theorem Rh(T:Txt P K mg a):aJ P w K mg base aR 4 a.Ja a.HU zA (Jz K):=by
 refine T.AZ.F.ok Ss ?_ ?_;wtm_at "b3"
 refine⟨_,(ak (ay 3 Ss.nd (ar (yB T) hr T.oy (ae (aY (ae (qi 0) (ae (br (v:=.ref a.dP) rfl T.eQ rfl) ah))) (q1 2))))
     (au (aE (ar (OK T) hr T.AY (by exact(@ae _ _ _ _ _ (pv 0) (@ae _ _ _ _ _ (pv 1) (@ae _ _ _ _ _ (qi 3) (@ae _ _ _ _ _ (qi 3) ah iX) iX) dY) dY)))))),?_⟩
 wtm_at "cl";rw[show start N2 [x0,x1,x2]=[some x0,some x1,some x2,none]from rfl];obtain⟨F,n,xs,ss,rfl,h0,h1,n0,n1,hl,hf,b0,b1,b2,b3,b4,q⟩:=h;o_head aF (j:=0) h0 rfl (λv1 i1=>?_);o_head Nu i1 (dU 1 (T.sO _) rfl rfl) (λv2 H2 S2 i2=>?_);o_head R0 i2 (b0.mono ⋯) (af.one.mono ⋯) n0 n1 (λi hi=>(b1 i hi).mono ⋯) (λi hi=>(b2 i hi).mono ⋯) (λv3 H3 S3 i3=>?_);k_few;rename_i v4 i4 v5 i5;have T3:=S2.trans S3;refine R6 (h0.by T3) (h1.by T3) i4 i5 hl hf (b1 _ (wo _)) (b2 _ (wo _)) b3 b4 (λv6 H6 S6 i6=>?_);exact q v6 H6 (T3.trans S6) i6
def Pf(K:wb):Sp:=λvs H Q _=>∃x0 x1 x2 x3,vs=[x0,x1,x2,x3] /\ ∃(ra rb:Rat)(ns:List Int)(xs:List Rat)(n:Int),x3=.int n/\Is K H x0 (R ra rb)/\Is K H x1 (TZ ns)/\Is K H x2 (TN xs)/\ns.length=xs.length+1/\0<=n/\eA ra rb ns n.toNat/\(∀i,af 138000 (xs.getD i 0))/\Rs K H Q (TN (cB ra rb ns n.toNat xs))
theorem zj6{n:Int}{v w:V}(h0:Is K H v (R ra rb))(h1:Is K H w (TZ ns))(h2:Is K H u (TN xs))(hl:ns.length=xs.length+1)(n0:0<=n)(ok:eA ra rb ns n.toNat)(b:∀i,af 138000 (xs.getD i 0))(q:Rs K H Q (TN (cB ra rb ns n.toNat xs))):Pf K [v,w,u,.int n] H Q E:=⟨_,_,_,_,rfl,ra,rb,ns,xs,n,rfl,h0,h1,h2,hl,n0,ok,b,q⟩
theorem zjT(T:Txt P K mg a):aJ P w K mg base aR 8 a.GJ a.Gj tI (Pf K):=by
 refine T.Gq.F.ok zj4 ?_ ?_;wtm_at "b4";refine⟨_,(au (aE (ar (Rh T) hr T.AZ (ae (ar (p9 T) hr T.mF (q2 0 1)) (q2 2 3))))),?_⟩;wtm_at "cl";rw[show start BE [x0,x1,x2,x3]=[some x0,some x1,some x2,some x3]from rfl];obtain⟨ra,rb,ns,xs,n,rfl,hr',hn',hx',hl,n0,ok,bx,q⟩:=h;have h8:=ok.sz.b8;have hp:=ok.sz.pos;have hn60:=ok.b8;o_head rQ hr' hn' (nD ok.ok ok.sz) () () (λv1 H1 S1 i1=>?_);o_head RO (ss:=dj ra rb ns) i1 (hx'.by S1) n0 () (by rw[oK ()];lia) () (by have:=ok.sz.sum;exact(j6 ok.ok _).mono ()) (λi hi=>(ok.pow hi).mono ⋯) (λi hi=>(ok.aC hi).mono ⋯) bx (λi=>(Dk ok.ok ok.sz i).mono ⋯) (λv2 H2 S2 i2=>?_);exact q v2 H2 (S1.trans S2) i2
theorem L9{k:Nat}{F:Rat}(h:af k F):∀i:Nat,∃U:Int,GM.sumTo (aC F 1) i=wy U ((F.den:Int)^i)/\Bd ((k+2)*i+2) U
 | 0=>⟨0,by simp[GM.sumTo],⟨by simp⟩⟩
 | i+1=>by
  obtain⟨U,e,bU⟩:=L9 h i;obtain⟨T,e2,bT,bd⟩:=Ai h i;have hd:(F.den:Int)^i≠0:=qx (fh F);have hd1:(F.den:Int)^(i+1)≠0:=qx (fh F);have ed:(F.den:Int)^(i+1)=(F.den:Int)^i*(F.den:Int):=QW ..;have h1:(k+2)*(i+1)=(k+2)*i+(k+2):=Qn ..;have h2:(k+1)*i<=(k+2)*i:=Wr i ();refine⟨(U+T)*(F.den:Int),?_,((bU.add bT).mul h.b).mono ()⟩
  symm
  refine fk hd1 ?_;have k1:=bY U hd;have k2:=bY T hd;have e3:(((U+T)*(F.den:Int):Int):Rat)=((U:Rat)+(T:Rat))*((F.den:Int):Rat):=by rw[Wj,Qd]
  rw[GM.sumTo,e,e2,ed,Wj,e3,<- k1,<- k2]
  grind
theorem MN{k:Nat}{F:Rat}(h:af k F)(i:Nat):af ((k+2)*i+2) (GM.sumTo (aC F 1) i):=by
 obtain⟨U,e,bU⟩:=L9 h i;obtain⟨T,e2,bT,bd⟩:=Ai h i;rw[e];exact af.divInt (qx (fh F)) bU (bd.mono (by have:=Wr i (show k<=k+2 by lia);lia))
theorem eA.sums{a:Rat}(h:eA a b ns n)(hi:i<=n):af 33240 (GM.sumTo (GM.aC (a^ns.sum.toNat) 1) i):=(MN (j6 h.ok _) i).mono (by
 have h1:=(h.le hi).k;have h2:=(h.le hi).b8;have e:(6*ns.sum.toNat+1+2)*i=(6*ns.sum.toNat+1+1)*i+i:=by rw[<- Q0]
 lia)
theorem zAe(F s x:Rat)(n:Nat):GM.sumTo (λk=>fj F s k x) n=aC F 1 n*x+GM.sumTo (aC F 1) n*s:=by
 unfold fj;rw[OE]
 have e1:GM.sumTo (λk=>F^k*x) n=aC F 1 n*x:=by
  rw[<- JA F n,QZ,<- Fv];exact sU n λk _=>QZ ..
 have e2:GM.sumTo (λk=>aC F 1 k*s) n=GM.sumTo (aC F 1) n*s:=by
  rw[QZ (GM.sumTo (aC F 1) n) s,<- Fv];exact sU n λk _=>QZ ..
 rw[e1,e2]
def TK(K:wb):Sp:=λvs H Q _=>∃x0 x1 x2,vs=[x0,x1,x2] /\ ∃(a b:Rat)(ns:List Int)(n:Int)(xs:List Rat),x2=.int n/\Is K H x0 (.tuple [N (a^ns.sum.toNat),TN (dj a b ns)])/\Is K H x1 (TN xs)/\0<=n/\eA a b ns n.toNat/\ns.length=xs.length+1/\(∀i,af 138000 (xs.getD i 0))/\Rs K H Q (TN (fK (aC (a^ns.sum.toNat) 1 n.toNat) (GM.sumTo (aC (a^ns.sum.toNat) 1) n.toNat) xs (dj a b ns)))
theorem zjg{a:Rat}{n:Int}{v w:V}(h0:Is K H v (.tuple [N (a^ns.sum.toNat),TN (dj a b ns)]))(h1:Is K H w (TN xs))(n0:0<=n)(ok:eA a b ns n.toNat)(hl:ns.length=xs.length+1)(bx:∀i,af 138000 (xs.getD i 0))(q:Rs K H Q (TN (fK (aC (a^ns.sum.toNat) 1 n.toNat) (GM.sumTo (aC (a^ns.sum.toNat) 1) n.toNat) xs (dj a b ns)))):TK K [v,w,.int n] H Q E:=⟨_,_,_,rfl,a,b,ns,n,xs,rfl,h0,h1,n0,ok,hl,bx,q⟩
theorem zjA(T:Txt P K mg a):aJ P w K mg base aR 4 a.Gy a.Gb zZ (TK K):=by
 refine T.Ge.F.ok nh ?_ ?_;wtm_at "b3"
 refine⟨_,(ak (ay 3 nh.nd (br (v:=.ref a.cV) rfl T.dN rfl))
     (ak (ay 4 nh.nd (br (v:=.ref a.cV) rfl T.dN rfl))
     (ak (fE vC rfl (je rfl T.h0L (q1 2)) (dh (i:=5) nh.nd rfl (Or.inl rfl)) (ak (ay 4 nh.nd (ar (gB T) hr T.fU (q2 4 3)))
     (au (ay 3 nh.nd (ar (gB T) hr T.fU (ae (ar (kH T) hr T.jM (ae (qi 0) (q1 3))) (ae (br (v:=.ref a.dP) rfl T.eQ rfl) ah)))))))
     (au (aE (ar (OK T) hr T.AY (by exact(@ae _ _ _ _ _ (pv 0) (@ae _ _ _ _ _ (pv 1) (@ae _ _ _ _ _ (pv 3) (@ae _ _ _ _ _ (pv 4) ah dY) dY) dY) dY)))))))),?_⟩
 wtm_at "cl";rw[show start Li [x0,x1,x2]=[some x0,some x1,some x2,none,none,none]from rfl];obtain⟨ra,rb,ns,n,xs,rfl,h0,h1,n0,ok,hl,bx,q⟩:=h;have h8:=ok.sz.b8;have h60:=ok.b8;have bF:af 49 (ra^ns.sum.toNat):=(j6 ok.ok _).mono (by have:=ok.sz.sum;lia);generalize hF:ra^ns.sum.toNat=F at *;o_head kI (n:=n) () () (λi σ H'=>∃(f g:V)(o:Option V),σ = [some x0,some x1,some (.int n),some f,some g,o]/\aj H H'/\Is K H' f (N (aC F 1 i))/\Is K H' g (N (GM.sumTo (aC F 1) i))) ⟨_,_,_,rfl,aj.refl H,dU 0 (T.eJ _) rfl rfl,dU 0 (T.eJ _) rfl rfl⟩ ?_ ?_
 . rintro i σ H' hi ⟨f,g,o,rfl,S1,hf,hg⟩
   have h01:=h0.by S1;have bf:af 32020 (aC F 1 i):=by rw[<- hF];exact ok.aC ()
   have bg:af 33240 (GM.sumTo (aC F 1) i):=by rw[<- hF];exact ok.sums ()
   have bm:af 34000 (F*aC F 1 i):=(bF.mul bf).mono ⋯;k_few;rename_i v2 H2 S2 i2;refine aF (j:=0) (h01.by S2) rfl (λv3 i3=>?_);have hf2:=hf.by S2;k_few;rename_i v4 H4 S4 i4 v5 H5 S5 i5;exact⟨_,_,_,rfl,S1.trans (S2.trans (S4.trans S5)),i5,i2.by (S4.trans S5)⟩
 . rintro σ H' ⟨f,g,o,rfl,S1,hf,hg⟩
   have bf:af 40000 (aC F 1 n.toNat):=by rw[<- hF];exact(ok.aC (wo _)).mono ⋯
   have bg:af 40000 (GM.sumTo (aC F 1) n.toNat):=by rw[<- hF];exact(ok.sums (wo _)).mono ⋯
   o_head R6 (h0.by S1) (h1.by S1) hf hg (by rw[oK ()];lia) () bf bg bx (λi=>(Dk ok.ok ok.sz i).mono ⋯) (λv2 H2 S2 i2=>?_);exact q v2 H2 (S1.trans S2) i2
theorem PJ{c d:Nat}{p q:Rat}(hx:Cm m xs)(hs:Cm j ss)(bp:af c p)(bq:af d q):Cm (m+j+c+d+1) (fK p q xs ss):=by
 obtain⟨B,h0,h1,h2⟩:=hx;obtain⟨D,g0,g1,g2⟩:=hs;have hb:0<B*(p.den:Int)*(D*(q.den:Int)):=vV (vV h0 (den_pos p)) (vV g0 (den_pos q));refine⟨_,hb,((h1.mul bp.b).mul (g1.mul bq.b)).mono (),λx hx=>?_⟩;obtain⟨i,hi,rfl⟩:=wU.mp hx;have hi:=wF.mp hi;obtain⟨u,eu,bu⟩:=h2 _ (getD_mem (d:=0) hi)
 have hv:∃v:Int,ss.getD i 0=wy v D/\Bd j v:=by
  rcases wB i ss.length with z | z
  ·exact g2 _ (getD_mem z)
  ·rw[wa,wQ z]
   exact⟨0,by simp,⟨by simp;exact Wt j⟩⟩
 obtain⟨v,ev,bv⟩:=hv;refine⟨p.num*u*(D*(q.den:Int))+q.num*v*(B*(p.den:Int)),?_,(((bp.t.mul bu).mul (g1.mul bq.b)).add ((bq.t.mul bv).mul (h1.mul bp.b))).mono ()⟩
 symm
 show wy _ _=p*xs.getD i 0+q*ss.getD i 0
 refine fk () ?_;have k1:=bY u (show B≠0 by lia);have k2:=bY v (show D≠0 by lia);have k3:=iQ p;have k4:=iQ q;rw[eu,ev];simp only[Qd,Wj];rw[<- k1,<- k2,<- k3,<- k4];generalize wy u B=y;generalize wy v D=z;generalize (B:Rat)=B';generalize (D:Rat)=D';generalize ((p.den:Int):Rat)=P';generalize ((q.den:Int):Rat)=Q'
 grind
theorem zBW{a:Rat}(ok:eA a b ns n)(c:Cm m xs):Cm (m+188+2*((6*ns.sum.toNat+3)*n)) (cB a b ns n xs):=(PJ c (Fb ok.ok ok.sz) (zAD ok.ok _ n) (Nc ok.ok _ n)).mono ()
def rP(a b:Rat)(ns:List Int)(xs:List Rat)(n:Nat):Rat:=GM.sumTo (λk=>eY a b ns (cB a b ns k xs)) n
def jb(a b:Rat)(ns:List Int)(xs:List Rat)(n:Nat):List Rat:=(fK (aC (a^ns.sum.toNat) 1 n) (GM.sumTo (aC (a^ns.sum.toNat) 1) n) xs (dj a b ns)).map λt=>t / ((n:Int):Rat)
theorem MO(a b:Rat)(ns:List Int)(xs:List Rat)(n:Nat):(jb a b ns xs n).length=xs.length:=by unfold jb;rw[wm,mS]
theorem DD(h:1<=n):((n:Int):Rat)≠0:=λe=>by
 have:=Vz.mp e;lia
theorem J1{a:Rat}(hi:i<xs.length):(jb a b ns xs n).getD i 0=(fK (aC (a^ns.sum.toNat) 1 n) (GM.sumTo (aC (a^ns.sum.toNat) 1) n) xs (dj a b ns)).getD i 0 / ((n:Int):Rat):=by
 unfold jb;rw[wa,wx,wc (by rw[mS];exact hi),wa,wc (by rw[mS];exact hi)]
 rfl
theorem zrM{a:Rat}(hl:ns.length=xs.length+1)(h1:1<=n):((n:Int):Rat)*eY a b ns (jb a b ns xs n)=rP a b ns xs n:=by
 unfold rP;refine RM hl (λk=>cB a b ns k xs) (λk=>dE ..) n _ h1 (MO ..) λi hi=>?_
 rw[J1 hi,Vj (DD h1),Mx hi,<- zAe];exact sU n λk _=>(kF hi).symm
theorem ON(h:n<=60):af 6 ((n:Int):Rat):=by
 have e:(2:Nat)^6=64:=by decide
 exact⟨⟨by rw[Uu,e];lia⟩,⟨by rw[Uv];decide⟩⟩
theorem zyN{a:Rat}(h:aO a b)(S n:Nat):af ((6*S+3)*n+2) (GM.sumTo (aC (a^S) 1) n):=MN (j6 h S) n
theorem Rw{a:Rat}(ok:eA a b ns n)(c:Cm m xs):Cm (m+189+2*((6*ns.sum.toNat+3)*n)) (fK (aC (a^ns.sum.toNat) 1 n) (GM.sumTo (aC (a^ns.sum.toNat) 1) n) xs (dj a b ns)):=(PJ c (Fb ok.ok ok.sz) (Nc ok.ok _ n) (zyN ok.ok _ n)).mono ()
theorem zxx{a:Rat}(ok:eA a b ns n)(h1:1<=n)(c:Cm m xs):Cm (m+195+2*((6*ns.sum.toNat+3)*n)) (jb a b ns xs n):=by
 unfold jb;exact(Si (Rw ok c) (ON ok.b8) (DD h1)).mono ()
def Ob(K:wb):Sp:=λvs H Q _=>∃x0 x1 x2 x3,vs=[x0,x1,x2,x3] /\ ∃(ra rb:Rat)(ns:List Int)(xs:List Rat)(n:Int)(m:Nat),x3=.int n/\Is K H x0 (R ra rb)/\Is K H x1 (TZ ns)/\Is K H x2 (TN xs)/\ns.length=xs.length+1/\0<=n/\eA ra rb ns n.toNat/\Cm m xs/\m+2*((6*ns.sum.toNat+3)*n.toNat)<=134000/\Rs K H Q (N (rP ra rb ns xs n.toNat))
theorem zmC{n:Int}{v w:V}(h0:Is K H v (R ra rb))(h1:Is K H w (TZ ns))(h2:Is K H u (TN xs))(hl:ns.length=xs.length+1)(n0:0<=n)(ok:eA ra rb ns n.toNat)(c:Cm m xs)(hm:m+2*((6*ns.sum.toNat+3)*n.toNat)<=134000)(q:Rs K H Q (N (rP ra rb ns xs n.toNat))):Ob K [v,w,u,.int n] H Q E:=⟨_,_,_,_,rfl,ra,rb,ns,xs,n,m,rfl,h0,h1,h2,hl,n0,ok,c,hm,q⟩
theorem ZE{n:Int}(q:Rs K H Q (N (n:Rat))):lz K [.int n,.int 1] H Q:=ig (r:=(n:Rat)) (Uu n).symm (by rw[Uv];rfl) q
theorem zmS(T:Txt P K mg a):aJ P w K mg base aR 8 a.Hh a.Gu zP (Ob K):=by
 refine T.GR.F.ok CC ?_ ?_;wtm_at "b4"
 refine⟨_,(ak (bE (d8 p_ (pv 3) av (du _)) (au (aE (br (v:=.ref a.cV) rfl T.dN rfl))) bN)
     (ak (ay 4 CC.nd (aY (ae (pv 3) (ae av ah))))
     (ak (ay 5 CC.nd (d9 K T.h0O (ae (eC rfl (cW ["total","count"] [none,some 4]) (jD (ar (zjA T) hr T.Ge (ae (ar (p9 T) hr T.mF (q2 0 1)) (q2 2 3)))) (λ_ _ _ _ _=>(cC 0)) (λ_ _ _ _ _=>eI) (λ_ _ _ _ _=>(ar (JR (K:=K) (mg:=mg) (a:=a) T) hr T.A2 (q2 0 1)))) ah)))
     (au (aE (ar (kH T) hr T.jM (ae (pv 4) (ae (ar (znr T) hr T.G4 (q3 0 1 5)) ah)))))))),?_⟩
 wtm_at "cl";rw[show start Kv [x0,x1,x2,x3]=[some x0,some x1,some x2,some x3,none,none]from rfl];obtain⟨ra,rb,ns,xs,n,m,rfl,hr',hn',hx',hl,n0,ok,c,hm,q⟩:=h;have h8:=ok.sz.b8;have hp:=ok.sz.pos;have h60:=ok.b8;have hu:=ok.sz.upTo;obtain⟨n,rfl⟩:∃j:Nat,n=(j:Int):=⟨n.toNat,by lia⟩;rw[wY]at q ok h60 hm;k_few
 . rename_i z
   have hz:n=0:=by lia
   subst hz;exact q _ H (aj.refl _) (dU 0 (T.eJ _) rfl rfl)
 . rename_i z
   have h1n:1<=n:=by lia
   have cM:=zxx ok h1n c;have hml:=MO ra rb ns xs n;have hne:=DD h1n;have bn:af 6 ((n:Int):Rat):=ON h60;refine ZE (λv1 H1 S1 i1=>?_);o_head rQ (hr'.by S1) (hn'.by S1) (nD ok.ok ok.sz) () () (λv2 H2 S2 i2=>?_);have T2:=S1.trans S2;o_head zjg (a:=ra) (b:=rb) (ns:=ns) i2 (hx'.by T2) () (by rw[wY];exact ok) hl (λi=>(c.get i).mono ()) (λv3 H3 S3 i3=>?_);rw[wY]at i3;have i13:=i1.by (S2.trans S3);obtain⟨a3,us,rfl,hs3,t3⟩:=bQ.mp i3;have hul:=t3.length;rw[wm,mS]at hul;have bw:∀i,af 162000 ((fK (aC (ra^ns.sum.toNat) 1 n) (GM.sumTo (aC (ra^ns.sum.toNat) 1) n) xs (dj ra rb ns)).getD i 0):=λi=>((Rw ok c).get i).mono ()
   o_head jC hs3 (o0:=none) (tl:=[some v1]) rfl (λj y H'=>Is K H' y (N ((jb ra rb ns xs n).getD j 0))) ?_ ?_
   . intro D j x ys o H4 hx inv
     obtain⟨hj,ix⟩:=dB t3 hx;rw[mS]at hj;o_head Rz (ix.by inv.same) (i13.by inv.same) ((bw j).mono ⋯) (bn.mono ⋯) hne (λv5 H5 S5 i5=>?_);rw[<- J1 hj]at i5;exact eU inv () gM ⟨_,rfl⟩ S5 i5
   . intro D ys H4 hn4 S4 e4 hl4 hr4
     have tz:ao K H4 ys ((jb ra rb ns xs n).map N):=gI (by rw[hl4,hul,hml]) hr4;o_head gx (dC e4 tz) (λv5 H5 S5 i5=>?_);have T5:=T2.trans (S3.trans (S4.trans S5));have rok:cQ ra rb ns (jb ra rb ns xs n):=⟨ok.ok.ba,ok.ok.bb,λk hk=>by have:=ok.sz.each k hk;lia,by rw[hml];exact hl,by lia,⟨_,cM,by lia⟩⟩;o_head znQ (hr'.by T5) (hn'.by T5) i5 rok cM () (λv6 H6 S6 i6=>?_);have bt:af 160000 (eY ra rb ns (jb ra rb ns xs n)):=(Jx rok cM () (wo _)).f_ (wD ..);have i16:=i13.by (S4.trans (S5.trans S6));k_few;rename_i v7 H7 S7 i7;rw[zrM hl h1n]at i7;exact q v7 H7 (T5.trans (S6.trans S7)) i7
def ng(ts:List Rat):List Bool:=ts.map λx=>decide (1<x)
theorem zvs{ts:List Rat}(h:i<ts.length):(ng ts).getD i true=decide (1<ts.getD i 0):=by
 unfold ng;rw[wa,wx,wa,wc h]
 rfl
def rh(a b:Rat)(ns:List Int):Bool:=!((ng (eK a b ns (dM a b ns))).any id)
theorem zry{a:Rat}(h:aO a b)(k:dk ns)(hF:a^ns.sum.toNat≠1):cQ a b ns (dM a b ns):=⟨h.ba,h.bb,λn hn=>by have:=k.each n hn;lia,by rw[Oc k.some];have:=k.some;lia,by have:=k.b8;lia,⟨268,zxJ h.ba h.bb k.b8 k.upTo (by have:=k.sum;lia) hF,by have:=k.b8;have:=k.upTo;lia⟩⟩
def Kn(K:wb):Sp:=λvs H Q _=>∃x0 x1,vs=[x0,x1] /\ ∃(a b:Rat)(ns:List Int),Is K H x0 (R a b)/\Is K H x1 (TZ ns)/\aO a b/\dk ns/\a≠1/\Rq H Q (.bl (rh a b ns))
theorem L6{a:Rat}{v w:V}(h1:Is K H v (R a b))(h2:Is K H w (TZ ns))(ok:aO a b)(sz:dk ns)(ha:a≠1)(q:Rq H Q (.bl (rh a b ns))):Kn K [v,w] H Q E:=⟨_,_,rfl,a,b,ns,h1,h2,ok,sz,ha,q⟩
theorem M8(T:Txt P K mg a):aJ P w K mg base aR 9 a.G1 a.Gs t9 (Kn K):=by
 refine T.AM.F.ok zlr ?_ ?_;wtm_at "b2";refine⟨_,(au (aE (om (cy (show bK _ (.builtin "any") (EX K)from zvj rfl) rfl T.h0T zBG (ae (eC rfl (cW ["top"] [none]) (jD (ar (Kq T) hr T.A3 (ae (pv 0) (ae (pv 1) (ae (ar (Oe T) hr T.A0 (q2 0 1)) ah))))) (λ_ _ _ _ _=>(cC 0)) (λ_ _ _ _ _=>eI) (λ_ _ _ _ _=>(ar (gL (K:=K) (mg:=mg) (a:=a) T) hr T.fT (ae (br (v:=.ref a.dP) rfl T.eQ rfl) (q1 0))))) ah))))),?_⟩;wtm_at "cl";rw[show start B8 [x0,x1]=[some x0,some x1]from rfl];obtain⟨ra,rb,ns,hr',hn',ok,sz,ha,q⟩:=h;have h8:=sz.b8;have hps:=sz.pos;have hF:ra^ns.sum.toNat≠1:=λe=>ha ((A9 ok ()).mp e)
 have rok:=zry ok sz hF;o_head ND hr' hn' (nD ok sz) () () (λe=>absurd e hF) (λ_ v1 H1 S1 i1=>?_);o_head J8 (hr'.by S1) (hn'.by S1) i1 rok (λv2 H2 S2 i2=>?_);obtain⟨a2,us,rfl,hs2,t2⟩:=bQ.mp i2;have hl2:=t2.length;rw[wm,jo]at hl2;refine jC hs2 (o0:=none) (tl:=[]) rfl (λi v H=>v=V.bl ((ng (eK ra rb ns (dM ra rb ns))).getD i true)) ?_ ?_
 ·rintro D i x ys o H3 hx inv
  obtain⟨hi,ix⟩:=dB t2 hx;rw[jo]at hi;have ix3:=ix.by inv.same;have b1:=Ti rok hi;have b2:af 1 1:=af.one;k_few;exact eU inv () (λ_ _ _ _ _ h=>h) ⟨_,rfl⟩ (aj.refl _) (by rw[zvs (by rw[jo];exact hi)])
 ·rintro D ys H3 hn3 S3 e3 hl3 hr3
  have hz:=yA (bs:=ng (eK ra rb ns (dM ra rb ns))) (by unfold ng;rw[wm,jo];lia) hr3;rw[hz]at e3;o_head zy8 (.of e3) ?_;k_few;exact q _ (S1.trans (S2.trans S3))
def mP(ss:List Rat):List Bool:=ss.map λs=>decide (s=0)
theorem zvl{ts:List Rat}(h:i<ts.length):(mP ts).getD i true=decide (ts.getD i 0=0):=by
 unfold mP;rw[wa,wx,wa,wc h]
 rfl
def eG(a b:Rat)(ns:List Int)(xs:List Rat):Bool:=if 1<a then decide (xs=dM a b ns)else if a=1 then(mP (dj a b ns)).all id else rh a b ns
def Of(K:wb):Sp:=λvs H Q _=>∃x0 x1 x2,vs=[x0,x1,x2] /\ ∃(a b:Rat)(ns:List Int)(xs:List Rat),Is K H x0 (R a b)/\Is K H x1 (TZ ns)/\Is K H x2 (TN xs)/\aO a b/\dk ns/\Rq H Q (.bl (eG a b ns xs))
theorem znJ{a:Rat}{v w:V}(h1:Is K H v (R a b))(h2:Is K H w (TZ ns))(h3:Is K H u (TN xs))(ok:aO a b)(sz:dk ns)(q:Rq H Q (.bl (eG a b ns xs))):Of K [v,w,u] H Q E:=⟨_,_,_,rfl,a,b,ns,xs,h1,h2,h3,ok,sz,q⟩
theorem znI(T:Txt P K mg a):aJ P w K mg base aR 10 a.HA a.GA yL (Of K):=by
 refine T.GZ.F.ok SM ?_ ?_;wtm_at "b3"
 refine⟨_,(ak (ay 3 SM.nd (ar (Ew T) hr T.sM (q1 0)))
     (ak (bE (eF K hu (pv 3) cv) (au (aE (ie K hu (d9 K T.h0O (q1 2)) (ar (Oe T) hr T.A0 (q2 0 1))))) bN)
     (ak (bE (eF K hu (pv 3) cv) (au (aE (cy (show bK _ (.builtin "all") (ny K)from tM rfl) rfl T.h0U zj (ae (eC rfl (cW ["shift"] [none]) (jD (n_ (ar (p9 T) hr T.mF (q2 0 1)))) (λ_ _ _ _ _=>(cC 0)) (λ_ _ _ _ _=>eI) (λ_ _ _ _ _=>(ie K hu (pv 0) (br (v:=.ref a.cV) rfl T.dN rfl)))) ah)))) bN)
     (au (aE (ar (M8 T) hr T.AM (q2 0 1))))))),?_⟩
 wtm_at "cl";rw[show start Le [x0,x1,x2]=[some x0,some x1,some x2,none]from rfl];obtain⟨ra,rb,ns,xs,hr',hn',hx',ok,sz,q⟩:=h;have h8:=sz.b8;have h1:=sz.some;have hps:=sz.pos;o_head EB hr' (ok.ba.mono ⋯) ?_;unfold lR;unfold eG at q
 by_cases z1:1<ra
 . rw[if_pos z1]at q ⊢
   have hF:ra^ns.sum.toNat≠1:=λe=>absurd ((A9 ok ()).mp e) (by grind)
   o_head gG _ _ true (by rw[wR];decide) ?_;o_head yE hx' ?_;o_head ND hr' hn' (nD ok sz) () () (λe=>absurd e hF) (λ_ v1 H1 S1 i1=>?_);o_head BR (hx'.by S1) i1 ?_;exact q _ S1
 . rw[if_neg z1]at q ⊢
   by_cases z2:ra=1
   . rw[if_pos z2]at q ⊢
     o_head gG _ _ false (by rw[wR];decide) ?_;o_head gG _ _ true (by rw[wR];decide) ?_;o_head rQ hr' hn' (nD ok sz) () () (λv1 H1 S1 i1=>?_);o_head aF (j:=1) i1 rfl (λv2 i2=>?_);obtain⟨a2,us,rfl,hs2,t2⟩:=bQ.mp i2;have hl2:=t2.length;rw[wm]at hl2;have hsl:(dj ra rb ns).length=ns.length-1:=oK h1;have t2:ao K H1 us ((dj ra rb ns).map N):=t2;have hl2:us.length=(dj ra rb ns).length:=hl2;refine jC hs2 (o0:=none) (tl:=[]) rfl (λi v H=>v=V.bl ((mP (dj ra rb ns)).getD i true)) ?_ ?_
     . rintro D i x ys o H3 hx inv
       obtain⟨hi,ix⟩:=dB t2 hx;have ix3:=ix.by inv.same;k_few;exact eU inv () (λ_ _ _ _ _ h=>h) ⟨_,rfl⟩ (aj.refl _) (by rw[zvl hi])
     . rintro D ys H3 hn3 S3 e3 hl3 hr3
       have hz:=yA (bs:=mP (dj ra rb ns)) (by unfold mP;rw[wm];lia) hr3;rw[hz]at e3;o_head oI (.of e3) ?_;exact q _ (S1.trans S3)
   . rw[if_neg z2]at q ⊢
     o_head gG _ _ false (by rw[wR];decide) ?_;o_head gG _ _ false (by rw[wR];decide) ?_;k_few;exact L6 hr' hn' ok sz z2 q
theorem zzw{a:Rat}(hF:a^ns.sum.toNat≠1)(hl:ns.length=xs.length+1)(k:Nat):cB a b ns k xs=fq ((a^ns.sum.toNat)^k) (dM a b ns) xs:=by
 have hs:(dM a b ns).length=xs.length:=by rw[Oc ()];lia
 refine kB (by rw[dE,nG hs,hs]) λi hi=>?_
 rw[dE]at hi;rw[lZ hs (),kF hi,zxA (zvX hF ())]
theorem ER{a:Rat} : dQ a b ns xs=true ↔ (∀i,i<xs.length+1->(dr xs).getD (i+1) 0<(dr xs).getD i 0) /\ ∀i,i<ns.length->(eK a b ns xs).getD i 0<1:=by
 unfold dQ;rw[w9,WW,WW]
 constructor
 ·rintro ⟨h1,h2⟩
  refine⟨λi hi=>?_,λi hi=>?_⟩
  ·have:=h1 _ (wU.mpr ⟨i,wF.mpr hi,rfl⟩)
   exact of_decide_eq_true this
  ·have:=h2 _ (wU.mpr ⟨_,getD_mem (d:=0) (show i<(eK a b ns xs).length by rw[jo];exact hi),rfl⟩)
   exact of_decide_eq_true this
 ·rintro ⟨h1,h2⟩
  refine⟨λx hx=>?_,λx hx=>?_⟩
  ·obtain⟨i,hi,rfl⟩:=wU.mp hx
   exact decide_eq_true (h1 i (wF.mp hi))
  ·obtain⟨t,ht,rfl⟩:=wU.mp hx
   obtain⟨i,hi,rfl⟩:=wU.mp ht;have:=h2 i (wF.mp hi);rw[mT (wF.mp hi)]at this;exact decide_eq_true this
theorem Ra:∀l:List Rat,(∀i,i+1<l.length->l.getD (i+1) 0<l.getD i 0)->l.Pairwise (· > ·)
 | [],_=>.nil
 | x::l,h=>by
  have h':∀i,i+1<l.length->l.getD (i+1) 0<l.getD i 0:=λi hi=>by
   have:=h (i+1) (by simp;lia)
   simpa using this
  have hd:∀j,j<l.length->l.getD j 0<x:=λj=>by
   induction j with
   | zero=>intro hj;have:=h 0 (by simp;lia);simpa using this
   | succ j ih=>intro hj;have h3:=h' j hj;have h4:=ih ();grind
  refine Vk.mpr ⟨λy hy=>?_,Ra l h'⟩;obtain⟨j,hj,e⟩:=w6 hy;have:=hd j hj;rw[wa,wc hj]at this
  show y<x
  rw[<- e];exact this
theorem zyv{l:List Rat}(h:l.Pairwise (· > ·))(hi:i+1<l.length):l.getD (i+1) 0<l.getD i 0:=by
 rw[wa,wa,wc hi,wc (show i<l.length by lia)];exact(Wq.mp h) i (i+1) () hi ()
theorem oo(xs:List Rat)(i:Nat):(dr xs).getD (i+1) 0=(xs++[0]).getD i 0:=by
 unfold dr;rw[V1]
 rfl
theorem M6(h:∀i,i<xs.length+1->(dr xs).getD (i+1) 0<(dr xs).getD i 0):gT (xs++[0])/\(xs++[0]).getD 0 0<1:=by
 have pw:(xs++[0]).Pairwise (· > ·):=Ra _ λi hi=>by
  have:=h (i+1) (by simp at hi;lia);rw[oo,oo]at this;exact this
 refine⟨⟨pw,λy hy=>?_⟩,?_⟩
 ·rcases Ws.mp hy with z | z
  ·exact vX ((qO.mp pw).2.2 y z 0 (vi.mpr rfl))
  ·rw[vi.mp z];exact WZ
 ·have:=h 0 ()
  rw[oo]at this;exact this
theorem Se(pw:(xs++[0]).Pairwise (· > ·))(one:(xs++[0]).getD 0 0<1):∀i,i<xs.length+1->(dr xs).getD (i+1) 0<(dr xs).getD i 0
 | 0,_=>by rw[oo];exact one
 | i+1,hi=>by rw[oo,oo];exact zyv pw (by simp;lia)
theorem BS{a:Rat}(h:ns.length=xs.length+1):cH a b ns xs++[0]=aN a b ns (xs++[0]) ns.length:=by
 have hl:=lG (a:=a) (b:=b) h;have hr:(aN a b ns (xs++[0]) ns.length).length=xs.length+1:=by rw[cS];simp
 refine kB (by rw[hr,wT,hl];rfl) λi hi=>?_
 rw[wT,hl]at hi;have hi:i<xs.length+1:=hi;rcases wB i xs.length with z | z
 ·rw[Fz (),Ck h z]
 ·have e:i=xs.length:=by lia
  have e2:(cH a b ns xs++[0]).getD i 0=0:=by rw[e,<- hl];exact rG
  rw[e2,e,h,aN,fo _ _ _ _ _ _ (by rw[cS];simp),if_pos rfl]
theorem NC{a b:Rat}(a0:0<a)(b0:0<=b){ns:List Int}{row:List Rat}(F:gT row)(one:row.getD 0 0<1)(iB:∀t,t<row.length->cY a b ns row t<1):∀i,i<=row.length->gT (turned a b ns row i)
 | 0,_=>F
 | i+1,hi=>by
  have ih:=NC a0 b0 F one iB i ()
  have oi:(aN a b ns row i).getD i 0<1:=by
   cases i with
   | zero=>exact one
   | succ j =>
    have:=iB j ();unfold cY at this;rw[QM ()]at this;exact this
  obtain⟨x,l,ex⟩:∃x l,turned a b ns row i=x::l:=by
   cases e:turned a b ns row i with
   | nil =>
    have:=A8 a b ns row () i;rw[e]at this;simp at this;lia
   | cons x l=>exact⟨x,l,rfl⟩
  have hx:x=(aN a b ns row i).getD i 0:=by
   have:=Fo a b ns row (show i<row.length by lia);rw[ex]at this;exact this
  show gT (mi a b (ns.getD i 0).toNat (turned a b ns row i))
  rw[ex]at ih ⊢;exact ih.step a0 b0 (by rw[hx];exact oi)
theorem ztq{a:Rat}(ok:aO a b)(hn:ns.length=xs.length+1)(f:dQ a b ns xs=true):∀i,i<(cH a b ns xs).length+1->(dr (cH a b ns xs)).getD (i+1) 0<(dr (cH a b ns xs)).getD i 0:=by
 obtain⟨h1,h2⟩:=ER.mp f;obtain⟨F,one⟩:=M6 h1;have hl:(xs++[0]).length=ns.length:=by simp[hn]
 have iB:∀t,t<(xs++[0]).length->cY a b ns (xs++[0]) t<1:=λt ht=>by
  have:=h2 t ();rw[mT ()]at this;unfold cY;rw[hl];exact this
 have Fl:=NC ok.a0 ok.b0 F one iB (xs++[0]).length (wo _);rw[hl,zsR a b ns _ hl.symm,<- BS hn]at Fl;have t:=iB (ns.length-1) ();unfold cY at t;rw[hl,show ns.length-1+1=ns.length by lia,Nat.mod_self,<- BS hn]at t;exact Se Fl.pw t
theorem zw5(c:Rat)(xs:List Rat):fq c xs xs=xs:=kB (nG rfl) λi hi=>by
 rw[nG rfl]at hi;rw[lZ rfl hi]
 grind
def cj(a b:Rat)(ns:List Int)(xs:List Rat)(k:Nat):Bool:=dQ a b ns (cB a b ns k xs)
theorem Ac{a:Rat}(ok:aO a b)(sz:dk ns){k:Nat}(hk:k<=31):eA a b ns k:=⟨ok,sz,by lia,by
 have h1:=sz.sum;have h2:(6*ns.sum.toNat+1+1)*k<=50*k:=Wr k ();lia⟩
theorem Oi{a:Rat}(ok:aO a b)(sz:dk ns)(c:Cm m xs){k:Nat}(hk:k<=31):Cm (m+188+102*k) (cB a b ns k xs):=(zBW (Ac ok sz hk) c).mono (by
 have h1:=sz.sum;have h2:(6*ns.sum.toNat+3)*k<=51*k:=Wr k ();lia)
theorem OY{a:Rat}(ok:aO a b)(sz:dk ns)(hn:ns.length=xs.length+1)(c:Cm m xs)(hm:m<=74000){k:Nat}(hk:k<=30):cQ a b ns (cB a b ns k xs):=⟨ok.ba,ok.bb,λn hn=>by have:=sz.each n hn;lia,by rw[dE];exact hn,by have:=sz.b8;lia,⟨_,Oi ok sz c (),by have:=sz.b8;have:=sz.upTo;lia⟩⟩
def Fq(K:wb)(a:Ad):Sp:=λvs H Q E=>∃x0 x1 x2,vs=[x0,x1,x2] /\ ∃(ra rb:Rat)(ns:List Int)(xs:List Rat),Is K H x0 (R ra rb)/\Is K H x1 (TZ ns)/\Is K H x2 (TN xs)/\aO ra rb/\dk ns/\ns.length=xs.length+1/\cQ ra rb ns xs/\(eG ra rb ns xs=false->∃n:Nat,n<=30/\(n=30\/cj ra rb ns xs n=false)/\(∀k,k<=n->cQ ra rb ns (cB ra rb ns k xs))/\(∀k,k<n->∀j,af 138000 ((cB ra rb ns k xs).getD j 0))) /\
 (cj ra rb ns xs 0=false->Rq H Q (.int 0)) /\
 (cj ra rb ns xs 0=true->eG ra rb ns xs=true->Rq H Q .bC) /\
 (∀c:Nat,1<=c->c<=30->eG ra rb ns xs=false->(∀k,k<c->cj ra rb ns xs k=true)->cj ra rb ns xs c=false->Rq H Q (.int (c:Int))) /\
 (eG ra rb ns xs=false->(∀k,k<=30->cj ra rb ns xs k=true)->∀H',aj H H'->E (.ref a.cN) none H')
theorem zly{v w:V}(h1:Is K H v (R ra rb))(h2:Is K H w (TZ ns))(h3:Is K H u (TN xs))(ok:aO ra rb)(sz:dk ns)(hn:ns.length=xs.length+1)(r0:cQ ra rb ns xs)(hb:eG ra rb ns xs=false->∃n:Nat,n<=30/\(n=30\/cj ra rb ns xs n=false)/\(∀k,k<=n->cQ ra rb ns (cB ra rb ns k xs))/\(∀k,k<n->∀j,af 138000 ((cB ra rb ns k xs).getD j 0)))
  (q0:cj ra rb ns xs 0=false->Rq H Q (.int 0))
  (q1:cj ra rb ns xs 0=true->eG ra rb ns xs=true->Rq H Q .bC)
  (q2:∀c:Nat,1<=c->c<=30->eG ra rb ns xs=false->(∀k,k<c->cj ra rb ns xs k=true)->cj ra rb ns xs c=false->Rq H Q (.int (c:Int)))
  (q3:eG ra rb ns xs=false->(∀k,k<=30->cj ra rb ns xs k=true)->∀H',aj H H'->E (.ref a.cN) none H'):Fq K a [v,w,u] H Q E:=⟨_,_,_,rfl,ra,rb,ns,xs,h1,h2,h3,ok,sz,hn,r0,hb,q0,q1,q2,q3⟩
theorem zm7{v w:V}(h1:Is K H v (R ra rb))(h2:Is K H w (TZ ns))(h3:Is K H u (TN xs))(ok:aO ra rb)(sz:dk ns)(hn:ns.length=xs.length+1)(c:Cm m xs)(hm:m<=74000)
  (q0:cj ra rb ns xs 0=false->Rq H Q (.int 0))
  (q1:cj ra rb ns xs 0=true->eG ra rb ns xs=true->Rq H Q .bC)
  (q2:∀c:Nat,1<=c->c<=30->eG ra rb ns xs=false->(∀k,k<c->cj ra rb ns xs k=true)->cj ra rb ns xs c=false->Rq H Q (.int (c:Int)))
  (q3:eG ra rb ns xs=false->(∀k,k<=30->cj ra rb ns xs k=true)->∀H',aj H H'->E (.ref a.cN) none H'):Fq K a [v,w,u] H Q E :=
 zly h1 h2 h3 ok sz hn (by have:=OY ok sz hn c hm (k:=0) ⋯;rw[oQ]at this;exact this) (λ_=>⟨30,wo 30,.inl rfl,λk hk=>OY ok sz hn c hm hk,λk hk j=>((Oi ok sz c (k:=k) ()).get j).mono ()⟩) q0 q1 q2 q3
theorem zms(T:Txt P K mg a):aJ P w K mg base (eO P w) 11 a.Hi a.Gw tG (Fq K a):=by
 refine T.GB.F.pY pb ?_ ?_;wtm_at "b3"
 refine⟨_,(ak (bE (dZ (di (ar (Ci T) hr T.sj (q3 0 1 2)))) (au (aE av)) bN)
     (ak (bE (di (ar (znI T) hr T.GZ (q3 0 1 2))) (au (aE j5)) bN)
     (ak (ay 3 pb.nd (ar (p9 T) hr T.mF (q2 0 1)))
     (ak (ay 4 pb.nd (pv 2))
     (ak (fE uE rfl (zwg rfl T.h0L (ae av (ae (aB bZ (pV rfl T.Yq) av) ah))) (dh (i:=5) pb.nd rfl (Or.inl rfl)) (ak (ay 4 pb.nd (ar (Rh T) hr T.AZ (ae (pv 3) (ae (pv 4) (ae av ah)))))
     (au (bE (dZ (di (ar (Ci T) hr T.sj (q3 0 1 4)))) (au (aE (pv 5))) bN))))
     (au (Nl T.YF rfl rfl T.Ih JV (ae cv ah)))))))),?_⟩
 wtm_at "cl";rw[show start Tw [x0,x1,x2]=[some x0,some x1,some x2,none,none,none]from rfl];obtain⟨ra,rb,ns,xs,hr',hn',hx',ok,sz,hn,r0,hb,q0,q1,q2,q3⟩:=h;have h8:=sz.b8;have h1:=sz.some;have hps:=sz.pos;have e0:cj ra rb ns xs 0=dQ ra rb ns xs:=by unfold cj;rw[oQ]
 o_head Dz hr' hn' hx' r0 (λH1 S1=>?_);k_few
 . rename_i z
   exact q0 (by rw[e0];exact z) H1 S1
 . rename_i z
   have hr1:=hr'.by S1;have hn1:=hn'.by S1;have hx1:=hx'.by S1;refine znJ hr1 hn1 hx1 ok sz (λH2 S2=>?_);k_few
   . rename_i y
     exact q1 (by rw[e0];exact z) y H2 (S1.trans S2)
   . rename_i y
     have y:eG ra rb ns xs=false:=by first | exact y | exact u3 _ ▸ y
     obtain⟨n,n30,stop,rd,bd⟩:=hb y;refine rQ (hr1.by S2) (hn1.by S2) (nD ok sz) () () (λv3 H3 S3 i3=>?_);have T3:aj H H3:=S1.trans (S2.trans S3);have hr3:=hr'.by T3;have hn3:=hn'.by T3;have hx3:=hx'.by T3;clear hr1 hn1 hx1 S1 S2 S3;o_head zyj ?_;o_head zsl (lo:=1) (hi:=31) ⋯ ⋯ ⋯ ⋯ (λi σ H'=>∃(v:V)(o:Option V),σ = [some x0,some x1,some x2,some v3,some v,o]/\aj H3 H'/\Is K H' v (TN (cB ra rb ns i xs)) /\ ∀k,k<=i->cj ra rb ns xs k=true) ⟨_,_,rfl,aj.refl _,by rw[oQ];exact hx3,λk hk=>by rw[show k=0 by lia,e0];exact z⟩ ?_ ?_
     . rintro i σ H4 hi ⟨v,o,rfl,S4,iv,fr⟩
       have hi:i<30:=hi;have i34:=i3.by S4
       have hin:i<n:=by
         rcases stop with e | e
         . lia
         . rcases wB i n with u | u
           . exact u
           . rw[fr n u]at e;cases e
       o_head RO (ss:=dj ra rb ns) i34 iv ⋯ ⋯ (by rw[oK h1,dE];lia) (by rw[dE];lia) ((j6 ok _).mono (by have:=sz.sum;lia)) (λj hj=>((Ac ok sz (k:=1) ⋯).pow hj).mono ⋯) (λj hj=>((Ac ok sz (k:=1) ⋯).aC hj).mono ⋯) (λj=>bd i hin j) (λj=>(Dk ok sz j).mono ⋯) (λv5 H5 S5 i5=>?_);have i5:Is K H5 v5 (TN (cB ra rb ns 1 (cB ra rb ns i xs))):=i5;rw[NV]at i5;have T5:=S4.trans S5;o_head Dz (hr3.by T5) (hn3.by T5) i5 (rd (i+1) ()) (λH6 S6=>?_);have T6:=T5.trans S6;k_few
       . rename_i w
         have q:=q2 (i+1) () () y (λk hk=>fr k ()) (by unfold cj;exact w) H6 (T3.trans T6);rw[show((i+1:Nat):Int)=1+(i:Int) by lia]at q;exact q
       . rename_i w
         refine⟨_,_,rfl,T6,i5.by S6,λk hk=>?_⟩;rcases wB k (i+1)with u | u
         . exact fr k ()
         . have:k=i+1:=by lia
           subst this;unfold cj
           first | exact w | exact Bool.not_eq_false _ ▸ w
     . rintro σ H4 ⟨v,o,rfl,S4,iv,fr⟩
       k_few;exact⟨by simp;decide,q3 y (λk hk=>fr k hk) H4 (T3.trans S4)⟩
theorem Am{a:Rat}(ok:aO a b)(L:fi xs (ps++[0]) fl ns)(hn:ns.length=ps.length+1)(f:dQ a b ns ps=true) :
  fi (ai a b xs ns.length) (cH a b ns ps++[0]) fl ns/\(∀t,t<ns.length->bS a b (ai a b xs t)=[bj xs.length fl t])/\aT a b xs ns.length=eY a b ns ps:=by
 have hl:(ps++[0]).length=ns.length:=by simp[hn]
 have iB:∀t,t<(ps++[0]).length->cY a b ns (ps++[0]) t<1:=λt ht=>by
  have:=(ER.mp f).2 t ();rw[mT ()]at this;unfold cY;rw[hl];exact this
 obtain⟨P,F,_,W⟩:=pI ok.a0 ok.b0 L _ (wo _) iB;have ht:=O9 ok.a0 ok.b0 L _ (wo _) iB;rw[hl]at P W ht;rw[<- BS hn]at P;have st:=M6 (ztq ok hn f);have hbl:=lG (a:=a) (b:=b) hn;have hbl2:(cH a b ns ps++[0]).length=(ps++[0]).length:=by simp[hbl]
 have hpl:=a_ a b xs ns.length;refine⟨⟨P,st.1,st.2,by rw[hbl2];exact L.len,λc hc=>?_,λc hc=>?_⟩,W,?_⟩
 ·rw[hpl];exact L.some c ()
 ·rw[hpl];exact L.size c ()
 ·rw[ht];rfl
theorem yV{a b:Rat}(ok:aO a b){xs ps:List Rat}{fl:Nat->Nat}{ns:List Int}(L:fi xs (ps++[0]) fl ns)(hn:ns.length=ps.length+1)(n0:∀n∈ns,0<=n):∀k,(∀j,j<k->cj a b ns ps j=true) ->
  fi (ai a b xs (k*ns.length)) (cB a b ns k ps++[0]) fl ns/\aT a b xs (k*ns.length)=rP a b ns ps k
 | 0,_=>by
  rw[xN,oQ];exact⟨L,rfl⟩
 | k+1,h=>by
  obtain⟨Lk,Hk⟩:=yV ok L hn n0 k λj hj=>h j ()
  have hl:ns.length=(cB a b ns k ps).length+1:=by rw[dE];exact hn
  obtain⟨L1,_,H1⟩:=Am ok Lk hl (h k ());rw[fb,<- BO hl n0,NV]at L1;have e:(k+1)*ns.length=k*ns.length+ns.length:=Q0 ..;rw[e];refine⟨L1,?_⟩;rw[<- nz,Hk,H1]
  rfl
theorem NH{a b:Rat}(a0:0<a)(b0:0<=b){xs row:List Rat}{fl:Nat->Nat}{ns:List Int}(L:fi xs row fl ns):∀n,n<=row.length->(¬ ∀t,t<n->cY a b ns row t<1)->∃t,t<n/\1<(bS a b (ai a b xs t)).length
 | 0,_,z=>absurd (λt ht=>by lia) z
 | n+1,hn,z=>by
  by_cases y:∀t,t<n->cY a b ns row t<1
  ·refine⟨n,by lia,JQ a0 b0 L () y (λu=>z λt ht=>?_)⟩
   rcases wB t n with k | k
   ·exact y t k
   ·have:t=n:=by lia
    rw[this];exact u
  ·obtain⟨t,h1,h2⟩:=NH a0 b0 L n () y
   exact⟨t,by lia,h2⟩
theorem Od{a:Rat}(ok:aO a b)(L:fi xs (ps++[0]) fl ns)(hn:ns.length=ps.length+1)(f:dQ a b ns ps=false):∃t,t<ns.length/\1<(bS a b (ai a b xs t)).length:=by
 have hl:(ps++[0]).length=ns.length:=by simp[hn]
 refine NH ok.a0 ok.b0 L ns.length () λz=>?_
 have:dQ a b ns ps=true:=ER.mpr ⟨Se L.sQ.pw L.one,λi hi=>by
  have:=z i hi;unfold cY at this;rw[hl]at this;rw[mT hi];exact this⟩
 rw[f]at this;cases this
theorem CW{row:List Rat}(L:fi xs row fl ns)(hn:xs.length=n):((wq n).map λw=>row.getD (fl w) 0)=xs:=by
 refine kB (by simp[hn]) λw hw=>?_
 have hw:w<n:=by simpa using hw
 rw[L.pl.at' w (),wa,wx,Wm hw]
 rfl
theorem Dc(h1:1<=xs.length)(h8:xs.length<=8):dk (aX xs):=by
 have hs:=yF xs;have hv:=jZ xs;have hp:=ly h1;refine⟨by lia,by lia,λn hn=>?_,?_⟩
 ·have h2:=zsj xs n hn
  refine⟨?_,by lia⟩;obtain⟨v,hv,rfl⟩:=wU.mp hn;have hm:=iI hv;obtain⟨j,hj,e⟩:=w6 hm;have:j∈fQ xs v:=vj.mpr ⟨wF.mpr hj,decide_eq_true (by rw[wa,wc hj];exact e)⟩;have:=VG this;lia
 ·have h3:=LM xs
  have:=tT (zq xs);lia
def kr(a b:Rat)(xs:List Rat)(r:Nat):Prop:=∀k,k<r->cj a b (aX xs) (bP xs) k=true
structure gA(a b:Rat)(xs:List Rat):Prop where
 ok:aO a b
 h1:1<=xs.length
 h8:xs.length<=8
 hp:cn xs
 h0:0∈xs
 cm:Cm 72000 xs
theorem gA.round{a:Rat}(h:gA a b xs):cQ a b (aX xs) (bP xs)/\dk (aX xs)/\(aX xs).length=(bP xs).length+1:=by
 have hz:bP xs++[0]=ag xs:=FE h.hp h.h0;have h8:=h.h8;have sz:=Dc h.h1 h8;have hsl:=yF xs;have hvl:=jZ xs;have hsu:=OQ xs;have hpl:(bP xs).length+1=(ag xs).length:=by rw[<- hz];simp
 refine⟨⟨h.ok.ba,h.ok.bb,λn hn=>by have:=sz.each n hn;lia,by lia,by lia,⟨72000,zG h.cm,by lia⟩⟩,sz,by lia⟩
def Lo(K:wb):Sp:=λvs H Q _=>∃x0 x1,vs=[x0,x1] /\ ∃(a b:Rat)(xs:List Rat)(r:Nat),x1=.int (r:Int)/\Is K H x0 (bo a b xs)/\gA a b xs/\r<=30/\kr a b xs r/\Rs K H Q (BD a b xs (r*(ag xs).length))
theorem By{a:Rat}{v:V}(h:Is K H v (bo a b xs))(ok:gA a b xs)(h30:r<=30)(f:kr a b xs r)(q:Rs K H Q (BD a b xs (r*(ag xs).length))):Lo K [v,.int (r:Int)] H Q E:=⟨_,_,rfl,a,b,xs,r,rfl,h,ok,h30,f,q⟩
theorem EC{K:wb}{H:Hp} : ∀{xs:List Rat}{us:List V},ao K H us (xs.map N)->∃cs:List wg,us=cs.map V.ref
 | [],us,h=>⟨[],gc.mp h⟩
 | x::xs,us,h=>by
  obtain⟨v,r,rfl,iv,t⟩:=dH.mp h;obtain⟨a,_,rfl,_,_⟩:=bQ.mp (show Is K H v (.tuple _)from iv);obtain⟨cs,rfl⟩:=EC t;exact⟨a::cs,rfl⟩
def fM(x:Rat):List Int:=[x.num,(x.den:Int)]
theorem Z0(h:fM x=fM y):x=y:=by
 unfold fM at h
 injection h with h1 h2
 injection h2 with h2 _
 exact UA h1 ()
theorem zsz(h:xs.Nodup):(xs.map fM).Nodup:=by
 unfold Us at *;rw[V3];exact h.imp λ{a b} n e=>n (Z0 e)
theorem Nq(h:j<xs.length):(xs.map fM).getD j []=fM (xs.getD j 0):=by
 rw[wa,wx,wa,wc h]
 rfl
theorem zvN{ks:List (List Int)}{us ws:List wg}(nd:ks.Nodup)(hl:ks.length=us.length)(hj:j<us.length):lD (gr ks us ws) (ks.getD j [])=some (ws.getD j 0):=by
 unfold lD gr;rw[List.find?_map];have pw:=Wq.mp nd;cases e:(wq us.length).find? ((λx:NE=>decide (x.1=ks.getD j [])) ∘ λj=>(ks.getD j [],us.getD j 0,ws.getD j 0))with
 | none =>
  have:=List.find?_eq_none.mp e j (wF.mpr hj);simp at this
 | some i =>
  have hm:=wF.mp (xG e);have hp:=Ut e;have hp:ks.getD i []=ks.getD j []:=of_decide_eq_true hp;have hi:i<ks.length:=by lia
  have hj':j<ks.length:=by lia
  rw[wa,wa,wc hi,wc hj']at hp
  have hij:i=j:=by
   rcases W1 i j with z | z | z
   ·exact absurd hp (pw i j hi hj' z)
   ·exact z
   ·exact absurd hp.symm (pw j i hj' hi z)
  rw[hij];rfl
theorem zvu{cs ws:List wg}(t:ao K H (cs.map V.ref) (xs.map N)):zr K H (gr (xs.map fM) cs ws):=by
 intro x hx;obtain⟨j,hj,rfl⟩:=wU.mp hx;have hj:=wF.mp hj;have hl:=t.length;simp only[wm]at hl;have:=(dB t (i:=j) (x:=.ref (cs.getD j 0)) (by rw[wx,wa,wc hj];rfl)).2
 show Is K H (.ref (cs.getD j 0)) (TZ ((xs.map fM).getD j []))
 rw[Nq ()];exact this
theorem JS(T:Txt P K mg a):aJ P w K mg base aR 9 a.GF a.Gi yc (Lo K):=by
 refine T.AK.F.ok rk ?_ ?_;wtm_at "b2"
 refine⟨_,(ak (ay 2 rk.nd (lH (B2 T) hr T.sH CY (q1 0)))
     (ak (ay 3 rk.nd (ar (zjT T) hr T.Gq (by exact(@ae _ _ _ _ _ (qi 0) (@ae _ _ _ _ _ (qi 2) (@ae _ _ _ _ _ (qi 2) (@ae _ _ _ _ _ (pv 1) ah dY) iX) iX) iX))))
     (ak (ay 4 rk.nd (zwQ rfl (WC (qq ⋯ _) hu) rfl T.h0R rfl T.h0X (ae (aB (show bL _ (Ve .Add) (zV K)from Mm) (qi 2) (aY (ae (br (v:=.ref a.cV) rfl T.dN rfl) ah))) (ae (aB (show bL _ (Ve .Add) (zV K)from Mm) (pv 3) (aY (ae (br (v:=.ref a.cV) rfl T.dN rfl) ah))) ah))))
     (ak (ay 5 rk.nd (d9 K T.h0O (ae (eC rfl (cW ["phase","now"] [none,some 4]) (jD (qi 0)) (λ_ _ _ _ _=>(cC 0)) (λ_ _ _ _ _=>eI) (λ_ _ _ _ _=>(show PE _ _ (DL K _ _)from(zyM (by exact(WC (qq ⋯ _) hu)) (pv 1) (pv 0) (λ_ _=>rfl))))) ah)))
     (au (aE (aY (ae (ar (zmS T) hr T.GR (by exact(@ae _ _ _ _ _ (qi 0) (@ae _ _ _ _ _ (qi 2) (@ae _ _ _ _ _ (qi 2) (@ae _ _ _ _ _ (pv 1) ah dY) iX) iX) iX))) (ae (aY (ae (qi 0) (q1 5))) ah))))))))),?_⟩
 wtm_at "cl";rw[show start O7 [x0,x1]=[some x0,some x1,none,none,none,none]from rfl];obtain⟨ra,rb,xs,r,rfl,hw,ok,h30,fr,q⟩:=h;have hz:bP xs++[0]=ag xs:=FE ok.hp ok.h0;have h1:=ok.h1;have h8:=ok.h8;have sz:=Dc h1 h8;have hsl:=yF xs;have hvl:=jZ xs;have hvp:=ly h1;have hpl:(bP xs).length+1=(ag xs).length:=by rw[<- hz];simp
 have hn:(aX xs).length=(bP xs).length+1:=by lia
 have L:fi xs (bP xs++[0]) (aK xs) (aX xs):=by rw[hz];exact Ce ok.hp.nn ok.hp.lt
 obtain⟨Lr,Hr⟩:=yV ok.ok L hn (zq xs) r fr;rw[hsl]at Lr Hr;have hel:=CW Lr (a_ ra rb xs _);have bx:∀i,af 80000 (xs.getD i 0):=λi=>(ok.cm.get i).mono ⋯
 have cp:Cm 72000 (bP xs):=zG ok.cm;have hlk:eA ra rb (aX xs) ((r:Int)).toNat:=by rw[wY];exact Ac ok.ok sz ()
 have hbp:∀i,af 138000 ((bP xs).getD i 0):=λi=>(cp.get i).mono ⋯
 o_head CF hw h8 bx (λz=>absurd ok.h0 z) (λ_ vl H1 S1 il=>?_);have hw1:=hw.by S1;o_head aF (j:=0) hw1 rfl (λvr ir=>?_);o_head aF (j:=0) il rfl (λvz iz=>?_);o_head aF (j:=1) il rfl (λvp ip=>?_);o_head zj6 ir iz ip hn () hlk hbp (λv2 H2 S2 i2=>?_);rw[wY]at i2;o_head aF (j:=1) (il.by S2) rfl (λvp2 ip2=>?_);o_head cg (ds:=[N 0]) ∅ (.cons (dU 0 (T.eJ _) rfl rfl) .nil) (λv3 H3 S3 i3=>?_);refine RD (ip2.by S3) i3 (by rw[wm];simp;lia) (λv4 H4 S4 i4=>?_);o_head cg (ds:=[N 0]) ∅ (.cons (dU 0 (T.eJ _) rfl rfl) .nil) (λv5 H5 S5 i5=>?_);have S25:=S3.trans (S4.trans S5);refine RD (i2.by S25) i5 (by rw[wm,dE];simp;lia) (λv6 H6 S6 i6=>?_)
 have i46:Is K H6 v4 (TN (ag xs)):=by
   have:=i4.by (S5.trans S6);rw[<- hz];unfold TN;rw[vQ];exact this
 have i66:Is K H6 v6 (TN (cB ra rb (aX xs) r (bP xs)++[0])):=by
   unfold TN;rw[vQ];exact i6
 have S16:=S2.trans (S25.trans S6);have hw6:=hw1.by S16;have il6:=il.by S16;have T6:=S1.trans S16;clear hw hw1 il ir iz ip i2 ip2 i3 i4 i5 i6 S1 S2 S3 S4 S5 S6 S25 S16;have hrl:(cB ra rb (aX xs) r (bP xs)++[0]).length=(ag xs).length:=by rw[wT,dE];simp;lia
 generalize cB ra rb (aX xs) r (bP xs)++[0]=row at *;obtain⟨aa,us,rfl,hs1,tu⟩:=bQ.mp i46;obtain⟨ab,ws,rfl,hs2,tw⟩:=bQ.mp i66;obtain⟨cs,rfl⟩:=EC tu;obtain⟨ds,rfl⟩:=EC tw;have hcl:=tu.length;have hdl:=tw.length;simp only[wm]at hcl hdl;have nd:=zsz (DT xs);have hkl:((ag xs).map fM).length=cs.length:=by rw[wm];lia
 o_head ⟨aa,ab,(ag xs).map fM,cs,ds,rfl,hs1,hs2,by lia,by lia,?_,nd,λD ep hD=>?_⟩
 . rw[WD]
   exact tu
 . have S7:aj H6 (upd H6 D (ik D ep (gr ((ag xs).map fM) cs ds))):=aj.upd hD
   have e7:upd H6 D (ik D ep (gr ((ag xs).map fM) cs ds)) D=some (ik D ep (gr ((ag xs).map fM) cs ds)):=cA;generalize upd H6 D (ik D ep (gr ((ag xs).map fM) cs ds))=H7 at *;have tu7:ao K H7 (cs.map V.ref) ((ag xs).map N):=ao.same S7 _ _ tu;have tw7:ao K H7 (ds.map V.ref) (row.map N):=ao.same S7 _ _ tw;have hw7:=hw6.by S7;o_head aF (j:=1) hw7 rfl (λvq iq=>?_);obtain⟨aq,uq,rfl,hsq,tq⟩:=bQ.mp iq;have hql:=tq.length;rw[wm]at hql;refine jC hsq (o0:=none) (tl:=[some (.ref D)]) rfl (λj y H'=>Is K H' y (N (((wq xs.length).map λw=>row.getD (aK xs w) 0).getD j 0))) ?_ ?_
   . intro D' j x ys o H8 hx inv
     obtain⟨hj,ix⟩:=dB tq hx;have S8:=inv.same;obtain⟨ax,_,rfl,_,_⟩:=bQ.mp (show Is K H7 x (.tuple _)from ix);have hfl:=(kA xs).lt j hj;have hxe:xs.getD j 0=(ag xs).getD (aK xs j) 0:=(kA xs).at' j hj;o_head ⟨D,ax,ep,_,fM (xs.getD j 0),ds.getD (aK xs j) 0,rfl,rfl,S8 _ _ e7,zvu (ao.same S8 _ _ tu7),ix.by S8,?_,?_⟩
     . rw[hxe,<- Nq hfl]
       exact zvN nd hkl ()
     . refine eU inv () gM ⟨_,rfl⟩ (aj.refl _) ?_
       have hr:((wq xs.length).map λw=>row.getD (aK xs w) 0).getD j 0=row.getD (aK xs j) 0:=by
         rw[wa,wx,Wm hj];rfl
       rw[hr];exact(dB tw7 (i:=aK xs j) (x:=.ref (ds.getD (aK xs j) 0)) (by rw[wx,wa,wc ()];rfl)).2.by S8
   . intro D' ys H8 n8 S8 e8 hl8 hr8
     have t8:ao K H8 ys (((wq xs.length).map λw=>row.getD (aK xs w) 0).map N):=gI (by rw[hl8,hql];simp) hr8;rw[hel]at t8;o_head gx (dC e8 t8) (λv9 H9 S9 i9=>?_);have S69:=S7.trans (S8.trans S9);o_head aF (j:=0) (hw6.by S69) rfl (λvr9 ir9=>?_);o_head aF (j:=0) (il6.by S69) rfl (λvz9 iz9=>?_);o_head aF (j:=1) (il6.by S69) rfl (λvp9 ip9=>?_);k_few
     refine zmC ir9 iz9 ip9 hn () hlk cp (by
       have h5:=sz.sum;rw[wY];have:(6*(aX xs).sum.toNat+3)*r<=51*30:=qd () h30;lia) (λv10 H10 S10 i10=>?_)
     rw[wY,<- Hr]at i10;o_head aF (j:=0) (hw6.by (S69.trans S10)) rfl (λvr10 ir10=>?_);o_head cg (ds:=[R ra rb,TN (ai ra rb xs (r*(ag xs).length))]) ∅ (.cons ir10 (.cons (i9.by S10) .nil)) (λv11 H11 S11 i11=>?_);o_head cg (ds:=[N (aT ra rb xs (r*(ag xs).length)),bo ra rb (ai ra rb xs (r*(ag xs).length))]) ∅ (.cons (i10.by S11) (.cons i11 .nil)) (λv12 H12 S12 i12=>?_);exact q v12 H12 (T6.trans (S69.trans (S10.trans (S11.trans S12)))) i12
def MV(K:wb):Sp:=λvs H Q _=>∃x0 x1 x2,vs=[x0,x1,x2] /\ ∃(a b:Rat)(xs:List Rat)(r g:Nat),x1=.int (r:Int)/\x2=.int (g:Int)/\Is K H x0 (bo a b xs)/\aO a b/\1<=xs.length/\xs.length<=8/\(1<=r->gA a b xs/\r<=30/\kr a b xs r)/\g<=40/\af 160000 (aT a b xs (r*(ag xs).length))/\(∀i,i<=g->Cm 74000 (aT a b (ai a b xs (r*(ag xs).length)) i::ai a b (ai a b xs (r*(ag xs).length)) i))/\Rs K H Q (BD a b xs (r*(ag xs).length+g))
theorem ZZ{a:Rat}{g:Nat}{v:V}(h:Is K H v (bo a b xs))(ok:aO a b)(h1:1<=xs.length)(h8:xs.length<=8)(f:1<=r->gA a b xs/\r<=30/\kr a b xs r)(hg:g<=40)(c:af 160000 (aT a b xs (r*(ag xs).length)))(c2:∀i,i<=g->Cm 74000 (aT a b (ai a b xs (r*(ag xs).length)) i::ai a b (ai a b xs (r*(ag xs).length)) i))(q:Rs K H Q (BD a b xs (r*(ag xs).length+g))):MV K [v,.int (r:Int),.int (g:Int)] H Q E:=⟨_,_,_,rfl,a,b,xs,r,g,rfl,rfl,h,ok,h1,h8,f,hg,c,c2,q⟩
theorem znt(T:Txt P K mg a):aJ P w K mg base aR 10 a.HE a.GC yJ (MV K):=by
 refine T.GU.F.ok Ba ?_ ?_;wtm_at "b3"
 refine⟨_,(ak (ay 3 Ba.nd (zH (d8 mD (pv 1) av (du _)) (ar (JS T) hr T.AK (q2 0 1)) (aY (ae (br (v:=.ref a.cV) rfl T.dN rfl) (q1 0)))))
     (ak (ay 4 Ba.nd (ar (zvk T) hr T.Iy (ae (qi 3) (q1 2))))
     (au (aE (aY (ae (ar (gB T) hr T.fU (ae (qi 3) (ae (qi 4) ah))) (ae (qi 4) ah))))))),?_⟩
 wtm_at "cl";rw[show start ML [x0,x1,x2]=[some x0,some x1,some x2,none,none]from rfl];obtain⟨ra,rb,xs,r,g,rfl,rfl,hw,ok,h1,h8,f,hg,c,c2,q⟩:=h;k_few
 . rename_i z
   obtain⟨sw,h30,fr⟩:=f ();refine By hw sw h30 fr (λv1 H1 S1 i1=>?_);o_head aF (j:=1) i1 rfl (λv2 i2=>?_);o_head Nk i2 ok.ba ok.bb (by rw[a_];exact h1) (by rw[a_];exact h8) () () (by rw[wY];exact c2) (λv3 H3 S3 i3=>?_);rw[wY]at i3;have i13:=i1.by S3;o_head aF (j:=0) i13 rfl (λv4 i4=>?_);o_head aF (j:=0) i3 rfl (λv5 i5=>?_);have b5:af 74000 (aT ra rb (ai ra rb xs (r*(ag xs).length)) g):=(c2 g (wo _)).f_ (wD ..);k_few;rename_i v6 H6 S6 i6;refine aF (j:=1) (i3.by S6) rfl (λv7 i7=>?_);k_few;rw[nz]at i6;rw[fb]at i7;refine cg (ds:=[N (aT ra rb xs (r*(ag xs).length+g)),bo ra rb (ai ra rb xs (r*(ag xs).length+g))]) ∅ (.cons i6 (.cons i7 .nil)) (λv8 H8 S8 i8=>?_);exact q v8 H8 (S1.trans (S3.trans (S6.trans S8))) i8
 . rename_i z
   have hr0:r=0:=by lia
   refine cg (ds:=[N 0,bo ra rb xs]) ∅ (.cons (dU 0 (T.eJ _) rfl rfl) (.cons hw .nil)) (λv1 H1 S1 i1=>?_);have i1:Is K H1 v1 (BD ra rb xs (r*(ag xs).length)):=by rw[hr0,xN];exact i1
   o_head aF (j:=1) i1 rfl (λv2 i2=>?_);o_head Nk i2 ok.ba ok.bb (by rw[a_];exact h1) (by rw[a_];exact h8) () () (by rw[wY];exact c2) (λv3 H3 S3 i3=>?_);rw[wY]at i3;have i13:=i1.by S3;o_head aF (j:=0) i13 rfl (λv4 i4=>?_);o_head aF (j:=0) i3 rfl (λv5 i5=>?_);have b5:af 74000 (aT ra rb (ai ra rb xs (r*(ag xs).length)) g):=(c2 g (wo _)).f_ (wD ..);k_few;rename_i v6 H6 S6 i6;refine aF (j:=1) (i3.by S6) rfl (λv7 i7=>?_);k_few;rw[nz]at i6;rw[fb]at i7;refine cg (ds:=[N (aT ra rb xs (r*(ag xs).length+g)),bo ra rb (ai ra rb xs (r*(ag xs).length+g))]) ∅ (.cons i6 (.cons i7 .nil)) (λv8 H8 S8 i8=>?_);exact q v8 H8 (S1.trans (S3.trans (S6.trans S8))) i8
def c_(a b:Rat)(xs:List Rat):Option String :=
 if(ag xs).length=1 then some "one"
 else if dQ a b (aX xs) (bP xs)=true then
  if cH a b (aX xs) (bP xs)=bP xs then some "rests"
  else if a<1/\rh a b (aX xs)=true then some "drawn" else none
 else none
def R7:Option String->V
 | none=>.bC
 | some s=>.str (wH s)
def Ol(K:wb):Sp:=λvs H Q _=>∃x0,vs=[x0] /\ ∃(a b:Rat)(xs:List Rat),Is K H x0 (bo a b xs)/\gA a b xs/\Rq H Q (R7 (c_ a b xs))
theorem zts{a:Rat}{v:V}(h:Is K H v (bo a b xs))(ok:gA a b xs)(q:Rq H Q (R7 (c_ a b xs))):Ol K [v] H Q E:=⟨_,rfl,a,b,xs,h,ok,q⟩
theorem ztf(T:Txt P K mg a):aJ P w K mg base aR 10 a.IP a.Hw yY (Ol K):=by
 refine T.HS.F.ok JT ?_ ?_;wtm_at "b1"
 refine⟨_,(ak (bE (eF K hu (ee K T.h0S (ae (ar (Bu T) hr T.sv (q1 0)) ah)) av) (au (aE cv)) bN)
     (ak (bE (dZ (di (ar (M7 T) hr T.AW (q1 0)))) (au (aE j5)) bN)
     (ak (ay 1 JT.nd (lH (B2 T) hr T.sH CY (q1 0)))
     (ak (bE (dZ (di (ar (Ci T) hr T.sj (ae (qi 0) (ae (qi 1) (ae (qi 1) ah)))))) (au (aE j5)) bN)
     (ak (bE (eF K hu (ar (L8 T) hr T.AL (ae (qi 0) (ae (qi 1) (ae (qi 1) ah)))) (qi 1)) (au (aE cv)) bN)
     (ak (bE (PW.pt (q_ (eF K hu (ar (Ew T) hr T.sM (ae (qi 0) ah)) cv) (pL (di (ar (M8 T) hr T.AM (ae (qi 0) (ae (qi 1) ah))))))) (au (aE cv)) bN)
     (au (aE j5)))))))),?_⟩
 wtm_at "cl";rw[show start PL [x0]=[some x0,none]from rfl];obtain⟨ra,rb,xs,hw,ok,q⟩:=h;obtain⟨rok,sz,hn⟩:=ok.round;have h8:=ok.h8;have bx:∀i,af 80000 (xs.getD i 0):=λi=>(ok.cm.get i).mono ⋯
 have bp:∀i,af 80000 ((bP xs).getD i 0):=λi=>((zG ok.cm).get i).mono ⋯
 unfold c_ at q;o_head Cr hw h8 bx (λlf H1 us1 n1 S1 e1 t1=>?_);have hul:=t1.length;rw[wm]at hul;have hw1:=hw.by S1;o_head iu (.of e1) ?_;rw[hul];k_few
 . rename_i z
   have z:(ag xs).length=1:=by lia
   rw[if_pos z]at q;exact q _ S1
 . rename_i z
   have z:¬ (ag xs).length=1:=by lia
   rw[if_neg z]at q;refine Lp hw1 ?_;rw[decide_eq_true ok.h0];o_head CF hw1 h8 bx (λz=>absurd ok.h0 z) (λ_ vl H2 S2 il=>?_);have hw2:=hw1.by S2;o_head aF (j:=0) hw2 rfl (λvr ir=>?_);o_head aF (j:=0) il rfl (λvz iz=>?_);o_head aF (j:=1) il rfl (λvp ip=>?_);o_head Dz ir iz ip rok (λH3 S3=>?_);have T3:=S1.trans (S2.trans S3);have hw3:=hw2.by S3;have il3:=il.by S3;clear hw hw1 hw2 il ir iz ip S1 S2 S3 e1 t1 n1;k_few
   . rename_i y
     rw[if_neg (by rw[y];decide)]at q;exact q _ T3
   . rename_i y
     rw[if_pos y]at q;refine aF (j:=0) hw3 rfl (λvr ir=>?_);o_head aF (j:=0) il3 rfl (λvz iz=>?_);o_head aF (j:=1) il3 rfl (λvp ip=>?_);o_head RU ir iz ip rok (λv4 H4 S4 i4=>?_);o_head aF (j:=1) (il3.by S4) rfl (λvp4 ip4=>?_);refine BR i4 ip4 ?_;k_few
     . rename_i u
       rw[if_pos u]at q;exact q _ (T3.trans S4)
     . rename_i u
       rw[if_neg u]at q;refine aF (j:=0) (hw3.by S4) rfl (λvr4 ir4=>?_);o_head EB ir4 (ok.ok.ba.mono ⋯) ?_;unfold lR
       by_cases z1:1<ra
       . rw[if_pos z1]
         o_head gG _ _ false (by rw[wR];decide) ?_;k_few;rw[if_neg (λh=>absurd h.1 (by grind))]at q;exact q _ (T3.trans S4)
       . rw[if_neg z1]
         by_cases z2:ra=1
         . rw[if_pos z2]
           o_head gG _ _ false (by rw[wR];decide) ?_;k_few;rw[if_neg (λh=>absurd h.1 (by grind))]at q;exact q _ (T3.trans S4)
         . rw[if_neg z2]
           have ha:ra<1:=by
             by_cases h:ra<1
             . exact h
             . exact absurd (Qp (qa.mp h) (WI z2)) z1
           o_head gG _ _ true (by rw[wR];decide) ?_;o_head aF (j:=0) (hw3.by S4) rfl (λvr5 ir5=>?_);o_head aF (j:=0) (il3.by S4) rfl (λvz5 iz5=>?_);o_head L6 ir5 iz5 ok.ok sz z2 (λH5 S5=>?_);k_few
           . rename_i d
             rw[if_pos ⟨ha,d⟩]at q;exact q _ (T3.trans (S4.trans S5))
           . rename_i d
             rw[if_neg (λh=>by rw[h.2]at d;cases d)]at q;exact q _ (T3.trans (S4.trans S5))
def J6(K:wb):Sp:=λvs H Q _=>∃x0,vs=[x0] /\ ∃(a b:Rat)(xs:List Rat)(g:Nat),Is K H x0 (bo a b xs)/\aO a b/\1<=xs.length/\xs.length<=8/\g<=8/\(∀t,t<=g->Cm 74000 (ai a b xs t))/\(∀t,t<g->(bS a b (ai a b xs t)).length=1)/\(bS a b (ai a b xs g)).length≠1/\Rq H Q (.int ((g+1:Nat):Int))
theorem LB{a:Rat}{g:Nat}{v:V}(h:Is K H v (bo a b xs))(ok:aO a b)(h1:1<=xs.length)(h8:xs.length<=8)(hg:g<=8)(c:∀t,t<=g->Cm 74000 (ai a b xs t))(w1:∀t,t<g->(bS a b (ai a b xs t)).length=1)(w2:(bS a b (ai a b xs g)).length≠1)(q:Rq H Q (.int ((g+1:Nat):Int))):J6 K [v] H Q E:=⟨_,rfl,a,b,xs,g,h,ok,h1,h8,hg,c,w1,w2,q⟩
theorem zkD(T:Txt P K mg a):aJ P w K mg base aR 5 a.GP a.Gd AG (J6 K):=by
 refine T.Gr.F.ok rV ?_ ?_;wtm_at "b1"
 refine⟨_,(ak (ay 1 rV.nd av)
     (ak (ay 2 rV.nd (ar (Fh T) hr T.sN (q1 0)))
     (ak (lF vC (eF K hu (ee K T.h0S (ae (qi 2) ah)) av) (ak (zCz (i:=1) rV.nd rfl (Or.inl rfl) av zCC)
     (au (ay 2 rV.nd (ar (Fh T) hr T.sN (ae (qi 2) ah))))))
     (au (aE (pv 1)))))),?_⟩
 wtm_at "cl";rw[show start Jv [x0]=[some x0,none,none]from rfl];obtain⟨ra,rb,xs,g,hw,ok,h1,h8,hg,c,w1,w2,q⟩:=h;o_head DH hw ok.ba ok.bb h1 h8 (c 0 ()) () (λv2 H2 S2 i2=>?_);o_head rq (λm σ' H'=>∃(t:Nat)(v:V),σ'=[some x0,some (.int ((t+1:Nat):Int)),some v]/\m=g-t/\t<=g/\aj H H'/\Is K H' v (GD ra rb (ai ra rb xs t))) _ ⟨0,v2,rfl,rfl,by lia,S2,i2⟩ ?_;rintro m σ' H3 ⟨t,v,rfl,rfl,ht,S3,iv⟩;o_head aF (j:=1) iv rfl (λv4 i4=>?_);o_head oj i4 ?_;rw[wm];k_few
 . rename_i z
   have z:(bS ra rb (ai ra rb xs t)).length=1:=by lia
   have htg:t<g:=by
     rcases wB t g with y | y
     . exact y
     . have:t=g:=by lia
       subst this;exact absurd z w2
   have hpl:=a_ ra rb xs t;have hpl2:=a_ ra rb xs (t+1);refine oW ?_;o_head zAo rfl ?_;o_head zB2 ?_;o_head aF (j:=2) iv rfl (λv5 i5=>?_);o_head DH (show Is K H3 v5 (bo ra rb (ai ra rb xs (t+1)))from i5) ok.ba ok.bb () () (c (t+1) ()) () (λv6 H6 S6 i6=>?_);k_few;exact⟨g-(t+1),by lia,t+1,v6,by push_cast;rfl,rfl,by lia,S3.trans S6,i6⟩
 . rename_i z
   have htg:t=g:=by
     rcases wB t g with y | y
     . exact absurd (by rw[w1 t y];rfl) z
     . lia
   subst htg;exact q H3 S3
def Ov(B:Int)(x:Rat):Prop:=∃t:Int,x=wy t B
theorem Ov.zero(B:Int):Ov B 0:=⟨0,by simp⟩
theorem Ov.more{d:Int}(h:Ov B x)(hB:0<B)(hd:0<d):Ov (B*d) x:=by
 obtain⟨t,rfl⟩:=h;exact⟨t*d,pX hB hd⟩
theorem zzW(t u:Int):∃m,Bd m t/\Bd m u:=⟨t.natAbs+u.natAbs,⟨WC (by lia:t.natAbs<=t.natAbs+u.natAbs) XT⟩,⟨WC (by lia:u.natAbs<=t.natAbs+u.natAbs) XT⟩⟩
theorem zDD{a:Rat}(h:aO a b):Bd 6 a.num:=by
 have h1:=h.a0;have h2:=h.a4;have h3:=h.ad;have n0:0<=a.num:=Qv.mpr (vX h1)
 have n1:a.num<=4*a.den:=by
   have:=(Xz a 4).mp h2
   simpa using this
 exact ⟨by have : (2 : Nat) ^ 6 = 64 := by decide
           lia⟩
theorem zC9{a:Rat}(h:aO a b):Bd 4 (a.den:Int):=by
 have h3:=h.ad
 exact ⟨by have : (2 : Nat) ^ 4 = 16 := by decide
           lia⟩
theorem zDh{a:Rat}(h:aO a b):Bd 4 b.num:=by
 have h1:=h.b0;have h2:=h.b1;have h3:=h.bd;have n0:0<=b.num:=Qv.mpr h1
 have n1:b.num<=b.den:=by
   have:=(Xz b 1).mp h2
   simpa using this
 exact ⟨by have : (2 : Nat) ^ 4 = 16 := by decide
           lia⟩
theorem Ov.push{a:Rat}(ok:aO a b)(hB:0<B)(hd:(b.den:Int) ∣ B)(h:Ov B x)(n:Nat):Ov (B*(a.den:Int)^n) (push a b n x):=by
 obtain⟨t,rfl⟩:=h;obtain⟨m,h1,h2⟩:=zzW t B;obtain⟨_,_,_,T,e,_⟩:=RT (zDD ok) (zC9 ok) (zDh ok) hB hd h1 h2 n;exact⟨T,e⟩
theorem oP(a:Rat)(n:Nat):0<(a.den:Int)^n:=uH (den_pos a)
theorem Ov.up{a:Rat}(h:Ov B x)(hB:0<B)(n:Nat):Ov (B*(a.den:Int)^n) x:=h.more hB (oP a n)
theorem RC(h:∀x∈xs,Ov B x)(i:Nat):Ov B (xs.getD i 0):=by
 rcases wB i xs.length with z | z
 ·exact h _ (getD_mem z)
 ·rw[wa,wQ z];exact Ov.zero B
theorem zvC(h:∀i,i<xs.length->Ov B (xs.getD i 0)):∀x∈xs,Ov B x:=λx hx=>by
 obtain⟨j,hj,rfl⟩:=w6 hx;have:=h j hj;rw[wa,wc hj]at this;exact this
theorem OB{a b:Rat}(ok:aO a b):∀(n:Nat)(B:Int)(ps:List Rat)(left:List Nat),0<B->(b.den:Int) ∣ B->left.Nodup->(∀w∈left,w<ps.length)->(∀x∈ps,Ov B x)->∀x∈(b_ a b n ps left).2.2,Ov (B*(a.den:Int)^(b_ a b n ps left).1.flatten.length) x
 | 0,B,ps,left,hB,_,_,_,h=>λx hx=>by
  have:Ov (B*(a.den:Int)^0) x:=by rw[uf,Xa];exact h x hx
  exact this
 | n+1,B,ps,left,hB,hd,nd,lt,h=>by
  by_cases e:az ps left=[]
  ·rw[lI e]
   intro x hx;have:Ov (B*(a.den:Int)^0) x:=by rw[uf,Xa];exact h x hx
   exact this
  ·rw[iO e]
   have nd':(aW left (az ps left)).Nodup:=m8 nd;have lt':=nJ (wave:=az ps left) lt
   have ih:=OB ok n (B*(a.den:Int)^(az ps left).length) (cc (a^(az ps left).length) (aC a b (az ps left).length) ps (aW left (az ps left))) (aW left (az ps left)) (vV hB (oP a _)) (qS hd (V2 ..)) nd' (λw hw=>by rw[gX];exact lt' w hw) (zvC λi hi=>by
    rw[iW _ _ _ _ nd' lt']
    split
    ·rw[<- gY];exact(RC h i).push ok hB hd _
    ·exact(RC h i).up hB _)
   intro x hx;have:=ih x hx
   show Ov (B*(a.den:Int)^(az ps left::_).flatten.length) x
   rw[um,wT,uN,<- qt];exact this
theorem Ov.rise(hx:Ov B x)(hy:Ov B y)(hB:0<B):Ov B (x+(1-y)):=by
 obtain⟨t,rfl⟩:=hx;obtain⟨z,rfl⟩:=hy;refine⟨t+B-z,?_⟩
 symm
 refine fk () ?_;have q1:=bY t (show B≠0 by lia);have q2:=bY z (show B≠0 by lia);have q3:((t+B-z:Int):Rat)=(t:Rat)+(B:Rat)-(z:Rat):=by push_cast;rfl
 rw[q3,<- q1,<- q2]
 grind
def ju(a b:Rat)(xs:List Rat):Nat:=(bS a b xs).flatten.length
theorem zzh{a:Rat}(ok:aO a b)(hB:0<B)(hd:(b.den:Int) ∣ B)(h1:1<=xs.length)(h:∀x∈xs,Ov B x):∀y∈cz a b xs,Ov (B*(a.den:Int)^ju a b xs) y:=by
 have hr:∀x∈aZ xs,Ov B x:=λx hx=>by
  obtain⟨y,hy,rfl⟩:=wU.mp hx;exact(h y hy).rise (h _ (gH h1)) hB
 have:=OB ok xs.length B (aZ xs) (wq xs.length) hB hd WU (λw hw=>by rw[eS];exact wF.mp hw) hr;intro y hy;rcases zyE y hy with z | z
 ·exact this y z
 ·rw[z];exact Ov.zero _
def bX(a b:Rat)(xs:List Rat):Nat->Nat
 | 0=>0
 | k+1=>bX a b xs k+ju a b (ai a b xs k)
theorem mI(a b:Rat)(xs:List Rat)(m:Nat):∀k,bX a b xs (m+k)=bX a b xs m+bX a b (ai a b xs m) k
 | 0=>rfl
 | k+1=>by
  show bX a b xs (m+k)+ju a b (ai a b xs (m+k))=bX a b xs m+(bX a b (ai a b xs m) k+ju a b (ai a b (ai a b xs m) k))
  rw[mI a b xs m k,fb];lia
theorem OO{a b:Rat}(ok:aO a b){B:Int}(hB:0<B)(hd:(b.den:Int) ∣ B){xs:List Rat}(h1:1<=xs.length)(h:∀x∈xs,Ov B x):∀k,(∀y∈ai a b xs k,Ov (B*(a.den:Int)^bX a b xs k) y)/\Ov (B*(a.den:Int)^bX a b xs k) (aT a b xs k)
 | 0=>by
  show(∀y∈xs,Ov (B*(a.den:Int)^0) y)/\Ov (B*(a.den:Int)^0) 0
  rw[uf,Xa];exact⟨h,Ov.zero B⟩
 | k+1=>by
  obtain⟨hp,hh⟩:=OO ok hB hd h1 h k;have hBk:=vV hB (oP a (bX a b xs k));have hpl:=a_ a b xs k
  have e:B*(a.den:Int)^bX a b xs (k+1)=B*(a.den:Int)^bX a b xs k*(a.den:Int)^ju a b (ai a b xs k):=by
   rw[qt,<- uN];rfl
  rw[e];refine⟨zzh ok hBk (qS hd (V2 ..)) () hp,?_⟩;exact(Ov.rise hh (hp _ (gH ())) hBk).up hBk _
theorem Sf{a b:Rat}(a0:0<a)(b0:0<=b){xs:List Rat}(h1:1<=xs.length)(hp:cn xs):∀k:Nat,0<=aT a b xs k/\aT a b xs k<=((k:Int):Rat)
 | 0=>⟨WZ,WZ⟩
 | k+1=>by
  obtain⟨l,u⟩:=Sf a0 b0 h1 hp k;have hk:=hp.at a0 b0 k;have hm:=gH (xs:=ai a b xs k) (by rw[a_];exact h1);have m0:=hk.nn _ hm;have m1:=hk.lt _ hm;have e:aT a b xs (k+1)=aT a b xs k+(1-bG (ai a b xs k)):=rfl;have ek:(((k+1:Nat):Int):Rat)=((k:Int):Rat)+1:=by push_cast;rfl
  rw[e,ek];exact⟨by grind,by grind⟩
theorem Jw{l:Nat}(hB:0<B)(bB:Bd m B)(h:Ov B x)(x0:0<=x)(x1:x<=(((2^l:Nat):Int):Rat)):∃t:Int,x=wy t B/\Bd (m+l+1) t:=by
 obtain⟨t,rfl⟩:=h;refine⟨t,rfl,?_⟩;have q1:=bY t (show B≠0 by lia);have hBr:(0:Rat)<(B:Rat):=Ug.mpr hB;have t0:(0:Rat)<=(t:Rat):=by rw[<- q1];exact Qx x0 (vX hBr)
 have t1:(t:Rat)<=(((2^l:Nat):Int):Rat)*(B:Rat):=by
  rw[<- q1];exact Rat.mul_le_mul_of_nonneg_right x1 (vX hBr)
 have t0':0<=t:=Rat.intCast_nonneg.mp t0
 have t1':t<=((2^l:Nat):Int)*B:=by
  rw[<- Wj]at t1;exact WQ.mp t1
 have b:=bB.lt;refine⟨?_⟩
 have hb:t.natAbs<=2^l*B.natAbs:=by
  have e:((2^l*B.natAbs:Nat):Int)=((2^l:Nat):Int)*B:=by
   rw[VQ]
   congr 1
   lia
  lia
 have:2^l*B.natAbs<2^l*2^m:=Nat.mul_lt_mul_of_pos_left b (Wt l);have e2:2^(m+l+1)=2^l*2^m*2:=by rw[W4,xb,Qr (2^m)]
 lia
theorem zzP{a:Rat}(ok:aO a b)(h:Bd m B)(n:Nat):Bd (m+3*n) (B*(a.den:Int)^n):=by
 refine⟨?_⟩;have h1:=h.lt;have h8:=ok.ad;rw[Xl,Int.natAbs_pow,Int.natAbs_natCast,xb,Nat.pow_mul];have e:(2:Nat)^3=8:=by decide
 rw[e];have h2:a.den^n<=8^n:=Nat.pow_le_pow_left h8 n;have hp:0<8^n:=Nat.pow_pos ⋯;exact WC (XS _ h2) (Nat.mul_lt_mul_of_pos_right h1 hp)
theorem Ov.sub(hx:Ov B x)(hy:Ov B y)(hB:0<B):Ov B (x-y):=by
 obtain⟨t,rfl⟩:=hx;obtain⟨z,rfl⟩:=hy;refine⟨t-z,?_⟩
 symm
 refine fk () ?_;have q1:=bY t (show B≠0 by lia);have q2:=bY z (show B≠0 by lia);have q3:((t-z:Int):Rat)=(t:Rat)-(z:Rat):=by push_cast;rfl
 rw[q3,<- q1,<- q2]
 grind
theorem Nn{a:Rat}(ok:aO a b)(c:mf b.den m xs)(h1:1<=xs.length)(hp:cn xs){k l:Nat}(hk:k<=2^l):Cm (m+3*bX a b xs (i+k)+l+1) (aT a b (ai a b xs i) k::ai a b (ai a b xs i) k):=by
 obtain⟨B,hB,hd,bB,hx⟩:=c;have hov:=OO ok hB hd h1 (λx hx'=>let ⟨t,e,_⟩:=hx x hx';⟨t,e⟩);obtain⟨hph,hh⟩:=hov (i+k);have hBk:=vV hB (oP a (bX a b xs (i+k)))
 have hi:Ov (B*(a.den:Int)^bX a b xs (i+k)) (aT a b xs i):=by
  have:=((hov i).2).up (a:=a) (vV hB (oP a (bX a b xs i))) (bX a b (ai a b xs i) k);rw[qt,<- uN,<- mI]at this;exact this
 have hhk:Ov (B*(a.den:Int)^bX a b xs (i+k)) (aT a b (ai a b xs i) k):=by
  have e:aT a b (ai a b xs i) k=aT a b xs (i+k)-aT a b xs i:=by
   have:=nz a b xs i k
   grind
  rw[e];exact hh.sub hi hBk
 have bb:=zzP ok bB (bX a b xs (i+k));have hpi:=hp.at ok.a0 ok.b0 i;have hpk:=hpi.at ok.a0 ok.b0 k;have hl:(((k:Nat):Int):Rat)<=(((2^l:Nat):Int):Rat):=WQ.mpr ()
 have h1l:(1:Rat)<=(((2^l:Nat):Int):Rat):=by
  have:((1:Int):Rat)<=(((2^l:Nat):Int):Rat):=WQ.mpr (by have:=Wt l;lia);exact this
 refine⟨_,hBk,bb.mono (),λx hx'=>?_⟩;rcases wK.mp hx' with rfl | hx'
 ·have hb:=Sf ok.a0 ok.b0 (xs:=ai a b xs i) (by rw[a_];exact h1) hpi k
  exact Jw hBk bb hhk hb.1 (xL hb.2 hl)
 ·have:=hph x (by rw[<- fb];exact hx')
  exact Jw hBk bb this (hpk.nn x hx') (xL (vX (hpk.lt x hx')) h1l)
theorem zwX{a:Rat}(a0:0<a)(b0:0<=b)(h1:1<=xs.length)(hp:cn xs):ju a b xs<=xs.length:=by
 obtain⟨v,J⟩:=ze a0 b0 h1 hp.nn hp.lt;unfold ju;rw[J.perm.length_eq];unfold seg;have:=Wk (λw=>decide (0<=aK xs w)&&decide (aK xs w<v)) (wq xs.length);rw[ve]at this;exact this
theorem rO{a b:Rat}(a0:0<a)(b0:0<=b){xs:List Rat}(h1:1<=xs.length)(hp:cn xs):∀k,bX a b xs k<=k*xs.length
 | 0=>Wy _
 | k+1=>by
  have ih:=rO a0 b0 h1 hp k;have hl:=a_ a b xs k;have:=zwX a0 b0 (xs:=ai a b xs k) () (hp.at a0 b0 k);rw[Q0]
  show bX a b xs k+ju a b (ai a b xs k)<=_
  lia
theorem NW{a:Rat}(a0:0<a)(b0:0<=b)(h1:1<=xs.length)(hp:cn xs):1<=(bS a b xs).length:=by
 obtain⟨v,J⟩:=ze a0 b0 h1 hp.nn hp.lt;obtain⟨ws,e,_⟩:=J.first;rw[e];simp
theorem TU{a:Rat}(a0:0<a)(b0:0<=b)(h1:1<=xs.length)(hp:cn xs):(ag (cz a b xs)).length<=(ag xs).length/\(1<(bS a b xs).length->(ag (cz a b xs)).length<(ag xs).length):=by
 obtain⟨v,J⟩:=ze a0 b0 h1 hp.nn hp.lt;have e:=congrArg Xb J.new;rw[h9,wT,vW,h9,Wi]at e;have v1:=J.v1;have vm:=J.vm;exact⟨by lia,λh=>by have:=J.more.mp h;lia⟩
theorem sY{a b:Rat}(a0:0<a)(b0:0<=b){xs:List Rat}(h1:1<=xs.length)(hp:cn xs):∀k,(ag (ai a b xs k)).length<=(ag xs).length
 | 0=>wo _
 | k+1=>Wb (TU a0 b0 (xs:=ai a b xs k) (by rw[a_];exact h1) (hp.at a0 b0 k)).1 (sY a0 b0 h1 hp k)
theorem Lw{a b:Rat}(ok:aO a b){xs ps:List Rat}{fl:Nat->Nat}{ns:List Int}(L:fi xs (ps++[0]) fl ns)(hn:ns.length=ps.length+1)(f:dQ a b ns ps=true):∀t,t<=ns.length->bX a b xs t=upTo ns t
 | 0,_=>rfl
 | t+1,ht=>by
  have ih:=Lw ok L hn f t ();have hw:=(Am ok L hn f).2.1 t ();have hl:(ps++[0]).length=ns.length:=by simp[hn]
  have hs:=L.size t ()
  show bX a b xs t+ju a b (ai a b xs t)=_
  unfold ju;rw[hw,ih,oM (),hs];simp
theorem OD{a b:Rat}(ok:aO a b){xs ps:List Rat}{fl:Nat->Nat}{ns:List Int}(L:fi xs (ps++[0]) fl ns)(hn:ns.length=ps.length+1)(n0:∀n∈ns,0<=n):∀k,(∀j,j<k->cj a b ns ps j=true)->bX a b xs (k*ns.length)=k*upTo ns ns.length
 | 0,_=>by rw[xN,xN];rfl
 | k+1,h=>by
  have ih:=OD ok L hn n0 k λj hj=>h j ()
  obtain⟨Lk,_⟩:=yV ok L hn n0 k λj hj=>h j ()
  have hl:ns.length=(cB a b ns k ps).length+1:=by rw[dE];exact hn
  rw[Q0,mI,ih,Lw ok Lk hl (h k ()) _ (wo _),Q0]
structure gb(a b:Rat)(xs:List Rat)(r g:Nat):Prop where
 l_:r<=30
 free:kr a b xs r
 ends:cj a b (aX xs) (bP xs) r=false
 g1:1<=g
 gN:g<=(ag xs).length
 one:∀t,t+1<g->(bS a b (ai a b (ai a b xs (r*(ag xs).length)) t)).length=1
 join:1<(bS a b (ai a b (ai a b xs (r*(ag xs).length)) (g-1))).length
theorem Ru{p:Nat->Prop} : ∀n,(∃t,t<n /\ ¬ p t)->∃g,g<n/\(∀t,t<g->p t) /\ ¬ p g
 | 0,h=>by obtain⟨t,ht,_⟩:=h;lia
 | n+1,h=>by
  by_cases z:∃t,t<n /\ ¬ p t
  ·obtain⟨g,h1,h2,h3⟩:=Ru n z
   exact⟨g,by lia,h2,h3⟩
  ·obtain⟨t,ht,hp⟩:=h
   have htn:t=n:=by
    rcases wB t n with y | y
    ·exact absurd ⟨t,y,hp⟩ z
    ·lia
   subst htn;exact⟨t,by lia,λs hs=>Vw.mp λy=>z ⟨s,hs,y⟩,hp⟩
structure zC3(a b:Rat)(xs:List Rat):Prop where
 hz:bP xs++[0]=ag xs
 hn:(aX xs).length=(bP xs).length+1
 hs:(aX xs).length=(ag xs).length
 L:fi xs (bP xs++[0]) (aK xs) (aX xs)
theorem pj{a:Rat}(hp:cn xs)(h0:0∈xs):zC3 a b xs:=by
 have hz:bP xs++[0]=ag xs:=FE hp h0;have hsl:=yF xs;have hpl:(bP xs).length+1=(ag xs).length:=by rw[<- hz];simp
 exact⟨hz,by lia,hsl,by rw[hz];exact Ce hp.nn hp.lt⟩
theorem SS{a:Rat}(ok:aO a b)(h1:1<=xs.length)(hp:cn xs)(h0:0∈xs)(h30:r<=30)(f:kr a b xs r)(e:cj a b (aX xs) (bP xs) r=false):∃g,gb a b xs r g:=by
 obtain⟨hz,hn,hs,L⟩:=pj (a:=a) (b:=b) hp h0;obtain⟨Lr,_⟩:=yV ok L hn (zq xs) r f;obtain⟨t,ht,hj⟩:=Od ok Lr (by rw[dE];exact hn) e;rw[hs]at ht hj;obtain⟨g,g1,g2,g3⟩:=Ru (p:=λt=>(bS a b (ai a b (ai a b xs (r*(ag xs).length)) t)).length=1) (ag xs).length ⟨t,ht,λz=>by rw[z]at hj;lia⟩;refine⟨g+1,h30,f,e,by lia,by lia,λt ht=>g2 t (),?_⟩;have:=NW (a:=a) (b:=b) ok.a0 ok.b0 (xs:=ai a b (ai a b xs (r*(ag xs).length)) g) (by rw[a_,a_];exact h1) ((hp.at ok.a0 ok.b0 _).at ok.a0 ok.b0 _);rw[Qo];have g3:¬ (bS a b (ai a b (ai a b xs (r*(ag xs).length)) g)).length=1:=g3;lia
theorem gb.bX{a:Rat}{g:Nat}(R:gb a b xs r g)(ok:aO a b)(h1:1<=xs.length)(hp:cn xs)(h0:0∈xs){t:Nat}(ht:t<=g):bX a b xs (r*(ag xs).length+t)<=30*xs.length+xs.length*xs.length:=by
 obtain⟨hz,hn,hs,L⟩:=pj (a:=a) (b:=b) hp h0;have h2:=OD ok L hn (zq xs) r R.free;rw[hs]at h2;have h3:=OQ xs;rw[hs]at h3;have h4:=rO ok.a0 ok.b0 (xs:=ai a b xs (r*(ag xs).length)) (by rw[a_];exact h1) (hp.at ok.a0 ok.b0 _) t;rw[a_]at h4;rw[mI,h2];have h5:r*upTo (aX xs) (ag xs).length<=30*xs.length:=qd R.l_ h3;have h6:t*xs.length<=xs.length*xs.length:=Wr _ (by have:=R.gN;have:=jZ xs;lia);lia
theorem gb.Jk{a:Rat}{g:Nat}(R:gb a b xs r g)(ok:aO a b)(h1:1<=xs.length)(hp:cn xs):(ag (ai a b xs (r*(ag xs).length+g))).length<(ag xs).length:=by
 have g1:=R.g1
 have e:ai a b xs (r*(ag xs).length+g)=cz a b (ai a b (ai a b xs (r*(ag xs).length)) (g-1)):=by
  rw[<- fb];obtain⟨k,rfl⟩:∃k,g=k+1:=⟨g-1,by lia⟩
  rfl
 have h2:cn (ai a b (ai a b xs (r*(ag xs).length)) (g-1)):=(hp.at ok.a0 ok.b0 _).at ok.a0 ok.b0 _;have hl:(ai a b (ai a b xs (r*(ag xs).length)) (g-1)).length=xs.length:=by rw[a_,a_]
 have h3:=(TU ok.a0 ok.b0 (xs:=ai a b (ai a b xs (r*(ag xs).length)) (g-1)) () h2).2 R.join;have h4:=sY ok.a0 ok.b0 (xs:=xs) h1 hp (r*(ag xs).length+(g-1));rw[fb]at h3;rw[fb]at e;rw[e];lia
theorem zr6{a:Rat}(ok:aO a b)(sz:dk ns)(hn:ns.length=xs.length+1)(st:eG a b ns xs=true):cH a b ns xs=xs\/(a<1/\rh a b ns=true):=by
 have hps:=sz.pos;unfold eG at st
 by_cases z1:1<a
 ·rw[if_pos z1]at st
  have e:=of_decide_eq_true st;have hF:a^ns.sum.toNat≠1:=λe=>absurd ((A9 ok ()).mp e) (by grind)
  refine .inl ?_;rw[<- BO hn sz.nn,zzw hF hn 1];rw[<- e,zw5]
 ·rw[if_neg z1]at st
  by_cases z2:a=1
  ·rw[if_pos z2]at st
   refine .inl ?_;rw[<- BO hn sz.nn]
   exact kB (dE ..) λi hi=>by
    rw[dE]at hi;have hi':i<(dj a b ns).length:=by rw[oK ()];lia
    have hz:(dj a b ns).getD i 0=0:=by
     rw[WW]at st;have:=st _ (wU.mpr ⟨_,getD_mem (d:=0) hi',rfl⟩);exact of_decide_eq_true this
    rw[kF hi,hz];unfold fj;rw[z2,GM.one_pow',GM.one_pow']
    grind
  ·rw[if_neg z2]at st
   refine .inr ⟨?_,st⟩
   by_cases h:a<1
   ·exact h
   ·exact absurd (Qp (qa.mp h) (WI z2)) z1
def nF(h:Rat)(xs:List Rat)(r g:Nat):wG:=.tuple [N h,TN xs,.int (r:Int),.int (g:Int)]
def d_(a b:Rat)(xs:List Rat)(i r g:Nat):Nat:=i+(r*(ag (ai a b xs i)).length+g)
def pU(a b:Rat)(xs:List Rat)(e:Nat × Nat × Nat):wG:=nF (aT a b xs e.1) (ai a b xs e.1) e.2.1 e.2.2
def Be(a b:Rat)(xs:List Rat)(n:Nat)(w:String):wG:=.tuple [N (aT a b xs n),TN (ai a b xs n),.str (wH w)]
def Et(a b:Rat)(xs:List Rat)(es:List (Nat × Nat × Nat))(n:Nat)(w:String):List wG:=es.map (pU a b xs)++[Be a b xs n w]
theorem zzL{a:Rat}(ok:gA a b xs)(h:c_ a b xs=none)(f:cj a b (aX xs) (bP xs) 0=true):eG a b (aX xs) (bP xs)=false:=by
 obtain⟨_,sz,hn⟩:=ok.round;unfold cj at f;rw[oQ]at f;cases e:eG a b (aX xs) (bP xs)with
 | false=>rfl
 | true =>
  unfold c_ at h;rw[if_pos f]at h
  split at h
  ·cases h
  ·split at h
   ·cases h
   ·rename_i y
    rcases zr6 ok.ok sz hn e with z | z
    ·exact absurd z y
    ·rw[if_pos z]at h;cases h
def P7(K:wb)(a:Ad):Sp:=λvs H Q E=>∃x0 x1,vs=[x0,x1] /\ ∃(ra rb h:Rat)(xs:List Rat),Is K H x0 (N h)/\Is K H x1 (bo ra rb xs)/\gA ra rb xs/\c_ ra rb xs=none/\(∀r g t,gb ra rb xs r g->t<=g->Cm 72000 (ai ra rb xs (r*(ag xs).length+t))) /\
 ((∀k,k<=30->cj ra rb (aX xs) (bP xs) k=true)->∀H',aj H H'->E (.ref a.cN) none H') /\ ∀r g v H',gb ra rb xs r g->aj H H'->Is K H' v (nF h xs r g)->Q v H'
theorem zq0{h:Rat}{v w:V}(h1:Is K H v (N h))(h2:Is K H w (bo ra rb xs))(ok:gA ra rb xs)(hw:c_ ra rb xs=none)(c:∀r g t,gb ra rb xs r g->t<=g->Cm 72000 (ai ra rb xs (r*(ag xs).length+t)))(qe:(∀k,k<=30->cj ra rb (aX xs) (bP xs) k=true)->∀H',aj H H'->E (.ref a.cN) none H')(q:∀r g v H',gb ra rb xs r g->aj H H'->Is K H' v (nF h xs r g)->Q v H'):P7 K a [v,w] H Q E:=⟨_,_,rfl,ra,rb,h,xs,h1,h2,ok,hw,c,qe,q⟩
theorem zrk(T:Txt P K mg a):aJ P w K mg base (eO P w) 12 a.IF a.He yu (P7 K a):=by
 refine T.HK.F.pY z9 ?_ ?_;wtm_at "b2"
 refine⟨_,(ak (ay 2 z9.nd (lH (B2 T) hr T.sH yS (q1 1)))
     (ak (ay 3 z9.nd (lH (zms T) hr T.GB yS (ae (qi 1) (ae (qi 2) (ae (qi 2) ah)))))
     (ak (ay 4 z9.nd (ar (zkD T) hr T.Gr (ae (n_ (ar (JS T) hr T.AK (q2 1 3))) ah)))
     (au (aE (aY (by exact(@ae _ _ _ _ _ (pv 0) (@ae _ _ _ _ _ (qi 1) (@ae _ _ _ _ _ (pv 3) (@ae _ _ _ _ _ (pv 4) ah dY) dY) iX) dY)))))))),?_⟩
 wtm_at "cl";rw[show start RL [x0,x1]=[some x0,some x1,none,none,none]from rfl];obtain⟨ra,rb,hr',xs,ih,hw,ok,hno,hc,qe,q⟩:=h;obtain⟨rok,sz,hn⟩:=ok.round;have h8:=ok.h8;have bx:∀i,af 80000 (xs.getD i 0):=λi=>(ok.cm.get i).mono ⋯
 o_head CF hw h8 bx (λz=>absurd ok.h0 z) (λ_ vl H1 S1 il=>?_);have hw1:=hw.by S1;o_head aF (j:=0) hw1 rfl (λvr ir=>?_);o_head aF (j:=0) il rfl (λvz iz=>?_);o_head aF (j:=1) il rfl (λvp ip=>?_);o_head zm7 ir iz ip ok.ok sz hn (zG ok.cm) ⋯ (λz H2 S2=>?_) (λz y H2 S2=>?_) (λc c1 c2 y z w H2 S2=>?_) (λy z H2 S2=>?_)
 . have RR:(0:Nat)<=30:=by decide
   have FF:kr ra rb xs 0:=λk hk=>by lia
   have EE:=z;k_few;obtain⟨g,R⟩:=SS ok.ok ok.h1 ok.hp ok.h0 RR FF EE;have g1:=R.g1;have gN:=R.gN;have hvl:=jZ xs;refine By (r:=0) (hw1.by S2) ok RR FF (λv3 H3 S3 i3=>?_);o_head aF (j:=1) i3 rfl (λv4 i4=>?_);k_few;have hj:=R.join;refine LB (g:=g-1) i4 ok.ok (by rw[a_];exact ok.h1) (by rw[a_];exact h8) () (λt ht=>by rw[fb];exact(hc _ g t R ()).mono ⋯) (λt ht=>R.one t ()) () (λH5 S5=>?_);rw[show g-1+1=g by lia];have S15:=S2.trans (S3.trans S5);o_head aF (j:=1) (hw1.by S15) rfl (λv6 i6=>?_);o_head cg (ds:=[N hr',TN xs,.int ((0:Nat):Int),.int (g:Int)]) ∅ (.cons (ih.by (S1.trans S15)) (.cons i6 (.cons (bW.mpr rfl) (.cons (bW.mpr rfl) .nil)))) (λv7 H7 S7 i7=>?_);exact q 0 g v7 H7 R (S1.trans (S15.trans S7)) i7
 . rw[zzL ok hno z]at y
   cases y
 . have RR:=c2
   have FF:kr ra rb xs c:=z;have EE:=w;k_few;obtain⟨g,R⟩:=SS ok.ok ok.h1 ok.hp ok.h0 RR FF EE;have g1:=R.g1;have gN:=R.gN;have hvl:=jZ xs;refine By (r:=c) (hw1.by S2) ok RR FF (λv3 H3 S3 i3=>?_);o_head aF (j:=1) i3 rfl (λv4 i4=>?_);k_few;have hj:=R.join;refine LB (g:=g-1) i4 ok.ok (by rw[a_];exact ok.h1) (by rw[a_];exact h8) () (λt ht=>by rw[fb];exact(hc _ g t R ()).mono ⋯) (λt ht=>R.one t ()) () (λH5 S5=>?_);rw[show g-1+1=g by lia];have S15:=S2.trans (S3.trans S5);o_head aF (j:=1) (hw1.by S15) rfl (λv6 i6=>?_);o_head cg (ds:=[N hr',TN xs,.int (c:Int),.int (g:Int)]) ∅ (.cons (ih.by (S1.trans S15)) (.cons i6 (.cons (bW.mpr rfl) (.cons (bW.mpr rfl) .nil)))) (λv7 H7 S7 i7=>?_);exact q c g v7 H7 R (S1.trans (S15.trans S7)) i7
 . exact qe z H2 (S1.trans S2)
def rT(a b:Rat)(xs:List Rat)(i r g:Nat):Prop:=(i=0/\r=0/\g=1)\/(1<=i/\c_ a b (ai a b xs i)=none/\gb a b (ai a b xs i) r g)
def gU(a b:Rat)(xs:List Rat):Nat->List (Nat × Nat × Nat)->Nat->Prop
 | i,[],n=>i=n
 | i,e::es,n=>e.1=i/\rT a b xs i e.2.1 e.2.2/\gU a b xs (d_ a b xs i e.2.1 e.2.2) es n
theorem gU.snoc{a b:Rat}{xs:List Rat} : ∀{es:List (Nat × Nat × Nat)}{i n r g:Nat},gU a b xs i es n->rT a b xs n r g->gU a b xs i (es++[(n,r,g)]) (d_ a b xs n r g)
 | [],i,n,r,g,h,k=>by
  have e:i=n:=h;subst e;exact⟨rfl,k,rfl⟩
 | e::es,i,n,r,g,h,k=>⟨h.1,h.2.1,gU.snoc h.2.2 k⟩
theorem EO(h:Rat)(xs:List Rat)(r g:Nat):cP (nF h xs r g)=true:=by rw[nF,cP,bV,bV,bV,bV,bV,kO,yo];rfl
theorem zvA(a b:Rat)(xs:List Rat)(n:Nat)(w:String):cP (Be a b xs n w)=true:=by rw[Be,cP,bV,bV,bV,bV,kO,yo];rfl
structure cF(a b:Rat)(xs:List Rat):Prop where
 ok:aO a b
 h1:1<=xs.length
 h6:xs.length<=8
 hp:cn xs
 sz:∃m,mf b.den m xs/\m+912*xs.length<=60000
theorem cF.of{a:Rat}(ok:aO a b)(h1:1<=xs.length)(h6:xs.length<=8)(ph:∀x∈xs,fD x):cF a b xs/\mf b.den 61 xs:=by
 have b6:∀j,af 6 (xs.getD j 0):=λj=>by
  rcases wB j xs.length with z | z
  ·exact(ph _ (getD_mem z)).f_
  ·rw[wa,wQ z];exact af.zero.mono ⋯
 have c0:Cm 57 xs:=(Cm.YU b6).mono ();have c1:mf b.den 61 xs:=mf.of c0 (den_pos b) ⟨by have:=ok.bd;have:(2:Nat)^4=16:=⋯;lia⟩;exact⟨⟨ok,h1,h6,⟨λx hx=>(ph x hx).nn,λx hx=>(ph x hx).lt⟩,61,c1,by lia⟩,c1⟩
def kQ(a b:Rat)(xs:List Rat)(i:Nat):Prop:=bX a b xs i+304*(ag (ai a b xs i)).length<=8+304*xs.length/\i+248*(ag (ai a b xs i)).length<=1+248*8
structure fZ(a b:Rat)(xs:List Rat)(es:List (Nat × Nat × Nat))(n:Nat)(w:String):Prop where
 walk:gU a b xs 0 es n
 e1:1<=es.length
 b8:es.length<=9
 n1:1<=n
 word:c_ a b (ai a b xs n)=some w
 sp:kQ a b xs n
theorem cF.kY{a:Rat}(h:cF a b xs){k:Nat}(hg:bX a b xs (i+k)+304<=20+304*xs.length)(hk:k<=2048):Cm 70000 (aT a b (ai a b xs i) k::ai a b (ai a b xs i) k):=by
 obtain⟨m,c,hm⟩:=h.sz;exact(Nn h.ok c h.h1 h.hp (i:=i) (k:=k) (l:=11) (by rw[show(2:Nat)^11=2048 by decide];exact hk)).mono ()
theorem cF.cm{a:Rat}(h:cF a b xs)(hg:bX a b xs i+304<=20+304*xs.length)(hi:i<=2048):Cm 70000 (aT a b xs i::ai a b xs i):=h.kY (i:=0) (k:=i) (by rw[Nat.zero_add];exact hg) hi
theorem cF.Jq{a:Rat}(h:cF a b xs)(h1:1<=i)(c:Cm 70000 (aT a b xs i::ai a b xs i)):gA a b (ai a b xs i) :=
 ⟨h.ok,by rw[a_];exact h.h1,by rw[a_];have:=h.h6;lia,h.hp.at h.ok.a0 h.ok.b0 i,h.hp.zero h.ok.a0 h.ok.b0 h.h1 h1,(og c λy hy=>wA _ hy).mono ⋯⟩
theorem cF.nf{a:Rat}(h:cF a b xs)(i:Nat):1<=(ag (ai a b xs i)).length/\(ag (ai a b xs i)).length<=8:=by
 have:=jZ (ai a b xs i);rw[a_]at this;have h6:=h.h6;exact⟨ly (by rw[a_];exact h.h1),by lia⟩
theorem cF.nl{a:Rat}(i:Nat):(ag (ai a b xs i)).length<=xs.length:=by
 have:=jZ (ai a b xs i);rw[a_]at this;exact this
theorem cF.one{a:Rat}(h:cF a b xs):kQ a b xs 1:=by
 have h6:=h.h6;have h1:=h.h1;have:=rO h.ok.a0 h.ok.b0 h.h1 h.hp 1;have:=(h.nf 1).2;have:=cF.nl (a:=a) (b:=b) (xs:=xs) 1;exact⟨by lia,by lia⟩
theorem cF.within{a:Rat}(h:cF a b xs){g t:Nat}(i1:1<=i)(sp:kQ a b xs i)(n2:2<=(ag (ai a b xs i)).length)(R:gb a b (ai a b xs i) r g)(ht:t<=g):bX a b xs (i+(r*(ag (ai a b xs i)).length+t))+304<=20+304*xs.length/\i+(r*(ag (ai a b xs i)).length+t)<=2048/\bX a b xs (i+(r*(ag (ai a b xs i)).length+t))<=bX a b xs i+304/\r*(ag (ai a b xs i)).length+t<=248:=by
 have h6:=h.h6;have nf:=(h.nf i).2;have hl:=a_ a b xs i;have g1:=R.bX h.ok (by rw[hl];exact h.h1) (h.hp.at h.ok.a0 h.ok.b0 i) (h.hp.zero h.ok.a0 h.ok.b0 h.h1 i1) ht;rw[hl]at g1
 have g2:30*xs.length+xs.length*xs.length<=304:=by
  have:xs.length*xs.length<=8*8:=qd h6 h6;lia
 have g3:r*(ag (ai a b xs i)).length<=30*8:=qd R.l_ nf;have g4:=R.gN;obtain⟨s1,s2⟩:=sp;rw[mI];exact⟨by lia,by lia,by lia,by lia⟩
theorem cF.next{a:Rat}(h:cF a b xs){g:Nat}(i1:1<=i)(sp:kQ a b xs i)(n2:2<=(ag (ai a b xs i)).length)(R:gb a b (ai a b xs i) r g):kQ a b xs (d_ a b xs i r g):=by
 obtain⟨_,_,w1,w2⟩:=h.within i1 sp n2 R (wo g);have f:=R.Jk h.ok (by rw[a_];exact h.h1) (h.hp.at h.ok.a0 h.ok.b0 i);rw[fb]at f;obtain⟨s1,s2⟩:=sp;unfold kQ d_;exact⟨by lia,by lia⟩
theorem KJ{a:Rat}(h:c_ a b xs=none)(h1:1<=(ag xs).length):2<=(ag xs).length:=by
 unfold c_ at h
 split at h
 ·cases h
 ·lia
def kh(a b:Rat)(xs:List Rat):Prop:=∃es i,gU a b xs 0 es i/\1<=i/\c_ a b (ai a b xs i)=none /\ ∀k,k<=30->cj a b (aX (ai a b xs i)) (bP (ai a b xs i)) k=true
def Mu(K:wb)(a:Ad):Sp:=λvs H Q E=>∃x0,vs=[x0] /\ ∃(ra rb:Rat)(xs:List Rat),Is K H x0 (bo ra rb xs)/\cF ra rb xs /\
 (kh ra rb xs->∀H',aj H H'->E (.ref a.cN) none H') /\ ∀l H' es n w,fZ ra rb xs es n w->H l=none->aj H H'->Is K H' (.ref l) (.list (Et ra rb xs es n w))->Q (.ref l) H'
theorem OM{v:V}(h:Is K H v (bo ra rb xs))(ok:cF ra rb xs)(qe:kh ra rb xs->∀H',aj H H'->E (.ref a.cN) none H')(q:∀l H' es n w,fZ ra rb xs es n w->H l=none->aj H H'->Is K H' (.ref l) (.list (Et ra rb xs es n w))->Q (.ref l) H'):Mu K a [v] H Q E:=⟨_,rfl,ra,rb,xs,h,ok,qe,q⟩
theorem LS(T:Txt P K mg a):aJ P w K mg base (eO P w) 13 a.IA a.Hn Af (Mu K a):=by
 refine T.AS.F.pY lU ?_ ?_;wtm_at "b1"
 refine⟨_,(ak (ay 1 lU.nd (cR (ae (aY (by exact(@ae _ _ _ _ _ (br (v:=.ref a.cV) rfl T.dN rfl) (@ae _ _ _ _ _ (qi 0) (@ae _ _ _ _ _ av (@ae _ _ _ _ _ av ah yD) yD) iX) dY))) ah)))
     (ak (ay 2 lU.nd j5)
     (ak (lF uE (d8 N1 (pv 2) j5 (du _)) (ak (ay 3 lU.nd (cT cE (pv 1) (jA jw av) (λ_ _=>rfl)))
     (ak (ay 4 lU.nd (ar (znt T) hr T.GU (ae (aY (ae (qi 0) (ae (qi 3) ah))) (ae (qi 3) (ae (qi 3) ah)))))
     (ak (ay 5 lU.nd (ar (gB T) hr T.fU (ae (qi 3) (ae (qi 4) ah))))
     (ak (ay 2 lU.nd (ar (ztf T) hr T.HS (ae (qi 4) ah)))
     (au (kb (jS Wn Wg Wh jE (pv 1) (ae (zH (d8 N1 (pv 2) j5 (du _)) (lH (zrk T) hr T.HK yS (ae (pv 5) (ae (qi 4) ah))) (aY (ae (pv 5) (ae (n_ (qi 4)) (q1 2))))) ah)))))))))
     (au (aE (pv 1)))))),?_⟩
 wtm_at "cl";rw[show start Nh [x0]=[some x0,none,none,none,none,none]from rfl];obtain⟨ra,rb,xs,hw,ok,qe,q⟩:=h;o_head aF (j:=1) hw rfl (λv1 i1=>?_);o_head cg (ds:=[N 0,TN xs,.int 0,.int 1]) ∅ (.cons (dU 0 (T.eJ _) rfl rfl) (.cons i1 (.cons (bW.mpr rfl) (.cons (bW.mpr rfl) .nil)))) (λv2 H2 S2 i2=>?_);o_head eX ∅ (λlr H3 n3 S3 e3=>?_);have hlr:H lr=none:=lP S2 n3;k_few
 refine rq (λm σ' H'=>∃(us:List V)(es:List (Nat × Nat × Nat))(vw:V)(o3 o4 o5:Option V),σ'=[some x0,some (.ref lr),some vw,o3,o4,o5]/\aj H H'/\H' lr=some (.lst us) /\
   ((vw=.bC /\ ∃i r g,gU ra rb xs 0 es i/\rT ra rb xs i r g/\ao K H' us ((es++[(i,r,g)]).map (pU ra rb xs))/\(1<=i->kQ ra rb xs i)/\es.length+(ag (ai ra rb xs (d_ ra rb xs i r g))).length<=8/\m=(ag (ai ra rb xs (d_ ra rb xs i r g))).length) \/
     ∃n w,vw=.str (wH w)/\fZ ra rb xs es n w/\ao K H' us (Et ra rb xs es n w)/\m=0)) _ ⟨[v2],[],.bC,_,_,_,rfl,S2.trans S3,e3,.inl ⟨rfl,0,0,1,rfl,.inl ⟨rfl,rfl,rfl⟩,.cons (i2.by S3) .nil,λh=>by lia,by have:=(ok.nf (d_ ra rb xs 0 0 1)).2;simpa using this,rfl⟩⟩ ?_
 rintro m σ' H4 ⟨us,es,vw,o3,o4,o5,rfl,S4,e4,C⟩;rcases C with⟨rfl,i,r,g,wk,ro,t4,sp,b8,rfl⟩ | ⟨n,w',rfl,P,t4,rfl⟩
 . have hN:=(ok.nf i).2
   have h6:=ok.h6;have h1L:=ok.h1
   have facts:g<=40/\(1<=r->gA ra rb (ai ra rb xs i)/\r<=30/\kr ra rb (ai ra rb xs i) r)/\bX ra rb xs (d_ ra rb xs i r g)+304<=20+304*xs.length/\d_ ra rb xs i r g<=2048/\bX ra rb xs i+304<=20+304*xs.length/\i<=2048/\(∀t,t<=g->bX ra rb xs (i+(r*(ag (ai ra rb xs i)).length+t))+304<=20+304*xs.length)/\kQ ra rb xs (d_ ra rb xs i r g)/\r<=30:=by
     rcases ro with⟨rfl,rfl,rfl⟩ | ⟨i1,hno,R⟩
     . have e:d_ ra rb xs 0 0 1=1:=by unfold d_;lia
       have h2:=rO ok.ok.a0 ok.ok.b0 ok.h1 ok.hp;refine⟨by lia,λz=>by lia,by rw[e];have:=h2 1;lia,by lia,by have:=h2 0;lia,by lia,λt ht=>?_,by rw[e];exact ok.one,by lia⟩;have h3:=h2 (0+(0*(ag (ai ra rb xs 0)).length+t));have h4:(0+(0*(ag (ai ra rb xs 0)).length+t))*xs.length<=1*8:=qd () h6;lia
     . have n2:=KJ hno (ok.nf i).1
       have sp:=sp i1;have w:=λ{t:Nat}(ht:t<=g)=>ok.within i1 sp n2 R ht
       have w0:=w (wo g);have g4:=R.gN;have si:=sp.1;have si2:=sp.2;have c:Cm 70000 (aT ra rb xs i::ai ra rb xs i):=ok.cm () ();exact⟨by lia,λ_=>⟨ok.Jq i1 c,R.l_,R.free⟩,w0.1,w0.2.1,by lia,by lia,λt ht=>(w ht).1,ok.next i1 sp n2 R,R.l_⟩
   obtain⟨g40,fr,gl,nl,gi,ni,gw,sl,l_⟩:=facts;have cI:=ok.cm gi ni;have cL:=ok.cm gl nl
   have n1:1<=d_ ra rb xs i r g:=by
     unfold d_;rcases ro with⟨rfl,rfl,rfl⟩ | ⟨i1,hno,R⟩
     . lia
     . lia
   have swL:=ok.Jq n1 cL;have hrN:r*(ag (ai ra rb xs i)).length<=30*8:=qd l_ hN;have hul:=t4.length;rw[wm,wT,Wi]at hul;have hnf:=(ok.nf (d_ ra rb xs i r g)).1;o_head oW ?_;k_few
   have il:Is K H4 (.ref lr) (.list (es.map (pU ra rb xs)++[pU ra rb xs (i,r,g)])):=by
     rw[vQ]at t4;exact cf.mpr ⟨lr,us,rfl,.of e4,t4⟩
   refine rL il (λv5 i5=>?_);have i5:Is K H4 v5 (nF (aT ra rb xs i) (ai ra rb xs i) r g):=i5;have hw4:=hw.by S4;o_head aF (j:=0) hw4 rfl (λv6 i6=>?_);o_head aF (j:=1) i5 rfl (λv7 i7=>?_);o_head cg (ds:=[R ra rb,TN (ai ra rb xs i)]) ∅ (.cons i6 (.cons i7 .nil)) (λv8 H8 S8 i8=>?_);have i58:=i5.by S8;o_head aF (j:=2) i58 rfl (λv9 i9=>?_);rw[bW.mp i9];o_head aF (j:=3) i58 rfl (λv10 i10=>?_);rw[bW.mp i10];k_few;have bH:af 160000 (aT ra rb (ai ra rb xs i) (r*(ag (ai ra rb xs i)).length)):=((ok.kY (i:=i) (k:=r*(ag (ai ra rb xs i)).length) (by have:=gw 0 ();rw[X3]at this;exact this) ()).f_ (wD ..)).mono ⋯
   have cG:∀t,t<=g->Cm 74000 (aT ra rb (ai ra rb (ai ra rb xs i) (r*(ag (ai ra rb xs i)).length)) t::ai ra rb (ai ra rb (ai ra rb xs i) (r*(ag (ai ra rb xs i)).length)) t):=λt ht=>by
     rw[fb ra rb xs];exact(ok.kY (i:=i+r*(ag (ai ra rb xs i)).length) (k:=t) (by have:=gw t ht;rw[<- VW]at this;exact this) ()).mono ⋯
   refine ZZ (show Is K H8 v8 (bo ra rb (ai ra rb xs i))from i8) ok.ok (by rw[a_];exact ok.h1) (by rw[a_];lia) fr g40 bH cG (λv11 H11 S11 i11=>?_);have i11:Is K H11 v11 (.tuple [N (aT ra rb (ai ra rb xs i) (r*(ag (ai ra rb xs i)).length+g)),bo ra rb (ai ra rb (ai ra rb xs i) (r*(ag (ai ra rb xs i)).length+g))]):=i11;rw[fb]at i11;have i11:Is K H11 v11 (.tuple [N (aT ra rb (ai ra rb xs i) (r*(ag (ai ra rb xs i)).length+g)),bo ra rb (ai ra rb xs (d_ ra rb xs i r g))]):=i11;have i511:=i58.by S11;have bI:af 70000 (aT ra rb xs i):=cI.f_ (wD ..);have bJ:af 70000 (aT ra rb (ai ra rb xs i) (r*(ag (ai ra rb xs i)).length+g)):=(ok.kY (i:=i) (k:=r*(ag (ai ra rb xs i)).length+g) gl ()).f_ (wD ..);o_head aF (j:=0) i511 rfl (λv12 i12=>?_);o_head aF (j:=0) i11 rfl (λv13 i13=>?_);k_few;rename_i v14 H14 S14 i14;rw[nz]at i14;have i14:Is K H14 v14 (N (aT ra rb xs (d_ ra rb xs i r g))):=i14;have i1114:=i11.by S14;refine aF (j:=1) i1114 rfl (λv15 i15=>?_);have i15:Is K H14 v15 (bo ra rb (ai ra rb xs (d_ ra rb xs i r g))):=i15;o_head zts i15 swL (λH16 S16=>?_);have S816:=S8.trans (S11.trans (S14.trans S16));have e16:=S816 _ _ e4;have t16:ao K H16 us ((es++[(i,r,g)]).map (pU ra rb xs)):=ao.same S816 _ _ t4;have S416:=S4.trans S816;have i1116:=i1114.by S16;have i1416:=i14.by S16;have i1516:=i15.by S16;have wk':=wk.snoc ro;generalize hlead:d_ ra rb xs i r g=n at *;cases hwd:c_ ra rb (ai ra rb xs n)with
   | none =>
     show fG 2 V.bC _ _ _
     o_head iC (aG.of e16) ?_;o_head aF (j:=1) i1116 rfl (λv17 i17=>?_);k_few;have n2:=KJ hwd hnf;refine zq0 i1416 (show Is K H16 v17 (bo ra rb (ai ra rb xs n))from i17) swL hwd (λr' g' t R ht=>?_) (λz H' S=>qe ⟨_,n,wk',n1,hwd,z⟩ H' (S416.trans S)) (λr' g' v18 H18 R S18 i18=>?_)
     . have w:=ok.within n1 sl n2 R ht
       rw[fb];exact(og (ok.cm w.1 w.2.1) λy hy=>wA _ hy).mono ⋯
     . k_few
       have e18:=S18 _ _ e16;refine hW e18 () (λH19 E19 e19=>?_);have K19:=E19.keep e18;have fw:=R.Jk ok.ok (by rw[a_];exact ok.h1) (ok.hp.at ok.ok.a0 ok.ok.b0 n);rw[fb]at fw;have fw:(ag (ai ra rb xs (d_ ra rb xs n r' g'))).length<(ag (ai ra rb xs n)).length:=fw;o_head ⟨_,fw,us++[v18],es++[(i,r,g)],.bC,_,_,_,rfl,(S416.trans S18).grow hlr E19,e19,.inl ⟨rfl,n,r',g',wk',.inr ⟨n1,hwd,R⟩,?_,λ_=>sl,?_,rfl⟩⟩
       . rw[vQ]
         exact(ao.keep K19 _ _ (rS _ (λe=>EO _ _ _ _) _) (ao.same S18 _ _ t16)).append (.cons (i18.kU K19 (EO _ _ _ _)) .nil)
       . rw[wT,Wi]
         lia
   | some wd =>
     show fG 2 (V.str (wH wd)) _ _ _
     o_head iC (aG.of e16) ?_;k_few
     . rename_i z;cases z
     . refine aF (j:=1) i1116 rfl (λv17 i17=>?_)
       o_head aF (j:=1) i17 rfl (λv18 i18=>?_);o_head cg (ds:=[N (aT ra rb xs n),TN (ai ra rb xs n),.str (wH wd)]) ∅ (.cons i1416 (.cons i18 (.cons (cb.mpr rfl) .nil))) (λv19 H19 S19 i19=>?_);k_few;have e19:=S19 _ _ e16;refine hW e19 () (λH20 E20 e20=>?_);have K20:=E20.keep e19;o_head ⟨0,by lia,us++[v19],es++[(i,r,g)],_,_,_,_,rfl,(S416.trans S19).grow hlr E20,e20,.inr ⟨n,wd,rfl,⟨wk',by simp,by rw[wT,Wi];lia,n1,hwd,sl⟩,?_,rfl⟩⟩;exact(ao.keep K20 _ _ (rS _ (λe=>EO _ _ _ _) _) (ao.same S19 _ _ t16)).append (.cons (i19.kU K20 (zvA _ _ _ _ _)) .nil)
 . k_few
   . rename_i z;cases z
   . exact q lr H4 es n w' P hlr S4 (cf.mpr ⟨lr,us,rfl,.of e4,t4⟩)
theorem zw7{a:Rat}{g r' g':Nat}(R:gb a b xs r g)(S:gb a b xs r' g'):r=r'/\g=g':=by
 have er:r=r':=by
  rcases W1 r r' with z | z | z
  ·have:=S.free r z;rw[R.ends]at this;cases this
  ·exact z
  ·have:=R.free r' z;rw[S.ends]at this;cases this
 subst er;refine⟨rfl,?_⟩;have g1:=R.g1;have g2:=S.g1;have j1:=R.join;have j2:=S.join;rcases W1 g g' with z | z | z
 ·have:=S.one (g-1) ();lia
 ·exact z
 ·have:=R.one (g'-1) ();lia
theorem J_{a:Rat}{g r' g':Nat}(R:rT a b xs i r g)(S:rT a b xs i r' g'):r=r'/\g=g':=by
 rcases R with⟨e,rfl,rfl⟩ | ⟨i1,_,R⟩<;>rcases S with⟨e',rfl,rfl⟩ | ⟨i1',_,S⟩
 ·exact⟨rfl,rfl⟩
 ·lia
 ·lia
 ·exact zw7 R S
theorem Tq{a b:Rat}{xs:List Rat} : ∀{es es':List (Nat × Nat × Nat)}{i n n':Nat},gU a b xs i es n->gU a b xs i es' n'->1<=n->c_ a b (ai a b xs n)≠none->1<=n'->c_ a b (ai a b xs n')=none->(∀k,k<=30->cj a b (aX (ai a b xs n')) (bP (ai a b xs n')) k=true)->False
 | [],[],i,n,n',h,k,n1,w,_,w',_=>by
  have e:i=n:=h;have e':i=n':=k;subst e;subst e';exact w w'
 | [],f::fs,i,n,n',h,k,n1,w,_,_,_=>by
  have e:i=n:=h;subst e;rcases k.2.1 with⟨z,_,_⟩ | ⟨_,z,_⟩
  ·lia
  ·exact w z
 | e::es,[],i,n,n',h,k,_,_,n1',_,all=>by
  have e':i=n':=k;subst e';rcases h.2.1 with⟨z,_,_⟩ | ⟨_,_,R⟩
  ·lia
  ·have:=R.ends
   rw[all _ R.l_]at this;cases this
 | e::es,f::fs,i,n,n',h,k,n1,w,n1',w',all=>by
  obtain⟨e1,e2⟩:=J_ h.2.1 k.2.1;have k2:=k.2.2;rw[<- e1,<- e2]at k2;exact Tq h.2.2 k2 n1 w n1' w' all
theorem Ke{a b:Rat}{xs:List Rat} : ∀{es es':List (Nat × Nat × Nat)}{i n n':Nat},gU a b xs i es n->gU a b xs i es' n'->1<=n->c_ a b (ai a b xs n)≠none->1<=n'->c_ a b (ai a b xs n')≠none->es=es'/\n=n'
 | [],[],i,n,n',h,k,_,_,_,_=>⟨rfl,(show i=n from h).symm.trans k⟩
 | [],f::fs,i,n,n',h,k,n1,w,_,_=>by
  have e:i=n:=h;subst e;rcases k.2.1 with⟨z,_,_⟩ | ⟨_,z,_⟩
  ·lia
  ·exact absurd z w
 | e::es,[],i,n,n',h,k,_,_,n1',w'=>by
  have e':i=n':=k;subst e';rcases h.2.1 with⟨z,_,_⟩ | ⟨_,z,_⟩
  ·lia
  ·exact absurd z w'
 | e::es,f::fs,i,n,n',h,k,n1,w,n1',w'=>by
  obtain⟨e1,e2⟩:=J_ h.2.1 k.2.1;have k2:=k.2.2;rw[<- e1,<- e2]at k2;obtain⟨q1,q2⟩:=Ke h.2.2 k2 n1 w n1' w';refine⟨?_,q2⟩;rw[q1]
  congr 1
  exact VT (h.1.trans k.1.symm) (VT e1 e2)
theorem Sj{a:Rat}{es es':List (Nat × Nat × Nat)}{n':Nat}{w w':String}(P:fZ a b xs es n w)(S:fZ a b xs es' n' w'):es=es'/\n=n'/\w=w':=by
 have hw:=P.word;have hw':=S.word;obtain⟨e1,e2⟩:=Ke P.walk S.walk P.n1 (by rw[hw];simp) S.n1 (by rw[hw'];simp);subst e2;rw[hw]at hw';exact⟨e1,rfl,wN hw'⟩
theorem CH{a:Rat}{es:List (Nat × Nat × Nat)}{w:String}(P:fZ a b xs es n w)(F:kh a b xs):False:=by
 obtain⟨es',i,h,i1,hw,all⟩:=F;exact Tq P.walk h P.n1 (by rw[P.word];simp) i1 hw all
def eD(w:String)(n:Nat):wG:=.tuple [.str (wH w),.int (n:Int)]
def Cq(K:wb)(a:Ad):Sp:=λvs H Q E=>∃x0,vs=[x0] /\ ∃(ra rb:Rat)(xs:List Rat),Is K H x0 (bo ra rb xs)/\cF ra rb xs /\
 (kh ra rb xs->∀H',aj H H'->E (.ref a.cN) none H') /\ ∀es n w v H',fZ ra rb xs es n w->aj H H'->Is K H' v (eD w (ag (ai ra rb xs n)).length)->Q v H'
theorem zyU{v:V}(h:Is K H v (bo ra rb xs))(ok:cF ra rb xs)(qe:kh ra rb xs->∀H',aj H H'->E (.ref a.cN) none H')(q:∀es n w v H',fZ ra rb xs es n w->aj H H'->Is K H' v (eD w (ag (ai ra rb xs n)).length)->Q v H'):Cq K a [v] H Q E:=⟨_,rfl,ra,rb,xs,h,ok,qe,q⟩
theorem fZ.cm{a:Rat}{es:List (Nat × Nat × Nat)}{w:String}(P:fZ a b xs es n w)(ok:cF a b xs):Cm 70000 (aT a b xs n::ai a b xs n):=by
 have hnf:=ok.nf n;have s1:=P.sp.1;have s2:=P.sp.2;exact ok.cm () ()
theorem zzY(T:Txt P K mg a):aJ P w K mg base (eO P w) 14 a.Jm a.IS zo (Cq K a):=by
 refine T.sL.F.pY Kp ?_ ?_;wtm_at "b1"
 refine⟨_,(ak (ay 1 Kp.nd (cT cE (lH (LS T) hr T.AS yS (q1 0)) (jA jw av) (λ_ _=>rfl)))
     (au (aE (aY (ae (qi 1) (ae (ee K T.h0S (ae (ar (Bu T) hr T.sv (ae (aY (ae (qi 0) (ae (qi 1) ah))) ah)) ah)) ah)))))),?_⟩
 wtm_at "cl";rw[show start SH [x0]=[some x0,none]from rfl];obtain⟨ra,rb,xs,hw,ok,qe,q⟩:=h;have h6:=ok.h6;o_head OM hw ok qe (λl H1 es n wd P hl S1 i1=>?_);have c:=P.cm ok;have bx:∀i,af 80000 ((ai ra rb xs n).getD i 0):=λi=>((og c λy hy=>wA _ hy).get i).mono ⋯
 have hw1:=hw.by S1;o_head rL i1 (λv2 i2=>?_);have i2:Is K H1 v2 (.tuple [N (aT ra rb xs n),TN (ai ra rb xs n),.str (wH wd)]):=i2;o_head aF (j:=2) i2 rfl (λv3 i3=>?_);rw[cb.mp i3];o_head aF (j:=0) hw1 rfl (λv4 i4=>?_);o_head aF (j:=1) i2 rfl (λv5 i5=>?_);o_head cg (ds:=[R ra rb,TN (ai ra rb xs n)]) ∅ (.cons i4 (.cons i5 .nil)) (λv6 H6 S6 i6=>?_);o_head Cr (show Is K H6 v6 (bo ra rb (ai ra rb xs n))from i6) (by rw[a_];lia) bx (λlf H7 us7 n7 S7 e7 t7=>?_);have hul:=t7.length;rw[wm]at hul;o_head iu (.of e7) ?_;rw[hul];o_head cg (ds:=[.str (wH wd),.int ((ag (ai ra rb xs n)).length:Int)]) ∅ (.cons (cb.mpr rfl) (.cons (bW.mpr rfl) .nil)) (λv8 H8 S8 i8=>?_);exact q es n wd v8 H8 P (S1.trans (S6.trans (S7.trans S8))) i8
def cq(H:Hp)(p:wg)(k:Int):Prop:=∃a b n:Int,H p=some (.lst [.int a,.int b,.int n])/\0<=n/\n<=k
theorem cq.same{H':Hp}{k:Int}(s:aj H H')(h:cq H p k):cq H' p k:=by
 obtain⟨x,y,n,e,h1,h2⟩:=h;exact⟨x,y,n,s _ _ e,h1,h2⟩
theorem cq.le{j k:Int}(h:cq H p j)(e:j<=k):cq H p k:=by
 obtain⟨x,y,n,z,h1,h2⟩:=h;exact⟨x,y,n,z,h1,Int.le_trans h2 e⟩
theorem cq.ne{k:Int}(e:H q=none)(h:cq H p k):q≠p:=by
 obtain⟨x,y,n,z,_⟩:=h;exact(km z e).symm
def JF(K:wb):Sp:=λvs H Q _=>∃x0 x1,vs=[x0,x1] /\ ∃(a:wg)(ns:List Int)(k:Int),x0=.ref a/\x1=.int k/\j9 K H a (ns.map V.int)/\ns.length<=63/\0<=k/\k<=1000 /\
 ∀p H',H p=none->aj H H'->cq H' p 0->Q (.ref p) H'
theorem zth{a:wg}{k:Int}(h:j9 K H a (ns.map V.int))(hl:ns.length<=63)(h0:0<=k)(h1:k<=1000)
  (q:∀p H',H p=none->aj H H'->cq H' p 0->Q (.ref p) H'):JF K [.ref a,.int k] H Q E:=⟨_,_,rfl,a,ns,k,rfl,rfl,h,hl,h0,h1,q⟩
local macro_rules | `(tactic| wtm_at "pen")=>`(tactic| first
 | assumption
 | (apply cq.same;(focus assumption);wtm_at "pen"))
local macro_rules | `(tactic| wtm_at "ne")=>`(tactic| ((with_reducible apply cq.ne); (focus assumption); wtm_at "pen"))
local macro_rules | `(tactic| wtm_at "penle")=>`(tactic| exact cq.le (by wtm_at "pen") ())
theorem zsy(T:Txt P K mg a):aJ P w K mg base aR 1 a.IV a.HN sT (JF K):=by
 refine T.HY.F.ok y7 ?_ ?_;wtm_at "b2"
 refine⟨_,(ak (ay 2 y7.nd (aB bZ (aB bZ (aB cx (aB cx av (pv 1)) (pv 1)) (aB cx av (pv 1))) av))
     (ak (bE (d8 p_ (pv 1) (ee K T.h0S (q1 0)) (du _)) (au (ay 2 y7.nd (cT cE (pv 0) (pv 1) (λ_ _=>rfl)))) (au (bE (d8 mD (ee K T.h0S (q1 0)) av (du _)) (au (ay 2 y7.nd (aB bZ (cT cE (pv 0) (aB gC (pv 1) (ee K T.h0S (q1 0))) (λ_ _=>rfl)) (aB cx av (pv 1))))) bN)))
     (ak (bE (d8 yI (pv 2) (Td (v:=1000000000000000000) ⟨by decide,by decide,by decide⟩ (by decide +kernel)) (du _)) (au (aE (cR (ae (aB pM (pv 2) (Td (v:=1000000000000000000) ⟨by decide,by decide,by decide⟩ (by decide +kernel))) (ae (aB gC (pv 2) av) (ae av ah)))))) bN)
     (au (aE (cR (ae av (ae (aB bZ (aB gC (pv 2) av) (aB cx av (pv 1))) (ae av ah))))))))),?_⟩
 wtm_at "cl";rw[show start Tx [x0,x1]=[some x0,some x1,none]from rfl];obtain⟨a',ns,k,rfl,rfl,hs,hl,h0,h1,q⟩:=h;have fin:∀(x y:Int),Ae K [.int x,.int y,.int 0] H Q:=λx y=>eX (by show 3<=1000;decide) λp H' hp s e=>q p H' hp s ⟨x,y,0,e,by decide,by decide⟩
 o_head iu hs.sq ?_;k_few
 . refine Oq hs h0 (by assumption) (λz=>?_)
   k_few
   all_goals exact fin _ _
 . refine iu hs.sq ?_
   k_few
   . refine iu hs.sq ?_
     o_head Oq hs (QY _ ()) (Qt _ ()) (λz=>?_);k_few
     all_goals exact fin _ _
   all_goals exact fin _ _
def Tf(K:wb):Sp:=λvs H Q _=>∃x0 x1,vs=[x0,x1] /\ ∃(p:wg)(k m:Int),x0=.ref p/\x1=.int m/\cq H p k/\k<=1000000/\0<m/\Bd 179980 m /\
 ∀(r:Int)(H':Hp),0<=r->r<m->Exc p H H'->aV H H'->cq H' p (k+1)->Q (.int r) H'
theorem zqY{k m:Int}(h:cq H p k)(hk:k<=1000000)(hm:0<m)(hb:Bd 179980 m)
  (q:∀(r:Int)(H':Hp),0<=r->r<m->Exc p H H'->aV H H'->cq H' p (k+1)->Q (.int r) H'):Tf K [.ref p,.int m] H Q E:=⟨_,_,rfl,p,k,m,rfl,rfl,h,hk,hm,hb,q⟩
local macro_rules | `(tactic| wtm_at "gs")=>`(tactic| ((with_reducible apply zqY); (focus wtm_at "pen"); (focus lia); (focus lia); (focus wtm_at "bd128"); intro _ _ _ _ _ _ _))
theorem dS(T:Txt P K mg a):aJ P w K mg base aR 1 a.Iz a.Hg yU (Tf K):=by
 refine T.dG.F.ok y9 ?_ ?_;wtm_at "b2"
 refine⟨_,(ak (nC (aB bZ (qi 0) av) (tX (pv 0) av tm))
     (ak (bE (d8 mD (qi 0) av (du _)) (ak (ay 2 y9.nd (aB gC (qi 0) (pv 1)))
     (ak (nC (aB (fv T.tr hr ⟨_,_,rfl⟩) (qi 0) (pv 1)) (tX (pv 0) av tm))
     (au (aE (pv 2))))) bN)
     (ak (ay 3 y9.nd (aB gC (aB bZ (aB bZ (aB cx (qi 0) av) (aB cx (aB cx av (qi 0)) (qi 0))) av) av))
     (ak (ay 3 y9.nd (aB gC (aB cx (pv 3) (aB bZ (aB gC (pv 3) av) (qi 0))) av))
     (au (aE (aB gC (aB (fv T.tr hr ⟨_,_,rfl⟩) (aB gC (aB cx (pv 3) (aB bZ (aB gC (pv 3) av) av)) av) av) (pv 1)))))))),?_⟩
 wtm_at "cl";rw[show start PR [x0,x1]=[some x0,some x1,none,none]from rfl];obtain⟨p,k,m,rfl,rfl,⟨x,y,n,hp,hn0,hn1⟩,hk,hm,hbm,q⟩:=h;k_few
 all_goals
   exact q _ _ (QY _ ()) (Qt _ hm) (by wtm_at "exc") (Exc.keep (p:=p) (by wtm_at "exc") hp) ⟨_,_,_,by assumption,by lia,by lia⟩
def EJ(K:wb):Sp:=λvs H Q _=>∃x0 x1,vs=[x0,x1] /\ ∃(t b:Int),x0=.int t/\x1=.int b/\b≠0/\Bd 179980 b/\Rs K H Q (N (wy t b))
theorem zR{b:Int}(hb:b≠0)(hB:Bd 179980 b)(q:Rs K H Q (N (wy t b))):EJ K [.int t,.int b] H Q E:=⟨_,_,rfl,t,b,rfl,rfl,hb,hB,q⟩
theorem zvf{b:Int}(hb:b≠0)(h1 : -100000000000000000000000000000000000000<=t)(h2:t<=100000000000000000000000000000000000000)(h3 : -100000000000000000000000000000000000000<=b)(h4:b<=100000000000000000000000000000000000000)
  (q:∀v H' (x:Rat),aj H H'->Is K H' v (N x)->x=wy t b->af 128 x->Q v H'):EJ K [.int t,.int b] H Q E :=
 zR hb ((Bd.mG h3 h4).mono ⋯) λv H' s h=>q v H' _ s h rfl (af.divInt hb (Bd.mG h1 h2) (Bd.mG h3 h4))
local macro_rules | `(tactic| wtm_at "gs")=>`(tactic| ((with_reducible apply zvf); (focus lia); (focus lia); (focus lia); (focus lia); (focus lia); intro _ _ _ _ _ _ _))
theorem hJ(T:Txt P K mg a):aJ P w K mg base aR 1 a.IZ a.HJ yz (EJ K):=by
 refine T.gu.F.ok pP ?_ ?_;wtm_at "b2"
 refine⟨_,(ak (ay 2 pP.nd (cy nH rfl T.h0W mU (q1 0)))
     (ak (ay 3 pP.nd (cy nH rfl T.h0W mU (q1 1)))
     (ak (lF vC (d8 mD (pv 3) av (du _)) (au (zBF (i:=2) (j:=3) rfl pP.nd rfl rfl ⋯ rfl rfl (ae (pv 3) (ae (aB gC (pv 2) (pv 3)) ah)) rfl)))
     (ak (bE (d8 p_ (pv 1) av (du _)) (au (ay 2 pP.nd (aB pM av (pv 2)))) bN)
     (au (aE (aY (ae (aB (fv T.tr hr ⟨_,_,rfl⟩) (pv 0) (pv 2)) (ae (aB (fv T.tr hr ⟨_,_,rfl⟩) (pv 1) (pv 2)) ah))))))))),?_⟩
 wtm_at "cl";rw[show start Ot [x0,x1]=[some x0,some x1,none,none]from rfl];obtain⟨t,b,rfl,rfl,hb,hB,q⟩:=h;o_head Me (λσ H'=>∃(x y:Int),σ = [some (.int t),some (.int b),some (.int x),some (.int y)]/\0<=x/\0<=y/\vy x y=vy t b/\H'=H) (λσ=>(Tj σ 3).toNat) ⟨_,_,rfl,by split<;>lia,by split<;>lia,?_,rfl⟩ ?_
 . have e1:vy (if t<0 then -t else t) (if b<0 then -b else b)=vy t b:=by
     split<;>split<;>simp
   exact e1
 rintro σ H' ⟨x,y,rfl,hx,hy,hg,rfl⟩
 have hgb:Bd 179980 ((vy t b:Nat):Int):=hB.le (by
   have:vy t b ∣ b.natAbs:=Int.gcd_dvd_natAbs_right t b;have:=UJ () this
   simpa using this)
 k_few
 . refine Lx ?_
   k_few;have h1:=QY x (show y≠0 by lia);have h2:=Qt x (show 0<y by lia);refine⟨?_,_,_,rfl,hy,h1,?_,rfl⟩
   . show(x % y).toNat<y.toNat
     lia
   . rw[<- hg];exact Mt () hx
 . rename_i h0 hneg
   have e0:y=0:=by lia
   subst e0
   have e:x=((vy t b:Nat):Int):=by
     rw[<- hg,xm];lia
   have e1:0-x=dv t b:=by unfold dv;rw[if_pos hneg,<- e];lia
   rw[e1];have hd:j7 t (dv t b):=⟨Fc hb,by unfold dv;rw[if_pos hneg];exact hgb.neg⟩;refine yr hd ?_;k_few;exact ig (BB hb) (OJ hb) q
 . rename_i h0 hneg
   have e0:y=0:=by lia
   subst e0
   have e:x=((vy t b:Nat):Int):=by
     rw[<- hg,xm];lia
   have e1:x=dv t b:=by unfold dv;rw[if_neg hneg,<- e]
   rw[e1];have hd:j7 t (dv t b):=⟨Fc hb,by unfold dv;rw[if_neg hneg];exact hgb⟩;refine yr hd ?_;k_few;exact ig (BB hb) (OJ hb) q
def Bf(K:wb)(a:Ad):wg->wf->Sp:=λex C vs H Q _=>∃x0,vs=[x0]/\x0=.ref ex /\ ∃w,LX a C w/\Rq H Q (.str w)
theorem zqN{ex:wg}{C:wf}{w:Str}(h:LX a C w)(q:Rq H Q (.str w)):Bf K a ex C [.ref ex] H Q E:=⟨_,rfl,rfl,w,h,q⟩
theorem zqu(T:Txt P K mg a):Ee P w K mg base 1 a.Iv a.G7 zl (Bf K a):=by
 refine T.sf.F.okH mC (λex C vs H Q E h=>by obtain⟨_,rfl,_⟩:=h;rfl) (λcdv A outer s H vs Q E ex C oe hr hd h=>?_);obtain⟨x0,rfl,h⟩:=h;have hu:=hr.units
 refine⟨_,(ak (ay 1 mC.nd (cR (ae (aY (ae cv (ae (cy (jK hd) rfl T.h0s fg (ae (pv 0) (ae (br (v:=.ref a.r_) rfl T.Yv rfl) ah))) ah))) (ae (aY (ae cv (ae (cy (jK hd) rfl T.h0s fg (ae (pv 0) (ae (br (v:=.ref a.sA) rfl T.YK rfl) ah))) ah))) ah))))
     (ak (ay 1 mC.nd (aB bZ (pv 1) (cR (ae (aY (ae cv (ae (cy (jK hd) rfl T.h0s fg (ae (pv 0) (ae (br (v:=.ref a.sh) rfl T.YE rfl) ah))) ah))) (ae (aY (ae cv (ae (cy (jK hd) rfl T.h0s fg (ae (pv 0) (ae (br (v:=.ref a.d4) rfl T.Ij rfl) ah))) ah))) ah)))))
     (ak (ay 1 mC.nd (aB bZ (pv 1) (cR (ae (aY (ae cv (ae (cy (jK hd) rfl T.h0s fg (ae (pv 0) (ae (br (v:=.ref a.cN) rfl T.Ih rfl) ah))) ah))) (ae (aY (ae cv (ae (cy (jK hd) rfl T.h0s fg (ae (pv 0) (ae (br (v:=.ref a.sG) rfl T.YL rfl) ah))) ah))) ah)))))
     (ak (ay 1 mC.nd (aB bZ (pv 1) (cR (ae (aY (ae cv (ae (cy (jK hd) rfl T.h0s fg (ae (pv 0) (ae (br (v:=.ref a.sx) rfl T.YJ rfl) ah))) ah))) (ae (aY (ae cv (ae (cy (jK hd) rfl T.h0s fg (ae (pv 0) (ae (br (v:=.ref a.sE) rfl T.YO rfl) ah))) ah))) ah)))))
     (ak (ay 1 mC.nd (aB bZ (pv 1) (cR (ae (aY (ae cv (ae (cy (jK hd) rfl T.h0s fg (ae (pv 0) (ae (br (v:=.ref a.sy) rfl T.YH rfl) ah))) ah))) ah))))
     (ak (Zv hd (i:=2) mC.nd rfl (Or.inl rfl) (cW ["_law_word","_law_one"] [none,none]) (zyq (pv 1)) (λ_ _ _ _ _=>by exact(zwA (n:=2) hd (dw (cC 0) (dw (cC 1) gZ)))) (λ_ _ _ _ _=>by exact(lM (di (pv 1)))) (λ_ _ _ _ _=>by exact(pv 0)))
     (ak (bE (PW.pt (iH (fR K hu (ee K T.h0S (q1 2)) av) (jr (dZ (di (cy (jK hd) rfl T.h0s fg (ae (pv 0) (ae (kW (v:=.ty "ValueError") rfl T.h0t znB rfl) ah)))))))) (au (aE cv)) bN)
     (au (aE (qi 2)))))))))),?_⟩
 wtm_at "cl";rw[show start SW [x0]=[some x0,none,none]from rfl];obtain⟨rfl,w,hw,q⟩:=h;rcases hw with⟨rfl,rfl⟩ | ⟨rfl,rfl⟩
 all_goals
   wtm_at "ga";refine zxZ (by assumption) (by repeat' (first | exact fI.nil | with_reducible apply fI.app | with_reducible apply fI.cons | (apply zzd;(focus assumption);(focus wtm_at "same")))) ⋯ (λD H1 S1 e1=>?_);simp only[jH,QL,Qf,WT,List.filter_nil,wV,Qk,w8,if_false,if_true]at e1;o_head iu (aG.of e1) ?_;rw[show((Xb [V.str _]:Nat):Int)=1 from rfl];k_few;exact q _ (by wtm_at "same")
def Pu(K:wb):Sp:=λvs H Q _=>∃x0,vs=[x0] /\ ∃(p:wg)(k:Int),x0=.ref p/\cq H p k/\k<=100000 /\ ∀v H' (a b:Rat),Exc p H H'->aV H H'->cq H' p (k+7)->Is K H' v (R a b)->aO a b->Q v H'
theorem Z6{k:Int}(h:cq H p k)(hk:k<=100000)(q:∀v H' (a b:Rat),Exc p H H'->aV H H'->cq H' p (k+7)->Is K H' v (R a b)->aO a b->Q v H') :
  Pu K [.ref p] H Q E:=⟨_,rfl,p,k,rfl,h,hk,q⟩
theorem zqL(T:Txt P K mg a):aJ P w K mg base aR 2 a.Ir a.Hs tf (Pu K):=by
 refine T.HG.F.ok mK ?_ ?_;wtm_at "b1"
 refine⟨_,(ak (ay 1 mK.nd (aB bZ av (ar (dS T) hr T.dG (ae (pv 0) (ae av ah)))))
     (ak (ay 2 mK.nd (ar (hJ T) hr T.gu (ae (cT cE (cR (ae (aB bZ av (ar (dS T) hr T.dG (ae (pv 0) (ae (aB cx av (pv 1)) ah)))) (q1 1))) (ke ym rfl T.h1f pQ (ae (ie K hu (ar (dS T) hr T.dG (ae (pv 0) (ae av ah))) av) ah)) (λ_ _=>rfl)) (q1 1))))
     (ak (ay 3 mK.nd (aB bZ av (ar (dS T) hr T.dG (ae (pv 0) (ae av ah)))))
     (ak (ay 4 mK.nd (ar (hJ T) hr T.gu (ae (aB (fv T.tr hr ⟨_,_,rfl⟩) (ar (dS T) hr T.dG (ae (pv 0) (ae (aB bZ (pv 3) av) ah))) (aB bZ av (ar (dS T) hr T.dG (ae (pv 0) (ae av ah))))) (q1 3))))
     (ak (bE (d8 p_ (aB bZ (aB cx (qi 2) (qi 4)) (aB cx (qi 4) (qi 2))) (aB cx (qi 2) (qi 4)) (du _)) (au (ay 4 mK.nd (ar (hJ T) hr T.gu (ae (aB pM (qi 2) (qi 2)) (ae (qi 2) ah))))) bN)
     (au (aE (aY (q2 2 4))))))))),?_⟩
 wtm_at "cl";rw[show start Rb [x0]=[some x0,none,none,none,none]from rfl];obtain⟨p,k,rfl,hp,hk,q⟩:=h;wtm_at "ga";rename_i z hz v1 H3 x S3 iv ex bx r1 H2 g0 g1 E2 K2 P2 r H1 g2 g3 E1 K1 P1 d H0 g4 g5 E0 K0 P0;have hd:j7 r (1+d):=⟨by lia,Bd.mono (Bd.mG () ()) ⋯⟩;have f0:0<=r.fdiv (1+d):=by rw[qT _ ()];exact Uh g2 ()
 have f1:r.fdiv (1+d)<=r:=by rw[qT _ ()];exact uT _ g2
 refine yr hd ?_;generalize r.fdiv (1+d)=w at f0 f1 ⊢;wtm_at "ga"
 . rename_i v H4 y S4 iy ey by' hlt
   refine zR (fh x) (bx.b.mono ⋯) (λv5 H5 S5 h5=>?_);rw[Tc]at h5;o_head Nu (a:=x) (b:=1-x) (by wtm_at "is") (by wtm_at "is") (λv6 H6 S6 h6=>?_);exact q _ _ _ _ (by wtm_at "exc") (by wtm_at "keep") (by wtm_at "penle") h6 (zAy ex () () () () ey () () () () hlt)
 . rename_i v H4 y S4 iy ey by' hlt v6 H6 S6 h6
   exact q _ _ x y (by wtm_at "exc") (by wtm_at "keep") (by wtm_at "penle") h6 (zzJ ex () () () () ey () () () () hlt)
def Sg(K:wb):Sp:=λvs H Q _=>∃x0,vs=[x0] /\ ∃(p:wg)(k:Int),x0=.ref p/\cq H p k/\k<=1000 /\ ∀v H' (a b:Rat),Exc p H H'->aV H H'->cq H' p (k+8)->Is K H' v (R a b)->aO a b->Q v H'
theorem zls{k:Int}(h:cq H p k)(hk:k<=1000)(q:∀v H' (a b:Rat),Exc p H H'->aV H H'->cq H' p (k+8)->Is K H' v (R a b)->aO a b->Q v H'):Sg K [.ref p] H Q E:=⟨_,rfl,p,k,rfl,h,hk,q⟩
theorem RV{z:Int}(e:x=wy z 8)(e':y=wy t 8)(z1:1<=z)(z7:z<=32)(t0:0<=t)(t8:t<=8)(h:8<=z+t):aO x y:=by
 obtain⟨a1,a2,a3⟩:=Aw e ⋯ ⋯ z1 ();obtain⟨b1,b2,b3⟩:=Av e' ⋯ ⋯ t0 t8;have hx:=bY z (show(8:Int)≠0 by decide);have hy:=bY t (show(8:Int)≠0 by decide);rw[<- e]at hx;rw[<- e']at hy;have h1:((8:Int):Rat)<=((z+t:Int):Rat):=WQ.mpr h;have e8:((8:Int):Rat)=8:=rfl;have e1:((z+t:Int):Rat)=(z:Rat)+(t:Rat):=by push_cast;rfl
 rw[e1,e8]at h1;rw[e8]at hx hy;exact⟨a1,a2,a3,b1,b2,b3,by grind⟩
theorem Tn{z:Int}(e:x=wy z 8)(e':y=wy t 12)(z1:8<=z)(z7:z<=32)(t0:0<=t)(t8:t<=12):aO x y:=by
 obtain⟨a1,a2,a3⟩:=Aw e ⋯ ⋯ () ();obtain⟨b1,b2,b3⟩:=Av e' ⋯ ⋯ t0 t8;have hx:=bY z (show(8:Int)≠0 by decide);rw[<- e]at hx;have h1:((8:Int):Rat)<=((z:Int):Rat):=WQ.mpr z1;have e8:((8:Int):Rat)=8:=rfl;rw[e8]at h1 hx;exact⟨a1,a2,a3,b1,b2,b3,by grind⟩
theorem zlw(T:Txt P K mg a):aJ P w K mg base aR 3 a.G5 a.Gn tD (Sg K):=by
 refine T.Gx.F.ok Dr ?_ ?_;wtm_at "b1"
 refine⟨_,(ak (ay 1 Dr.nd (ar (dS T) hr T.dG (ae (pv 0) (ae av ah))))
     (ak (bE (eF K hu (pv 1) av) (au (aE (aY (ae (aY (ae av (ae av ah))) (ae (ar (hJ T) hr T.gu (ae (ar (dS T) hr T.dG (ae (pv 0) (ae av ah))) (ae av ah))) ah))))) bN)
     (ak (bE (eF K hu (pv 1) av) (ak (ay 2 Dr.nd (aB bZ av (ar (dS T) hr T.dG (ae (pv 0) (ae av ah)))))
     (au (aE (aY (ae (ar (hJ T) hr T.gu (ae (pv 2) (ae av ah))) (ae (ar (hJ T) hr T.gu (ae (aB pM av (pv 2)) (ae av ah))) ah)))))) bN)
     (ak (bE (eF K hu (pv 1) av) (au (aE (aY (ae (ar (hJ T) hr T.gu (ae (aB bZ av (ar (dS T) hr T.dG (ae (pv 0) (ae av ah)))) (ae av ah))) (ae (aY (ae av (ae av ah))) ah))))) bN)
     (ak (bE (eF K hu (pv 1) av) (au (aE (aY (ae (ar (hJ T) hr T.gu (ae (aB bZ av (ar (dS T) hr T.dG (ae (pv 0) (ae av ah)))) (ae av ah))) (ae (ar (hJ T) hr T.gu (ae (ar (dS T) hr T.dG (ae (pv 0) (ae av ah))) (ae av ah))) ah))))) bN)
     (au (aE (ar (zqL T) hr T.HG (q1 0))))))))),?_⟩
 wtm_at "cl";rw[show start OP [x0]=[some x0,none,none]from rfl];obtain⟨p,k,rfl,hp,hk,q⟩:=h;wtm_at "ga"
 . rename_i r1 H1 r10 r11 E1 K1 P1 z v2 H2 S2 i2 r2 H3 r20 r21 E3 K3 P3 v4 H4 x4 S4 i4 e4 b4
   have i2:Is K H2 v2 (N 1):=i2;refine cg (ds:=[N 1,N x4]) ∅ (.cons ((i2.fP K3).by S4) (.cons i4 .nil)) (λv5 H5 S5 i5=>?_);have i5:Is K H5 v5 (R 1 x4):=i5;exact q _ _ 1 x4 (by wtm_at "exc") (by wtm_at "keep") (by wtm_at "penle") i5 (Tn (z:=8) (by decide +kernel) e4 () () () ())
 . rename_i r1 H1 r10 r11 E1 K1 P1 z0 z1 r2 H2 r20 r21 E2 K2 P2 v3 H3 x3 S3 i3 e3 b3 v4 H4 x4 S4 i4 e4 b4 v5 H5 S5 i5
   exact q _ _ x3 x4 (by wtm_at "exc") (by wtm_at "keep") (by wtm_at "penle") i5 (RV e3 e4 () () () () ())
 . rename_i r1 H1 r10 r11 E1 K1 P1 z0 z1 z2 r2 H2 r20 r21 E2 K2 P2 v3 H3 x3 S3 i3 e3 b3 v4 H4 S4 i4 v5 H5 S5 i5
   have i5:Is K H5 v5 (R x3 1):=i5;exact q _ _ x3 1 (by wtm_at "exc") (by wtm_at "keep") (by wtm_at "penle") i5 (RV e3 (t:=8) (by decide +kernel) () () () () ())
 . rename_i r1 H1 r10 r11 E1 K1 P1 z0 z1 z2 z3 r2 H2 r20 r21 E2 K2 P2 v3 H3 x3 S3 i3 e3 b3 r4 H4 r40 r41 E4 K4 P4 v5 H5 x5 S5 i5 e5 b5 v6 H6 S6 i6
   exact q _ _ x3 x5 (by wtm_at "exc") (by wtm_at "keep") (by wtm_at "penle") i6 (Tn e3 e5 () () () ())
 . rename_i r1 H1 r10 r11 E1 K1 P1 z0 z1 z2 z3
   refine Z6 P1 () (λv2 H2 ra rb E2 K2 P2 i2 ok=>?_);exact q _ _ ra rb (by wtm_at "exc") (by wtm_at "keep") (by wtm_at "penle") i2 ok
def NR(K:wb):Sp:=λvs H Q _=>∃x0 x1,vs=[x0,x1] /\ ∃(p:wg)(k m:Int),x0=.ref p/\x1=.int m/\cq H p k/\k<=1000/\1<=m/\m<=8 /\ ∀(l:wg)(H':Hp)(us:List V)(xs:List Rat),H l=none->Exc p H H'->aV H H'->cq H' p (k+30)->H' l=some (.lst us)->ao K H' us (xs.map N)->1<=xs.length->(xs.length:Int)<=m->(∀x∈xs,fD x)->Q (.ref l) H'
theorem znM{k m:Int}(h:cq H p k)(hk:k<=1000)(h1:1<=m)(h8:m<=8)(q:∀(l:wg)(H':Hp)(us:List V)(xs:List Rat),H l=none->Exc p H H'->aV H H'->cq H' p (k+30)->H' l=some (.lst us)->ao K H' us (xs.map N)->1<=xs.length->(xs.length:Int)<=m->(∀x∈xs,fD x)->Q (.ref l) H'):NR K [.ref p,.int m] H Q E:=⟨_,_,rfl,p,k,m,rfl,rfl,h,hk,h1,h8,q⟩
theorem znx(T:Txt P K mg a):aJ P w K mg base aR 2 a.HB a.GK zN (NR K):=by
 refine T.GX.F.ok mX ?_ ?_;wtm_at "b2"
 refine⟨_,(ak (ay 2 mX.nd (cT cE (cR (by exact(@ae _ _ _ _ _ (aB bZ av (ar (dS T) hr T.dG (ae (pv 0) (ae av ah)))) (@ae _ _ _ _ _ av (@ae _ _ _ _ _ (aB bZ av (ar (dS T) hr T.dG (ae (pv 0) (ae av ah)))) (@ae _ _ _ _ _ av ah yD) KQ) yD) KQ))) (ar (dS T) hr T.dG (ae (pv 0) (ae av ah))) (λ_ _=>rfl)))
     (ak (ay 3 mX.nd (cR ah))
     (ak (fE vC rfl (je rfl T.h0L (ae (aB bZ av (ar (dS T) hr T.dG (q2 0 1))) ah)) (dh (i:=4) mX.nd rfl (Or.inl rfl)) (ak (ay 5 mX.nd (ar (dS T) hr T.dG (ae (pv 0) (ae av ah))))
     (au (bE (PW.pt (q_ (eF K hu (pv 5) av) (pL (fR K hu (pv 3) (cR ah))))) (au (kb (jS Wn Wg Wh jE (pv 3) (ae (cT cE (pv 3) (ar (dS T) hr T.dG (ae (pv 0) (ae (ee K T.h0S (q1 3)) ah))) (λ_ _=>rfl)) ah)))) (ak (ay 6 mX.nd (cT cE (cR (ae (pv 2) (ae (aB bZ av (ar (dS T) hr T.dG (ae (pv 0) (ae av ah)))) ah))) (ke ym rfl T.h1f pQ (ae (ie K hu (pv 5) av) ah)) (λ_ _=>rfl)))
     (au (kb (jS Wn Wg Wh jE (pv 3) (ae (ar (hJ T) hr T.gu (ae (ar (dS T) hr T.dG (q2 0 6)) (q1 6))) ah)))))))))
     (au (aE (pv 3)))))),?_⟩
 wtm_at "cl";rw[show start MX [x0,x1]=[some x0,some x1,none,none,none,none,none]from rfl];obtain⟨p,k,m,rfl,rfl,hp,hk,h1,h8,q⟩:=h;wtm_at "ga";rename_i ra Ha ra0 ra1 Ea Ka Pa rb Hb rb0 rb1 Eb Kb Pb lc Hc nc Sc ec rd Hd rd0 rd1 Ed Kd Pd r hr lf H2 hf S2 e2 c H3 c0 c1 E3 K3 P3;have hr60:1<=r/\r<=60:=by lia
 have E1:Exc p H Hd:=Ea.trans (Eb.trans (Sc.exc.trans Ed));have K1:aV H Hd:=Ka.trans (Kb.trans (Sc.keep.trans Kd));have P1:=Pd;clear Ea Ka Pa Eb Kb Pb Sc ec nc Ed Kd Pd hr;have nef:lf≠p:=cq.ne hf P1
 have hfr:H lf=none:=by
   cases e:H lf with
   | none=>rfl
   | some o=>rw[E1 lf o nef e]at hf;cases hf
 have X0:Exc p H H3:=E1.trans (S2.exc.trans E3);have K0:aV H H3:=K1.trans (S2.keep.trans K3);have e3:H3 lf=some (.lst []):=E3.at nef e2;have P0:=P3;clear E1 K1 P1 hp S2 E3 K3 P3 e2 hf
 refine kI (n:=1+c) () () (λi σ H'=>∃(o4 o5 o6:Option V)(us:List V)(xs:List Rat),σ = [some (.ref p),some (.int m),some (.int r),some (.ref lf),o4,o5,o6]/\Exc p H H'/\aV H H'/\cq H' p (k+5+3*(i:Int))/\H' lf=some (.lst us)/\ao K H' us (xs.map N)/\xs.length=i /\ ∀x∈xs,fD x)
   ⟨_,_,_,[],[],rfl,X0,K0,P0.le (),e3,.nil,rfl,by simp⟩ ?_ ?_
 . rintro i σ H4 hi ⟨o4,o5,o6,us,xs,rfl,X4,K4,P4,e4,t4,hlen,ph⟩
   have hi8:i<8:=by lia
   have hul:us.length=xs.length:=by rw[t4.length,wm]
   have grown:∀(H5 H6:Hp)(v:V)(x:Rat),Exc p H H5->aV H H5->cq H5 p (k+5+3*((i+1:Nat):Int))->H5 lf=some (.lst us)->ao K H5 us (xs.map N)->Is K H5 v (N x)->fD x->Exc lf H5 H6->H6 lf=some (.lst (us++[v]))->∃(us':List V)(xs':List Rat),Exc p H H6/\aV H H6/\cq H6 p (k+5+3*((i+1:Nat):Int))/\H6 lf=some (.lst us')/\ao K H6 us' (xs'.map N)/\xs'.length=i+1 /\ ∀x∈xs',fD x:=by
     intro H5 H6 v x X5 L5 P5 e5 t5 iv px E6 e6;have k6:=E6.keep e5;obtain⟨q1,q2,q3,q4,q5,q6⟩:=P5;refine⟨us++[v],xs++[x],λb o hb h=>E6 b o (km h hfr) (X5 b o hb h),L5.trans k6,⟨q1,q2,q3,E6 p _ (WI nef) q4,q5,q6⟩,e6,?_,by simp[hlen],λy hy=>?_⟩
     . rw[vQ]
       exact(ao.keep k6 _ _ (fu _) t5).append (.cons (iv.fP k6) .nil)
     . rcases Ws.mp hy with h | h
       . exact ph y h
       . rw[vi.mp h];exact px
   wtm_at "ga"
   . rename_i way H5 w0 w1 E5 K5 P5 z ln H6 n6 S6 e6
     have e56:H6 lf=some (.lst us):=S6 _ _ (E5.at nef e4);have t56:ao K H6 us (xs.map N):=ao.keep (K5.trans S6.keep) _ _ (fu _) t4;have X56:Exc p H H6:=X4.trans (E5.trans S6.exc);have L56:aV H H6:=K4.trans (K5.trans S6.keep);have P56:=P5.same S6;clear E5 K5 P5 S6;refine zy9 (dC e56 t56) (dC (xs:=[]) e6 .nil) ?_
     by_cases hx:xs=[]
     . rw[decide_eq_true hx]
       wtm_at "ga";rename_i u H6b u0 u1 E6 K6 P6 lu H7 nu S7 e7 under hu;have X5:=X56;have L5:=L56;have e5:=e56;have t5:=t56;have X7:Exc p H H7:=X5.trans (E6.trans S7.exc);have L7:aV H H7:=L5.trans (K6.trans S7.keep);have e7':H7 lf=some (.lst us):=S7 _ _ (E6.at nef e5);have t7:ao K H7 us (xs.map N):=ao.keep (K6.trans S7.keep) _ _ (fu _) t5;refine iC (aG.of e7') ?_;k_few;rename_i t H8 t0 t1 E8 K8 P8 v9 H9 x9 S9 i9 ex9 b9;have e9:=S9 _ _ (E8.at nef e7');refine hW e9 () (λH10 E10 e10=>?_);k_few;obtain⟨us',xs',g1,g2,g3,g4,g5,g6,g7⟩:=grown H9 H10 v9 x9 (X7.trans (E8.trans S9.exc)) (L7.trans (K8.trans S9.keep)) ((P8.same S9).le ()) e9 (ao.keep (K8.trans S9.keep) _ _ (fu _) t7) i9 (by rw[ex9];exact Ly () () ()) E10 e10;exact⟨_,_,_,us',xs',rfl,g1,g2,g3,g4,g5,g6,g7⟩
     . rw[decide_eq_false hx]
       have hx1:1<=xs.length:=by
         cases xs with
         | nil=>exact absurd rfl hx
         | cons x xs=>simp
       o_head iC (aG.of e56) ?_;o_head iu (.of e56) ?_;k_few;rename_i t H8 t0 t1 E8 K8 P8;have e8:=E8.at nef e56;have t8:ao K H8 us (xs.map N):=ao.keep K8 _ _ (fu _) t56;refine ml (dC e8 t8) t0 () (λv9 i9=>?_);o_head hW e8 () (λH10 E10 e10=>?_);k_few;obtain⟨us',xs',g1,g2,g3,g4,g5,g6,g7⟩:=grown H8 H10 v9 _ (X56.trans E8) (L56.trans K8) (P8.le ()) e8 t8 i9 (ph _ (getD_mem ())) E10 e10;exact⟨_,_,_,us',xs',rfl,g1,g2,g3,g4,g5,g6,g7⟩
   . skip
     rename_i way H5 w0 w1 E5 K5 P5 z u H6b u0 u1 E6 K6 P6 lu H7 nu S7 e7 under hu;have X5:=X4.trans E5;have L5:=K4.trans K5;have e5:=E5.at nef e4;have t5:ao K H5 us (xs.map N):=ao.keep K5 _ _ (fu _) t4;have X7:Exc p H H7:=X5.trans (E6.trans S7.exc);have L7:aV H H7:=L5.trans (K6.trans S7.keep);have e7':H7 lf=some (.lst us):=S7 _ _ (E6.at nef e5);have t7:ao K H7 us (xs.map N):=ao.keep (K6.trans S7.keep) _ _ (fu _) t5;refine iC (aG.of e7') ?_;k_few;rename_i t H8 t0 t1 E8 K8 P8 v9 H9 x9 S9 i9 ex9 b9;have e9:=S9 _ _ (E8.at nef e7');refine hW e9 () (λH10 E10 e10=>?_);k_few;obtain⟨us',xs',g1,g2,g3,g4,g5,g6,g7⟩:=grown H9 H10 v9 x9 (X7.trans (E8.trans S9.exc)) (L7.trans (K8.trans S9.keep)) ((P8.same S9).le ()) e9 (ao.keep (K8.trans S9.keep) _ _ (fu _) t7) i9 (by rw[ex9];exact Ly () () ()) E10 e10;exact⟨_,_,_,us',xs',rfl,g1,g2,g3,g4,g5,g6,g7⟩
 . rintro σ H4 ⟨o4,o5,o6,us,xs,rfl,X4,K4,P4,e4,t4,hlen,ph⟩
   k_few;exact q lf H4 us xs hfr X4 K4 (P4.le ()) e4 t4 () () ph
def Oy(a b:Rat)(xs:List Rat):wG:=.tuple [N (1-bG xs),kJ (bS a b xs),TN (cz a b xs)]
def OU(K:wb):Sp:=λvs H Q _=>∃x0 x1,vs=[x0,x1] /\ ∃(a b:Rat)(xs:List Rat),Is K H x0 (R a b)/\Is K H x1 (TN xs)/\af 10 a/\af 10 b/\1<=xs.length/\xs.length<=8/\(∀i,af 8000 (xs.getD i 0))/\Rs K H Q (Oy a b xs)
theorem zqV{a:Rat}{v w:V}(h:Is K H v (R a b))(k:Is K H w (TN xs))(ba:af 10 a)(bb:af 10 b)(h1:1<=xs.length)(h8:xs.length<=8)(hb:∀i,af 8000 (xs.getD i 0))(q:Rs K H Q (Oy a b xs)):OU K [v,w] H Q E:=⟨_,_,rfl,a,b,xs,h,k,ba,bb,h1,h8,hb,q⟩
structure zD6(K:wb)(a b:Rat)(xs:List Rat)(H H':Hp)(v10:V)(lw lg ln lW:wg)(left:List Nat)(ps:List Rat)(done:List (List Nat))(f:Nat)(B:Int)(ts:List Int)(kvs:List (Key × V))(wv:List V):Prop where
 same:aj H H'
 iw:Is K H' v10 (N (1-bG xs))
 hw:H lw=none
 hg:H lg=none
 mJ:lw≠lg
 pC:ln≠lw
 pD:ln≠lg
 nWw:lW≠lw
 Kz:lW≠lg
 en:H' ln=some (.lst (ts.map V.int))
 ew:H' lw=some (.lst wv)
 tw:ao K H' wv (done.map TW)
 eg:H' lg=some (.dK kvs)
 eW:H' lW=some (.lst (vz (az ps left)))
 pos:0<B
 bB:Bd (72100+21*(xs.length-left.length)) B
 bt:∀t∈ts,Bd (72100+21*(xs.length-left.length)) t
 len:ts.length=xs.length
 Jr:ps.length=xs.length
 eq:∀w∈left,(d5 B ts).getD w 0=ps.getD w 0
 kv:∀w,w<xs.length->(df kvs (.inl (w:Int))).isSome = !decide (w∈left)
 kl:kvs.length+left.length<=xs.length
 rg:Rg xs.length left
 fl:left.length<=f
 dl:done.length+left.length<=xs.length
 w1:done++(b_ a b f ps left).1=bS a b xs
 w2:(b_ a b f ps left).2=(dD a b xs).2
def OT(K:wb)(a b:Rat)(xs:List Rat)(H:Hp)(x0:V)(ap:wg)(r9:Int)(v10:V)(lw lg:wg)(k:Nat)(σ':L2.St)(H':Hp):Prop:=∃(ln lW:wg)(left:List Nat)(ps:List Rat)(done:List (List Nat))(f:Nat)(B:Int)(ts:List Int)(kvs:List (Key × V))(wv:List V)(o7 o14 o15:Option V),σ'=[some x0,some (.ref ap),some (.int a.num),some (.int (a.den:Int)),some (.int b.num),some (.int (b.den:Int)),some (.int B),o7,some (.ref ln),some (.int r9),some v10,some (.ref lg),some (.ref lw),some (.ref lW),o14,o15,none]/\k=left.length/\zD6 K a b xs H H' v10 lw lg ln lW left ps done f B ts kvs wv
theorem Du{ts:List Int}(h:i<ts.length):gq (ts.map V.int) (i:Int)=some (V.int (ts.getD i 0)):=mw (by rw[wx,wc h,wa,wc h];rfl)
theorem j_{o:HO}(h:H p=none)(k:H q=some o):p≠q:=λe=>by rw[e,k]at h;cases h
theorem zqK(T:Txt P K mg a):aJ P w K mg base aR 2 a.Iq a.Ho Ab (OU K):=by
 refine T.HL.F.ok dJ ?_ ?_;wtm_at "b2"
 refine⟨_,(ak (nC (pv 0) (iY (n:=2) rfl (dw (iY (n:=2) rfl (dw (dh (i:=2) dJ.nd rfl (Or.inr rfl)) (dw (dh (i:=3) dJ.nd rfl (Or.inr rfl)) gZ))) (dw (iY (n:=2) rfl (dw (dh (i:=4) dJ.nd rfl (Or.inr rfl)) (dw (dh (i:=5) dJ.nd rfl (Or.inr rfl)) gZ))) gZ))))
     (ak (ay 6 dJ.nd av)
     (ak (fE vC rfl (jD (pv 1)) (dh (i:=7) dJ.nd rfl (Or.inl rfl)) (au (ay 6 dJ.nd (aB cx (pv 6) (qi 7)))))
     (ak (ay 8 dJ.nd (eC rfl (cW ["_law_one","_law_bottom"] [none,some 6]) (jD (pv 1)) (λ_ _ _ _ _=>(cC 0)) (λ_ _ _ _ _=>eI) (λ_ _ _ _ _=>(aB cx (zM (K:=K) cE (pv 0)) (aB (fv T.tr hr ⟨_,_,rfl⟩) (pv 1) (zM (K:=K) cE (pv 0)))))))
     (ak (ay 9 dJ.nd (aB pM (pv 6) (cy (show bK _ (.builtin "max") (F7 K)from zvm rfl) rfl T.h0V zCo (q1 8))))
     (ak (ay 10 dJ.nd (ar (hJ T) hr T.gu (q2 9 6)))
     (ak (ay 8 dJ.nd (eC rfl (cW ["_law_one","_law_rise"] [none,some 9]) (ji (pv 8)) (λ_ _ _ _ _=>(cC 0)) (λ_ _ _ _ _=>eI) (λ_ _ _ _ _=>(aB bZ (pv 0) (pv 1)))))
     (ak (ay 11 dJ.nd zw0)
     (ak (ay 12 dJ.nd (cR ah))
     (ak (nv (i:=13) dJ.nd rfl (Or.inl rfl) rfl (cW ["_law_k","_law_bottom","_law_now"] [none,some 6,some 8]) (je rfl T.h0L (ae (ee K T.h0S (q1 8)) ah)) (λ_ _ _ _ _=>(cC 0)) (λ_ _ _ _ _=>(lM (d8 yI (cT (show fA _ (cJ K)from cE) (pv 2) (pv 0) (λ_ _=>rfl)) (pv 1) (du _)))) (λ_ _ _ _ _=>(pv 0)))
     (ak (lF vC (fR K hu (pv 13) (cR ah)) (ak (kb (jS Wn Wg Wh jE (pv 12) (ae (d9 K T.h0O (q1 13)) ah)))
     (ak (fE vC rfl (ji (pv 13)) (dh (i:=14) dJ.nd rfl (Or.inl rfl)) (au (zAG (WC (qq ⋯ _) hu) (pv 11) (pv 14) fB rfl)))
     (ak (fE vC rfl (ji (pv 13)) (dh (i:=15) dJ.nd rfl (Or.inl rfl)) (ak (ay 8 dJ.nd (eC rfl (cW ["_law_one","_law_bottom","_law_a","_law_under_b","_law_b","_law_under_a"] [none,some 6,some 2,some 5,some 4,some 3]) (ji (pv 8)) (λ_ _ _ _ _=>(cC 0)) (λ_ _ _ _ _=>eI) (λ_ _ _ _ _=>(aB bZ (aB cx (aB cx (pv 2) (pv 3)) (pv 0)) (aB cx (aB cx (pv 4) (pv 5)) (pv 1))))))
     (au (ay 6 dJ.nd (aB cx (aB cx (pv 6) (pv 3)) (pv 5))))))
     (au (nv (i:=13) dJ.nd rfl (Or.inl rfl) rfl (cW ["_law_k","_law_glowing","_law_bottom","_law_now"] [none,some 11,some 6,some 8]) (je rfl T.h0L (ae (ee K T.h0S (q1 8)) ah)) (λ_ _ _ _ _=>(cC 0)) (λ_ _ _ _ _=>(lM (PW.pt (q_ (zCd (zvM (WC (qq ⋯ _) hu) (pv 0) (pv 1)) (by with_unfolding_all rfl)) (pL (d8 yI (cT (show fA _ (cJ K)from cE) (pv 3) (pv 0) (λ_ _=>rfl)) (pv 2) (du _))))))) (λ_ _ _ _ _=>(pv 0))))))))
     (ak (ay 16 dJ.nd (cR ah))
     (ak (fE vC rfl (je rfl T.h0L (ae (ee K T.h0S (q1 8)) ah)) (dh (i:=14) dJ.nd rfl (Or.inl rfl)) (au (kb (jS Wn Wg Wh jE (pv 16) (ae (cT cE (cR (ae (ar (hJ T) hr T.gu (ae (cT cE (pv 8) (pv 14) (λ_ _=>rfl)) (q1 6))) (ae (aY (ae av (ae av ah))) ah))) (ke ym rfl T.h1f pQ (ae (zCP (zCN (WC (qq ⋯ _) hu) (pv 14) (pv 11)) (by with_unfolding_all rfl)) ah)) (λ_ _=>rfl)) ah)))))
     (au (aE (aY (ae (pv 10) (ae (d9 K T.h0O (q1 12)) (ae (d9 K T.h0O (q1 16)) ah))))))))))))))))))),?_⟩
 wtm_at "cl";rw[show start P_ [x0,x1]=[some x0,some x1,none,none,none,none,none,none,none,none,none,none,none,none,none,none,none]from rfl];obtain⟨ra,rb,xs,hr',hp',ba,bb,h1,h8,hbx,q⟩:=h;have bD:∀k,k<=xs.length->Bd 64010 (jW xs k):=λk hk=>(EM hbx k).mono ()
 have ba1:=ba.t;have ba2:=ba.b;have bb1:=bb.t;have bb2:=bb.b;k_few;obtain⟨ap,vs,rfl,hsp,tp⟩:=bQ.mp hp';have hvl:=tp.length;rw[wm]at hvl;refine PD hsp (λk σ H'=>∃o,σ = [some x0,some (.ref ap),some (.int ra.num),some (.int (ra.den:Int)),some (.int rb.num),some (.int (rb.den:Int)),some (.int (jW xs k)),o,none,none,none,none,none,none,none,none,none]/\H'=H) ⟨_,rfl,rfl⟩ (by rintro i σ H' _ ⟨o,rfl,rfl⟩;exact hsp) ?_ ?_
 . rintro k x σ H' hx ⟨o,rfl,rfl⟩
   obtain⟨hk,ix⟩:=dB tp hx;have bk:=bD k ();have bxk:=hbx k;k_few;exact⟨_,rfl,rfl⟩
 . rintro σ H' ⟨o,rfl,hH⟩
   have hH:=hH.symm;subst hH;rw[hvl];have hB0:=C8 xs xs.length;have bB:=bD xs.length (wo _);have hdv:=λj (hj:j<xs.length)=>Dq xs xs.length j hj
   generalize jW xs xs.length=B at hB0 bB hdv ⊢;o_head jC hsp (o0:=none) (tl:=[some (.int B)]) rfl (λi v _=>v=.int ((xs.getD i 0).num*B.fdiv ((xs.getD i 0).den:Int))) ?_ ?_
   . rintro D i x ys o H1 hx inv
     obtain⟨hi,ix⟩:=dB tp hx;have ix1:=ix.by inv.same;have bxk:=hbx i;have bx2:=bxk.b;have hf:j7 B ((xs.getD i 0).den:Int):=⟨fh _,bx2.mono ⋯⟩;have bq:=Eu (den_pos (xs.getD i 0)) hB0 bB;k_few;exact eU inv () (λ_ _ _ _ _ h=>h) ⟨_,rfl⟩ (aj.refl _) rfl
   . rintro D ys H2 hn2 S2 e2 hl2 hr2
     have hys:ys=(xs.map λx=>x.num*B.fdiv (x.den:Int)).map V.int:=pZ (by rw[wm];lia) (λj y hy=>by
       have hj:=pB hy;rw[hr2 j y hy,Cp (d:=0) ()])
     subst hys;have ht0:=ZQ hB0 hdv
     have bt0:∀t∈(xs.map λx=>x.num*B.fdiv (x.den:Int)),Bd 72010 t:=λt ht=>by
       obtain⟨x,hx,rfl⟩:=wU.mp ht;obtain⟨j,hj,rfl⟩:=w6 hx;have hb:=hbx j;rw[wa,wc hj]at hb;exact(hb.t.mul (Eu (den_pos _) hB0 bB)).mono ⋯
     have hts:(xs.map λx=>x.num*B.fdiv (x.den:Int)).length=xs.length:=wm ..;generalize (xs.map λx=>x.num*B.fdiv (x.den:Int))=ts at e2 ht0 bt0 hts;clear hr2 hl2;o_head zAK (.of e2) () (λM hM hle=>?_);have bM:=bt0 M hM;have hMx:wy M B=bG xs:=by rw[<- zv5 hB0 hM hle,ht0]
     o_head zR () (bB.mono ⋯) (λv10 H3 S3 i3=>?_);rw[zvS hB0,hMx]at i3;have e3:=S3 _ _ e2;have bR:Bd 72030 (B-M):=(bB.sub bM).mono ⋯;o_head mM (.of e3) (o0:=none) (tl:=[some (.int (B-M))]) rfl (λi v _=>v=.int (ts.getD i 0+(B-M))) ?_ ?_
     . rintro D' i x ys o H4 hx inv
       obtain⟨hi,rfl⟩:=M3 hx;k_few;exact eU inv () (λ_ _ _ _ _ h=>h) ⟨_,rfl⟩ (aj.refl _) rfl
     . rintro ln ys H4 hn4 S4 e4 hl4 hr4
       rw[wm]at hl4
       have hys:ys=(ts.map λt=>t+(B-M)).map V.int:=pZ (by rw[wm];lia) (λj y hy=>by
         have hj:=pB hy;rw[hr4 j y hy,Cp (d:=0) ()])
       subst hys;have htr:d5 B (ts.map λt=>t+(B-M))=aZ xs:=by rw[zsZ hB0,ht0,hMx];rfl
       have btr:∀t∈(ts.map λt=>t+(B-M)),Bd 72100 t:=λt ht=>by
         obtain⟨y,hy,rfl⟩:=wU.mp ht;exact((bt0 y hy).add bR).mono ⋯
       have htl:(ts.map λt=>t+(B-M)).length=xs.length:=by rw[wm];exact hts
       generalize (ts.map λt=>t+(B-M))=tr at e4 htr btr htl;have T4:=S2.trans (S3.trans S4);have i4:=i3.by S4;clear hr4 hl4 S4 S3 S2 e2 e3 i3 hn2 bt0 ht0 hts bR;generalize B-M=r9;clear hle hM hMx bM;o_head RW (λlg H5 n5 S5 e5=>?_);o_head eX ∅ (λlw H6 n6 S6 e6=>?_);have T6:=T4.trans (S5.trans S6);have en6:=S6 _ _ (S5 _ _ e4);have pD:ln≠lg:=(j_ n5 e4).symm;have pC:ln≠lw:=(j_ n6 (S5 _ _ e4)).symm;have mJ:lw≠lg:=j_ n6 e5;have hgH:H lg=none:=lP T4 n5;have hwH:H lw=none:=lP (T4.trans S5) n6;have eg6:=S6 _ _ e5;have iw6:=i4.by (S5.trans S6);have hrg:=Rg.range xs.length;have hends:=hrg.ends (aZ xs);o_head iu (aG.of en6) ?_;rw[wm,htl];o_head BY (n:=(xs.length:Int)) () () (λD i ys σ' H'=>(∃o,σ'=[o,some (.int B),some (.ref ln)])/\H6 D=none/\aj H6 H'/\H' D=some (.lst (vz ((wq i).filter λw=>decide (w∈wq xs.length) && !decide ((aZ xs).getD w 0<1))))) (λD H' n s e=>⟨⟨_,rfl⟩,n,s,e⟩) ?_ ?_
       . rintro D i ys σ' H7 hi ⟨⟨o,rfl⟩,n7,S7,e7⟩
         have hi':i<xs.length:=by simpa using hi
         have hfl:((wq i).filter λw=>decide (w∈wq xs.length) && !decide ((aZ xs).getD w 0<1)).length<=i:=by
           have:=Wk (λw=>decide (w∈wq xs.length) && !decide ((aZ xs).getD w 0<1)) (wq i);rw[ve]at this;exact this
         have hget:(aZ xs).getD i 0=wy (tr.getD i 0) B:=by rw[<- htr,C_ ()]
         o_head gJ (aG.of (S7 _ _ en6)) (Du (ts:=tr) (i:=i) ()) ?_;k_few
         . rename_i z
           refine j3 e7 (by rw[gm];lia) (λH8 E8 e8=>⟨⟨_,rfl⟩,n7,S7.grow n7 E8,?_⟩);rw[my (n:=i),if_pos,pJ]
           . exact e8
           . rw[hget,decide_eq_true (wF.mpr hi'),decide_eq_false (λy=>by have:=(Ak hB0).mp y;lia)];rfl
         . rename_i z
           refine⟨[],⟨_,rfl⟩,n7,S7,?_⟩;rw[my (n:=i),if_neg,vP]
           . exact e7
           . rw[hget,decide_eq_true ((Ak hB0).mpr ())];simp
       . rintro lW ys σ' H7 ⟨_,n7,S7,e7⟩
         rw[wY,<- hends]at e7
         have G0:OT K ra rb xs H x0 ap r9 v10 lw lg xs.length [some x0,some (.ref ap),some (.int ra.num),some (.int (ra.den:Int)),some (.int rb.num),some (.int (rb.den:Int)),some (.int B),o,some (.ref ln),some (.int r9),some v10,some (.ref lg),some (.ref lw),some (.ref lW),none,none,none] H7:=by
           refine⟨ln,lW,wq xs.length,aZ xs,[],xs.length,B,tr,[],[],o,none,none,rfl,by rw[ve],T6.trans S7,iw6.by S7,hwH,hgH,mJ,pC,pD,j_ n7 e6,j_ n7 eg6,S7 _ _ en6,S7 _ _ e6,.nil,S7 _ _ eg6,e7,hB0,bB.mono (),λt ht=>(btr t ht).mono (),htl,eS xs,λw _=>by rw[htr],λw hw'=>?_,by rw[ve];simp,hrg,by rw[ve];exact wo _,by rw[ve];simp,?_,rfl⟩
           . rw[decide_eq_true (wF.mpr hw')];rfl
           . rw[Qf];rfl
         clear S7 n7 e7 en6 eg6 iw6 T6 e6 e5 S5 S6 n5 n6 T4 e4 i4 hends htr btr htl hn4 hB0 bB hdv pD pC mJ;o_head rq (OT K ra rb xs H x0 ap r9 v10 lw lg) _ G0 ?_;clear G0 hwH hgH;rintro k σ' H8 ⟨ln,lW,left,ps,done,f,B,ts,kvs,wv,o7,o14,o15,rfl,hk,G⟩;have hdl:=G.dl;have hB0:=G.pos;o_head eX ∅ (λle H9 n9 S9 e9=>?_);refine zBy (S9 _ _ G.eW) e9 ?_;have T9:=G.same.trans S9;have en9:=S9 _ _ G.en;have ew9:=S9 _ _ G.ew;have eg9:=S9 _ _ G.eg;have eW9:=S9 _ _ G.eW;have iw9:=G.iw.by S9;have tw9:=ao.same S9 _ _ G.tw;have hlen:=As ps left;k_few
         . rename_i he
           refine oW ?_;have hwl:=G.tw.length;rw[wm]at hwl;have hpos:0<(az ps left).length:=VB.mpr he;o_head iC (aG.of ew9) ?_;o_head p0 (.of eW9) (λlt H10 n10 S10 e10=>?_);have it10:Is K H10 (.ref lt) (TW (az ps left)):=Aj.mpr ⟨lt,rfl,.of e10⟩;o_head hW (S10 _ _ ew9) () (λH11 E11 e11=>?_);have K11:=E11.keep (S10 _ _ ew9);have T11:aj H H11:=(T9.trans S10).grow G.hw E11;have en11:=E11 _ _ G.pC (S10 _ _ en9);have eg11:=E11 _ _ G.mJ.symm (S10 _ _ eg9);have eW11:=E11 _ _ G.nWw (S10 _ _ eW9);have iw11:=(iw9.by S10).fP K11
           have tw11:ao K H11 (wv++[V.ref lt]) ((done++[az ps left]).map TW):=by
             rw[vQ];exact(ao.keep K11 _ _ (zev _) (ao.same S10 _ _ tw9)).snoc (it10.kU K11 (sR _))
           have hkl0:=G.kl;o_head zO (.of eW11) (λi σ'' H''=>∃o kvs',σ''=[some x0,some (.ref ap),some (.int ra.num),some (.int (ra.den:Int)),some (.int rb.num),some (.int (rb.den:Int)),some (.int B),o7,some (.ref ln),some (.int r9),some v10,some (.ref lg),some (.ref lw),some (.ref lW),o,o15,none]/\Exc lg H11 H''/\H'' lg=some (.dK kvs')/\kvs'.length<=kvs.length+i /\ ∀w:Nat,(df kvs' (.inl (w:Int))).isSome=((df kvs (.inl (w:Int))).isSome || decide (w∈(az ps left).take i))) ⟨_,kvs,rfl,Exc.refl _ _,eg11,by lia,λw=>by simp⟩ (λi σ'' H'' _ ⟨_,_,_,e,_⟩=>.of (e _ _ G.Kz eW11)) ?_ ?_
           . rintro i x σ'' H12 hx ⟨o,kvs',rfl,E12,e12,hkl,hkv⟩
             obtain⟨hi,rfl⟩:=pO hx;o_head zzv e12 () (λH13 E13 e13=>?_);refine⟨_,_,rfl,E12.trans E13,e13,?_,λw=>?_⟩
             . have:=Bt kvs' (.inl (((az ps left)[i]:Nat):Int)) (V.bl true)
               lia
             . have hm:(w∈(az ps left).take (i+1)) ↔ (w∈(az ps left).take i\/w=(az ps left)[i]):=by rw[nA hi,Ws,vi]
               rw[zxs]
               by_cases hwi:w=(az ps left)[i]
               . rw[if_pos (by rw[hwi]),decide_eq_true (hm.mpr (.inr hwi)),xO];rfl
               . rw[if_neg (λz=>hwi (by have:=UX z;lia)),hkv w]
                 congr 1
                 exact decide_eq_decide.mpr ⟨λz=>hm.mpr (.inl z),λz=>(hm.mp z).resolve_right hwi⟩
           . rintro σ'' H12 ⟨o14',kvs',rfl,E12,e12,hkl,hkv⟩
             rw[gm]at hkl;have K12:=E12.YW eg11;have en12:=E12 _ _ G.pD en11;have ew12:=E12 _ _ G.mJ e11;have eW12:=E12 _ _ G.Kz eW11;have T12:aj H H12:=T11.grow G.hg E12;have hlt:=G.len;have hps:=G.Jr
             have hkv':∀w,w<xs.length->(df kvs' (.inl (w:Int))).isSome = !decide (w∈aW left (az ps left)):=λw hw'=>by
               rw[hkv w,G.kv w hw',gm,Wv];unfold aW
               by_cases h1:w∈left<;>by_cases h2:w∈az ps left<;>simp[h1,h2]
             o_head zO (.of eW12) (λi σ'' H''=>∃o7 ln' B' ts' o15,σ''=[some x0,some (.ref ap),some (.int ra.num),some (.int (ra.den:Int)),some (.int rb.num),some (.int (rb.den:Int)),some (.int B'),o7,some (.ref ln'),some (.int r9),some v10,some (.ref lg),some (.ref lw),some (.ref lW),o14',o15,none]/\aj H12 H''/\H'' ln'=some (.lst (ts'.map V.int))/\ln'≠lw/\ln'≠lg/\0<B'/\Bd (72100+21*(xs.length-left.length)+21*i) B'/\(∀t∈ts',Bd (72100+21*(xs.length-left.length)+21*i) t)/\ts'.length=xs.length/\d5 B' ts'=(d5 B ts).map (push ra rb i)) ⟨_,ln,B,ts,_,rfl,aj.refl _,en12,G.pC,G.pD,hB0,G.bB.mono (),λt ht=>(G.bt t ht).mono (),hlt,(zvT ra rb _).symm⟩ (λi σ'' H'' _ ⟨_,_,_,_,_,_,s,_⟩=>.of (s _ _ eW12)) ?_ ?_
             . rintro i x σ'' H13 hx ⟨o7,ln',B',ts',o15,rfl,S13,e13,nw',ng',hB',bB',bt',hl',heq⟩
               obtain⟨hi,rfl⟩:=pO hx;have bB1:Bd 74000 B':=bB'.mono ();have hB2:0<B'*(ra.den:Int)*(rb.den:Int):=vV (vV hB' (den_pos ra)) (den_pos rb);o_head mM (.of e13) (o0:=none) (tl:=[some (.int B'),some (.int ra.num),some (.int (rb.den:Int)),some (.int rb.num),some (.int (ra.den:Int))]) rfl (λj v _=>v=.int (ra.num*(rb.den:Int)*ts'.getD j 0+rb.num*(ra.den:Int)*B')) ?_ ?_
               . rintro D' j x ys o H14 hx inv
                 obtain⟨hj,rfl⟩:=M3 hx;have btj:Bd 74000 (ts'.getD j 0):=(bt' _ (Zz hj)).mono ();generalize htj:ts'.getD j 0=tj at *;k_few;exact eU inv () (λ_ _ _ _ _ h=>h) ⟨_,rfl⟩ (aj.refl _) (by rw[htj])
               . rintro ln2 ys H14 hn14 S14 e14 hl14 hr14
                 rw[wm]at hl14
                 have hys:ys=(ts'.map λt=>ra.num*(rb.den:Int)*t+rb.num*(ra.den:Int)*B').map V.int:=pZ (by rw[wm];lia) (λj y hy=>by
                   have hj:=pB hy;rw[hr14 j y hy,Cp (d:=0) ()])
                 subst hys;o_head ⟨_,ln2,B'*(ra.den:Int)*(rb.den:Int),_,_,rfl,S13.trans S14,e14,j_ hn14 (S13 _ _ ew12),j_ hn14 (S13 _ _ e12),hB2,((bB'.mul ba2).mul bb2).mono (),λt ht=>?_,by rw[wm];exact hl',?_⟩
                 . obtain⟨y,hy,rfl⟩:=wU.mp ht
                   exact(((ba1.mul bb2).mul (bt' y hy)).add ((bb1.mul ba2).mul bB')).mono ()
                 . rw[Z5 hB',heq,zxT]
             . rintro σ'' H13 ⟨o7',ln',B',ts',o15',rfl,S13,e13,nw',ng',hB',bB',bt',hl',heq⟩
               rw[gm]at bB' bt' heq;have hrg':=G.rg.aW (az ps left);have hL:=hrg'.lt;have hnd':=hrg'.nodup
               have heq':∀w∈aW left (az ps left),(d5 B' ts').getD w 0=(cc (ra^(az ps left).length) (aC ra rb (az ps left).length) ps (aW left (az ps left))).getD w 0:=λw hw'=>by
                 have hwl':=hL w hw';rw[heq,oJ (by rw[zvz];lia),G.eq w (vj.mp hw').1,gY,iW _ _ _ _ hnd' (λw hw'=>by rw[hps];exact hL w hw'),if_pos hw']
               have hpl:=gX (ra^(az ps left).length) (aC ra rb (az ps left).length) (aW left (az ps left)) ps;have w1:=G.w1;have w2:=G.w2;have hfl:=G.fl;obtain⟨f',rfl⟩:∃f',f=f'+1:=⟨f-1,by lia⟩;rw[iO he]at w1 w2;generalize hLL:aW left (az ps left)=left' at *;generalize hqs:cc (ra^(az ps left).length) (aC ra rb (az ps left).length) ps left'=qs at *;have hends:=hrg'.ends qs;have eg13:=S13 _ _ e12;have ew13:=S13 _ _ ew12;o_head iu (aG.of e13) ?_;rw[wm,hl'];o_head BY (n:=(xs.length:Int)) () () (λD i ys σ' H'=>(∃o,σ'=[o,some (.ref lg),some (.int B'),some (.ref ln')])/\H13 D=none/\aj H13 H'/\H' D=some (.lst (vz ((wq i).filter λw=>decide (w∈left') && !decide (qs.getD w 0<1))))) (λD H' n s e=>⟨⟨_,rfl⟩,n,s,e⟩) ?_ ?_
               . rintro D i ys σ' H14 hi ⟨⟨o,rfl⟩,n14,S14,e14⟩
                 have hi':i<xs.length:=by simpa using hi
                 have hfl2:((wq i).filter λw=>decide (w∈left') && !decide (qs.getD w 0<1)).length<=i:=by
                   have:=Wk (λw=>decide (w∈left') && !decide (qs.getD w 0<1)) (wq i);rw[ve]at this;exact this
                 have hget:i∈left'->qs.getD i 0=wy (ts'.getD i 0) B':=λhm=>by rw[<- heq' i hm,C_ ()]
                 o_head KU (S14 _ _ eg13) ?_;rw[hkv' i hi',Bool.not_not];k_few
                 . rename_i z
                   refine gJ (aG.of (S14 _ _ e13)) (Du (ts:=ts') (i:=i) ()) ?_;k_few
                   . rename_i z2
                     refine j3 e14 (by rw[gm];lia) (λH15 E15 e15=>⟨⟨_,rfl⟩,n14,S14.grow n14 E15,?_⟩);rw[my (n:=i),if_pos,pJ]
                     . exact e15
                     . rw[hget z,decide_eq_true z,decide_eq_false (λy=>by have:=(Ak hB').mp y;lia)];rfl
                   . rename_i z2
                     refine⟨[],⟨_,rfl⟩,n14,S14,?_⟩;rw[my (n:=i),if_neg,vP]
                     . exact e14
                     . rw[hget z,decide_eq_true ((Ak hB').mpr ())];simp
                 . rename_i z
                   refine⟨[],⟨_,rfl⟩,n14,S14,?_⟩;rw[my (n:=i),if_neg,vP]
                   . exact e14
                   . rw[decide_eq_false z];simp
               . rintro lW2 ys σ' H14 ⟨_,n14,S14,e14⟩
                 rw[wY,<- hends]at e14;k_few;have KA:=K12.trans (S13.trans S14).keep;refine⟨left'.length,by lia,ln',lW2,left',qs,done++[az ps left],f',B',ts',kvs',wv++[V.ref lt],_,_,_,rfl,rfl,?_⟩;exact⟨T12.trans (S13.trans S14),iw11.fP KA,G.hw,G.hg,G.mJ,nw',ng',j_ n14 ew13,j_ n14 eg13,S14 _ _ e13,S14 _ _ ew13,ao.keep KA _ _ (zev _) tw11,S14 _ _ eg13,e14,hB',bB'.mono (),λt ht=>(bt' t ht).mono (),hl',by rw[hpl];exact hps,heq',hkv',by lia,hrg',by lia,by rw[wT];simp;lia,by rw[V1];exact w1,w2⟩
         . rename_i he
           have he:=Vw.mp he;have w1:=G.w1;have w2:=G.w2;rw[lI he]at w1 w2;rw[vP]at w1;have eps:ps=(dD ra rb xs).2.2:=congrArg uP w2;have elf:left=(dD ra rb xs).2.1:=congrArg uO w2;have hph:fH left ps=cz ra rb xs:=by rw[cz,<- eps,<- elf]
           have hlt:=G.len;have hps:=G.Jr;have bB1:Bd 179980 B:=G.bB.mono ();refine eX ∅ (λlr H10 n10 S10 e10=>?_);o_head iu (aG.of (S10 _ _ en9)) ?_;rw[wm,hlt];o_head kI (n:=(xs.length:Int)) () () (λi σ'' H''=>∃o us,σ''=[some x0,some (.ref ap),some (.int ra.num),some (.int (ra.den:Int)),some (.int rb.num),some (.int (rb.den:Int)),some (.int B),o7,some (.ref ln),some (.int r9),some v10,some (.ref lg),some (.ref lw),some (.ref lW),o,o15,some (.ref lr)]/\aj H9 H''/\H'' lr=some (.lst us)/\us.length=i /\ ∀j v,us[j]? = some v->Is K H'' v (N ((fH left ps).getD j 0))) ⟨_,[],rfl,S10,e10,rfl,λj v h=>by simp at h⟩ ?_ ?_
           . rintro i σ'' H11 hi ⟨o,us,rfl,S11,e11,hul,hus⟩
             have hi':i<xs.length:=by simpa using hi
             o_head iC (aG.of e11) ?_;o_head gJ (aG.of (S11 _ _ en9)) (Du (ts:=ts) (i:=i) ()) ?_;o_head zR () bB1 (λv12 H12 S12 i12=>?_);o_head ig (r:=0) rfl rfl (λv13 H13 S13 i13=>?_);o_head eX ∅ (λl14 H14 n14 S14 e14=>?_);k_few;have T14:=S12.trans (S13.trans S14);refine KU (T14 _ _ (S11 _ _ eg9)) ?_;have e11':=T14 _ _ e11
             have fin:∀y,Is K H14 y (N ((fH left ps).getD i 0))->∀H15,Exc lr H14 H15->H15 lr=some (.lst (us++[y]))->∀j v,(us++[y])[j]? = some v->Is K H15 v (N ((fH left ps).getD j 0)):=λy iy H15 E15 e15 j v hv=>by
               have K15:=E15.keep e11';rcases wB j us.length with z | z
               . rw[Wc z]at hv
                 exact((hus j v hv).by T14).fP K15
               . have hj:j=us.length:=by
                   have:=pB hv;rw[wT,Wi]at this;lia
                 subst hj;rw[vK (wo _),Vt]at hv;cases hv;rw[hul];exact iy.fP K15
             rw[G.kv i hi']
             by_cases hm:i∈left
             . rw[decide_eq_true hm]
               o_head hW e11' () (λH15 E15 e15=>⟨_,_,rfl,(S11.trans T14).grow n10 E15,e15,by rw[wT,hul];rfl,fin v12 ?_ H15 E15 e15⟩);rw[kM (),if_pos hm,<- G.eq i hm,C_ ()];exact i12.by (S13.trans S14)
             . rw[decide_eq_false hm]
               o_head hW e11' () (λH15 E15 e15=>⟨_,_,rfl,(S11.trans T14).grow n10 E15,e15,by rw[wT,hul];rfl,fin v13 ?_ H15 E15 e15⟩);rw[kM (),if_neg hm];exact i13.by S14
           . rintro σ'' H11 ⟨o,us,rfl,S11,e11,hul,hus⟩
             rw[wY]at hul;have tz:ao K H11 us ((fH left ps).map N):=gI (by rw[B0];lia) hus;rw[hph]at tz;have tv:=ao.same S11 _ _ tw9;rw[w1]at tv;o_head gx (cf.mpr ⟨lw,wv,rfl,.of (S11 _ _ ew9),tv⟩) (λv12 H12 S12 i12=>?_);o_head gx (dC (S12 _ _ e11) (ao.same S12 _ _ tz)) (λv13 H13 S13 i13=>?_);o_head cg (ds:=[N (1-bG xs),kJ (bS ra rb xs),TN (cz ra rb xs)]) ∅ (.cons (iw9.by (S11.trans (S12.trans S13))) (.cons (i12.by S13) (.cons i13 .nil))) (λv14 H14 S14 i14=>?_);exact q v14 H14 (T9.trans (S11.trans (S12.trans (S13.trans S14)))) i14
def FJ(K:wb):Sp:=λvs H Q _=>∃x0,vs=[x0] /\ ∃(ra rb:Rat)(xs:List Rat),Is K H x0 (bo ra rb xs)/\cF ra rb xs /\
 (kh ra rb xs->∀l H',aj H H'->H' l=some (.lst [.str "long"])->Q (.ref l) H') /\ ∀es n w v H',fZ ra rb xs es n w->aj H H'->Is K H' v (eD w (ag (ai ra rb xs n)).length)->Q v H'
theorem Np{v:V}(h:Is K H v (bo ra rb xs))(ok:cF ra rb xs)(qe:kh ra rb xs->∀l H',aj H H'->H' l=some (.lst [.str "long"])->Q (.ref l) H')(q:∀es n w v H',fZ ra rb xs es n w->aj H H'->Is K H' v (eD w (ag (ai ra rb xs n)).length)->Q v H'):FJ K [v] H Q E:=⟨_,rfl,ra,rb,xs,h,ok,qe,q⟩
theorem B7(T:Txt P K mg a):aJ P w K mg base aR 15 a.IG a.Hl yl (FJ K):=by
 refine T.sa.F.ok pR ?_ ?_;wtm_at "b1"
 refine⟨_,(ak (ay 1 pR.nd j5)
     (ak (zCG (i:=2) (tb:=λW=>kT (DG (Cq K a) W (iN (fO 0) kE)) (fG 1)) (th:=λex C=>kT (Ei K (iN (lO (Bf K a ex C) [] E0 (iN (fO 2) kE)) kE)) (fG 1)) rfl rfl pR.nd rfl rfl rfl T.Yp (λW pn E' hx=>by exact(au (ay 1 pR.nd (zxk (zzY T) (hr.mono ⋯) rfl T.sL.g T.sL.F.kp T.sL.b hx (q1 0))))) (λpn ex C oe hob=>by exact(au (ay 1 pR.nd (cR (ae (zwY (zqu T) ((hr.marked _).mono ⋯) ⟨rfl,Wa _ (vi.mpr rfl),hob⟩ rfl T.sf.g T.sf.F.kp T.sf.b (q1 2)) ah))))))
     (au (aE (pv 1))))),?_⟩
 wtm_at "cl";rw[show start S_ [x0]=[some x0,none,none]from rfl];obtain⟨ra,rb,xs,h1,ok,qe,q⟩:=h;o_head zCb (λσ' C o H'=>σ'=[some x0,some .bC,none]/\C=.ref a.cN/\aj H H' /\ ∀l H',aj H H'->H' l=some (.lst [.str "long"])->Q (.ref l) H') ?_ ?_
 . k_few
   refine zyU h1 ok (λz H' S=>⟨rfl,rfl,S,qe z⟩) (λes n w v H' P S hv=>?_);k_few;exact q es n w v H' P S hv
 . rintro σ' C o H' ⟨rfl,rfl,S0,qe⟩
   refine⟨T.YC,λex hex=>?_⟩;o_head zqN (w:="long") (by first | exact .inr ⟨rfl,rfl⟩ | exact .inr (.inr ⟨rfl,rfl⟩)) (λH1 S1=>?_);wtm_at "ga";rename_i l H2 n2 S2 e2;exact qe l H2 (S0.trans (S1.trans S2)) e2
def Mg(K:wb)(w:PySem.World):List V->Hp->VK->Prop:=λxs H Q=>Cg K w xs H Q\/FO K w xs H Q
theorem ZU{X:Cx}(hu:X.A.units+64<PySem.cLine)(hc:X.calm=true):bK X (.type "set") (Mg X.K X.w):=bK.or (zsV hu hc) (zsG hu hc)
theorem l8{α : Type}[DecidableEq α]:∀{l m:List α},l.Nodup->(∀x∈l,x∈m)->l.length<=m.length
 | [],_,_,_=>Wy _
 | x::l,m,nd,h=>by
  have⟨h1,h2⟩:=W2.mp nd;have hx:=h x (wD ..);have:=l8 (m:=m.erase x) h2 λy hy=>(XD (λe=>h1 (by rw[<- e];exact hy))).mpr (h y (wA _ hy))
  rw[xM hx]at this;have:=VG hx;rw[vx];lia
theorem JZ{ys:List Rat}(nd:ys.Nodup)(h:∀y,y∈ys ↔ y∈xs):ys.length=(ag xs).length :=
 Uj (l8 nd λx hx=>rK ((h x).mp hx)) (l8 (DT xs) λx hx=>(h x).mpr (iI hx))
def Ko(K:wb):Sp:=λvs H Q _=>∃x0,vs=[x0] /\ ∃(xs:List Rat),(Is K H x0 (LN xs)\/Is K H x0 (TN xs))/\xs.length<=8/\Rq H Q (.int ((ag xs).length:Int))
theorem lE{v:V}(h:Is K H v (LN xs)\/Is K H v (TN xs))(h8:xs.length<=8)(q:Rq H Q (.int ((ag xs).length:Int))):Ko K [v] H Q E:=⟨_,rfl,xs,h,h8,q⟩
theorem mn(T:Txt P K mg a):aJ P w K mg base aR 1 a.HH a.Gz tJ (Ko K):=by
 refine T.ku.F.ok znA ?_ ?_;wtm_at "b1";refine⟨_,(au (aE (cy (show bK _ (.builtin "len") (Mw w)from zvI) rfl T.h0S Sy (ae (ke (show bK _ (.type "set") (Mg K w)from ZU hu rfl) rfl T.h0Z zBu (q1 0)) ah)))),?_⟩;wtm_at "cl";rw[show start BX [x0]=[some x0]from rfl];obtain⟨xs,hx,h8,q⟩:=h;k_few;rcases hx with hx | hx
 ·refine .inl (zzk hx () (λls H1 ws ys n1 S1 e1 t1 nd mem=>?_))
  have hyl:=JZ nd mem;have hwl:=t1.length;rw[wm]at hwl;o_head ⟨ls,ws,rfl,e1,?_⟩;rw[show ws.length=(ag xs).length by lia];exact q H1 S1
 ·refine .inr (zwC hx () (λls H1 ws ys n1 S1 e1 t1 nd mem=>?_))
  have hyl:=JZ nd mem;have hwl:=t1.length;rw[wm]at hwl;o_head ⟨ls,ws,rfl,e1,?_⟩;rw[show ws.length=(ag xs).length by lia];exact q H1 S1
def Md(K:wb):Sp:=λvs H Q _=>∃x0 x1,vs=[x0,x1] /\ ∃(a b:Rat)(xs:List Rat),Is K H x0 (R a b)/\Is K H x1 (TN xs)/\af 10 a/\af 10 b/\1<=xs.length/\xs.length<=8/\(∀k,k<=8->∀i,af 8000 ((ai a b xs k).getD i 0))/\Rq H Q (.bl (decide (ai a b xs (ag xs).length=xs)))
theorem ziV{a:Rat}{v w:V}(h:Is K H v (R a b))(k:Is K H w (TN xs))(ba:af 10 a)(bb:af 10 b)(h1:1<=xs.length)(h8:xs.length<=8)(hb:∀k,k<=8->∀i,af 8000 ((ai a b xs k).getD i 0))(q:Rq H Q (.bl (decide (ai a b xs (ag xs).length=xs)))):Md K [v,w] H Q E:=⟨_,_,rfl,a,b,xs,h,k,ba,bb,h1,h8,hb,q⟩
theorem ZG(T:Txt P K mg a):aJ P w K mg base aR 3 a.Gv a.Ga yq (Md K):=by
 refine T.Gg.F.ok x_ ?_ ?_;wtm_at "b2"
 refine⟨_,(ak (ay 2 x_.nd (d9 K T.h0O (q1 1)))
     (ak (fE vC rfl (je rfl T.h0L (ae (ar (mn T) hr T.ku (q1 1)) ah)) (dh (i:=3) x_.nd rfl (Or.inl rfl)) (au (ay 2 x_.nd (n_ (ar (zqK T) hr T.HL (q2 0 2))))))
     (au (aE (ie K hu (pv 2) (d9 K T.h0O (q1 1))))))),?_⟩
 wtm_at "cl";rw[show start Ma [x0,x1]=[some x0,some x1,none,none]from rfl];obtain⟨ra,rb,xs,hr',hx',ba,bb,h1,h8,bd,q⟩:=h;have hv:=jZ xs;o_head yE hx' ?_;o_head lE (.inr hx') h8 (λH1 S1=>?_);o_head kI (n:=((ag xs).length:Int)) () () (λk σ H'=>∃v o,σ = [some x0,some x1,some v,o]/\aj H H'/\Is K H' v (TN (ai ra rb xs k))) ⟨x1,_,rfl,S1,hx'.by S1⟩ ?_ ?_
 . rintro k σ H2 hk ⟨v,o,rfl,S2,iv⟩
   have hk:k<(ag xs).length:=by simpa using hk
   o_head zqV (hr'.by S2) iv ba bb (by rw[a_];exact h1) (by rw[a_];exact h8) (bd k ()) (λv3 H3 S3 i3=>?_);o_head aF (j:=2) i3 rfl (λv4 i4=>?_);k_few;exact⟨v4,_,rfl,S2.trans S3,i4⟩
 . rintro σ H2 ⟨v,o,rfl,S2,iv⟩
   rw[wY]at iv;o_head yE (hx'.by S2) ?_;k_few;exact BR iv (hx'.by S2) (q H2 S2)
theorem Zu{a:Rat}{w:String}(h:c_ a b xs=some w):(w="one"/\(ag xs).length=1)\/(w="rests"/\(ag xs).length≠1)\/(w="drawn"/\(ag xs).length≠1/\a<1):=by
 unfold c_ at h
 split at h
 ·rename_i z
  exact .inl ⟨(wN h).symm,z⟩
 ·rename_i z
  split at h
  ·split at h
   ·exact .inr (.inl ⟨(wN h).symm,z⟩)
   ·split at h
    ·rename_i y
     exact .inr (.inr ⟨(wN h).symm,z,y.1⟩)
    ·cases h
  ·cases h
def iE:wG:=.list [.str "long"]
theorem yT(w:String)(n:Nat):Sh 2 (eD w n):=MQ (zm ⟨by simp[vA,rC],by simp[WO]⟩ (DI _))
theorem Dy :Sh 2 iE:=⟨by simp[iE,vA,vS,rC],by simp[iE,WO,Wl]⟩
theorem Kj(w w':String)(n m:Nat):wR (eD w n) (eD w' m)=(wR (.str (wH w)) (.str (wH w'))&&decide (n=m)):=by
 have e:wR (.int (n:Int)) (.int (m:Int))=decide (n=m):=by
  rw[wR,vL,beq_iff_eq,decide_eq_true_eq];lia
 rw[<- e];simp only[eD,wR,W9,XI]
theorem zCc(w:String)(n:Nat):wR (eD w n) iE=false:=by simp[iE,eD,wR]
theorem Pt :wR iE iE=true:=by simp[iE,wR,W9]
theorem OL :wR (.str (wH "one")) (.str (wH "one"))=true:=by rw[wR];decide
theorem zBO :wR (eD "one" 1) (eD "one" 1)=true:=by rw[Kj,OL];rfl
def JJ(K:wb):Sp:=λvs H Q _=>∃x0 x1 x2,vs=[x0,x1,x2] /\ ∃(a b:Rat)(xs:List Rat)(w:String)(n:Nat),Is K H x0 (R a b)/\Is K H x1 (LN xs)/\Is K H x2 (eD w n)/\aO a b/\xs.length<=8/\(b=1->w="one"/\n=1)/\((ag xs).length=1->w="one"/\n=1)/\(a+b=1->n=(ag xs).length)/\1<=n/\n<=(ag xs).length/\Rq H Q (.bl true)
theorem zix{a:Rat}{w:String}{v z:V}(i1:Is K H v (R a b))(i2:Is K H u (LN xs))(i3:Is K H z (eD w n))(ok:aO a b)(h8:xs.length<=8)(f1:b=1->w="one"/\n=1)(f2:(ag xs).length=1->w="one"/\n=1)(f3:a+b=1->n=(ag xs).length)(f4:1<=n)(f5:n<=(ag xs).length)(q:Rq H Q (.bl true)):JJ K [v,u,z] H Q E:=⟨_,_,_,rfl,a,b,xs,w,n,i1,i2,i3,ok,h8,f1,f2,f3,f4,f5,q⟩
theorem zyT{a:Rat}(h:a.num*(b.den:Int)+b.num*(a.den:Int)=(a.den:Int)*(b.den:Int)):a+b=1:=by
 rw[<- PV a b,h];have d1:=den_pos a;have d2:=den_pos b;have:=vV d1 d2;have hd:(a.den:Int)*(b.den:Int)≠0:=by lia
 generalize (a.den:Int)*(b.den:Int)=d at hd;have:=bY d hd;have hd':(d:Rat)≠0:=λe=>hd (by have h:=congrArg Rat.num e;simpa using h)
 have k:(wy d d-1)*(d:Rat)=0:=by grind
 rcases xX.mp k with k | k
 ·grind
 ·exact absurd k hd'
theorem ZR(T:Txt P K mg a):aJ P w K mg base aR 2 a.Gp a.F9 yn (JJ K):=by
 refine T.F_.F.ok pA ?_ ?_;wtm_at "b3"
 refine⟨_,(ak (nC (pv 0) (iY (n:=2) rfl (dw (iY (n:=2) rfl (dw (dh (i:=3) pA.nd rfl (Or.inl rfl)) (dw (dh (i:=4) pA.nd rfl (Or.inl rfl)) gZ))) (dw (iY (n:=2) rfl (dw (dh (i:=5) pA.nd rfl (Or.inl rfl)) (dw (dh (i:=6) pA.nd rfl (Or.inl rfl)) gZ))) gZ))))
     (ak (bE (PW.pt (iH (eF K hu (qi 0) (aY (ae av (ae av ah)))) (jr (eF K hu (ar (mn T) hr T.ku (q1 1)) av)))) (au (aE (ie K hu (pv 2) (aY (ae cv (ae av ah)))))) bN)
     (ak (bE (eF K hu (aB bZ (aB cx (pv 3) (pv 6)) (aB cx (pv 5) (pv 4))) (aB cx (pv 4) (pv 6))) (au (aE (ie K hu (qi 2) (ar (mn T) hr T.ku (q1 1))))) bN)
     (au (aE (zwE md md av (qi 2) (ar (mn T) hr T.ku (q1 1)))))))),?_⟩
 wtm_at "cl";rw[show start Oo [x0,x1,x2]=[some x0,some x1,some x2,none,none,none,none]from rfl];obtain⟨ra,rb,xs,wd,n,hr',hx',hf',ok,h8,f1,f2,f3,f4,f5,q⟩:=h;have ba1:=ok.ba.t;have ba2:=ok.ba.b;have bb1:=ok.bb.t;have bb2:=ok.bb.b;k_few;rename_i va vb ia ib vc ic;refine ig (r:=1) rfl rfl (λv3 H3 S3 i3=>?_)
 have one:∀H4,aj H H4->wd="one"/\n=1->lz K [V.str (wH "one"),V.int 1] H4 λy H2=>jq K x2 y H2 Q:=by
   rintro H4 S4 ⟨rfl,rfl⟩;refine cg (ds:=[.str (wH "one"),.int 1]) ∅ (.cons (cb.mpr rfl) (.cons (bW.mpr rfl) .nil)) (λv5 H5 S5 i5=>?_);exact zAw (n:=2) (hf'.by (S4.trans S5)) (show Is K H5 v5 (eD "one" 1)from i5) (yT _ _) ⋯ zBO (q H5 (S4.trans S5))
 k_few
 . rename_i z
   exact one H3 S3 (f1 (by first | exact z | exact of_decide_eq_true z))
 . rename_i z
   refine lE (.inl (hx'.by S3)) h8 (λH4 S4=>?_);have T4:=S3.trans S4;k_few
   . rename_i y
     exact one H4 T4 (f2 ())
   . rename_i y
     refine aF (j:=1) (hf'.by T4) rfl (λv5 i5=>?_);rw[bW.mp i5];o_head lE (.inl (hx'.by T4)) h8 (λH5 S5=>?_);k_few;rw[decide_eq_true (by rw[f3 (zyT y)])];exact q H5 (T4.trans S5)
   . rename_i y
     o_head aF (j:=1) (hf'.by T4) rfl (λv5 i5=>?_);rw[bW.mp i5];k_few
     all_goals first | (refine lE (.inl (hx'.by T4)) h8 (λH5 S5=>?_);k_few;first | exact q H5 (T4.trans S5) | (rw[decide_eq_true ()];exact q H5 (T4.trans S5))) | (rename_i z;exact absurd () z)
theorem JY{a b x:Rat}(a0:0<a)(ab:a+b=1)(hx:x<1):∀n:Nat,push a b n x<1
 | 0=>hx
 | n+1=>by
  have h:=JY a0 ab hx n;have:=xv h a0
  show a*push a b n x+b<1
  grind
theorem Sx{a:Rat}(a0:0<a)(b0:0<=b)(ab:a+b=1)(h1:1<=xs.length)(hp:cn xs):(bS a b xs).length=1:=by
 have hw:=NW a0 b0 h1 hp;have hj:=J5 a0 b0 hp h1;have hv:=ly h1
 have ht:cY a b (aX xs) (ag xs) 0<1:=by
  unfold cY
  show(cX a b _ (ag xs) 0).getD ((0+1) % (ag xs).length) 0<1
  have hm:(0+1) % (ag xs).length<(ag xs).length:=Qw _ ();rw[fo _ _ _ _ _ _ hm]
  split
  ·decide
  ·rename_i z
   have hpw:(ag xs).Pairwise (· > ·):=iM _ _;have:=oO hpw (c:=0) (d:=(0+1) % (ag xs).length) () hm;exact JY a0 ab (by grind) _
 have:¬ 1<(bS a b xs).length:=λz=>(hj.mp z) ht
 lia
theorem BA{a b:Rat}(a0:0<a)(b0:0<=b)(ab:a+b=1){xs:List Rat}(h1:1<=xs.length)(hp:cn xs):∀k,(ag (ai a b xs k)).length=(ag xs).length
 | 0=>rfl
 | k+1=>by
  have ih:=BA a0 b0 ab h1 hp k;have hl:1<=(ai a b xs k).length:=by rw[a_];exact h1
  have hk:=hp.at a0 b0 k;obtain⟨v,J⟩:=ze a0 b0 hl hk.nn hk.lt;have e:=congrArg Xb J.new;rw[h9,wT,vW,h9,Wi]at e;have v1:=J.v1;have vm:=J.vm;have:=J.more;have w1:=Sx a0 b0 ab hl hk;have hv:¬ 1<v:=λz=>by have:=J.more.mpr z;lia
  show(ag (cz a b (ai a b xs k))).length=_
  lia
theorem Z9{a:Rat}(ok:aO a b)(ab:a+b=1)(h1:1<=xs.length)(hp:cn xs)(L:fi xs (ps++[0]) fl ns)(hn:ns.length=ps.length+1):dQ a b ns ps=true:=by
 cases e:dQ a b ns ps with
 | true=>rfl
 | false =>
  obtain⟨t,_,hj⟩:=Od ok L hn e;have:=Sx ok.a0 ok.b0 ab (xs:=ai a b xs t) (by rw[a_];exact h1) (hp.at ok.a0 ok.b0 t);lia
theorem Zy{a:Rat}(ok:aO a b)(hp:cn xs)(h0:0∈xs)(f:dQ a b (aX xs) (bP xs)=true):ai a b xs (ag xs).length=xs ↔ cH a b (aX xs) (bP xs)=bP xs:=by
 obtain⟨hz,hn,hs,L⟩:=pj (a:=a) (b:=b) hp h0;have L1:=(Am ok L hn f).1;rw[hs]at L1;have v1:=Sr L1.pl L1.sQ.pw L1.some
 constructor
 ·intro e
  rw[e,<- hz]at v1;exact(List.append_inj_left v1 (by rw[lG hn])).symm
 ·intro e
  have a1:=CW L1 (a_ a b xs _);have a2:=CW L (n:=xs.length) rfl;rw[e]at a1;rw[<- a1,a2]
theorem BG:∀(n:Nat)(x:Rat),push 1 0 n x=x
 | 0,_=>rfl
 | n+1,x=>by
  show 1*push 1 0 n x+0=x
  rw[BG n x]
  grind
theorem LU{ns:List Int}{row:List Rat} : ∀k,k+1<=row.length->∀c,c<row.length->(aN 1 0 ns row (k+1)).getD c 0=row.getD c 0-row.getD k 0+(if c<=k then 0 else 1)
 | 0,hk,c,hc=>by
  show(cX 1 0 _ row 0).getD c 0=_
  rw[fo _ _ _ _ _ _ hc,BG]
  by_cases h:c=0
  ·subst h
   rw[if_pos rfl,if_pos (wo _)]
   grind
  ·rw[if_neg h,if_neg ()]
   grind
 | k+1,hk,c,hc=>by
  have ih:=LU (ns:=ns) (row:=row) k ()
  show(cX 1 0 _ (aN 1 0 ns row (k+1)) (k+1)).getD c 0=_
  rw[fo _ _ _ _ _ _ (by rw[cS];exact hc),BG,ih c hc,ih (k+1) (),if_neg (show ¬ k+1<=k by lia)]
  by_cases h:c=k+1
  ·subst h
   rw[if_pos rfl,if_pos (wo _)]
   grind
  ·rw[if_neg h]
   by_cases z:c<=k
   ·rw[if_pos z,if_pos ()];grind
   ·rw[if_neg z,if_neg ()];grind
theorem zvo(hn:ns.length=ps.length+1):cH 1 0 ns ps=ps:=by
 unfold cH;rw[hn];have hl:(ps++[0]).length=ps.length+1:=by simp
 have e:aN 1 0 ns (ps++[0]) (ps.length+1)=ps++[0]:=by
  refine WV (by rw[cS]) λc h1 h2=>?_
  have:=LU (ns:=ns) (row:=ps++[0]) ps.length () c h2;rw[if_pos (),show(ps++[(0:Rat)]).getD ps.length 0=0 by simp]at this;rw[wa,wc h1,wa,wc h2]at this;have this:(aN 1 0 ns (ps++[0]) (ps.length+1))[c]=(ps++[0])[c]-0+0:=this;rw[this]
  grind
 rw[e,List.dropLast_concat]
theorem A_ :aO 1 0:=by
 constructor<;>first | decide | (rw[xK];exact WZ)
theorem Nz(h1:1<=xs.length)(hp:cn xs)(h0:0∈xs):c_ 1 0 xs=some (if(ag xs).length=1 then "one" else "rests"):=by
 obtain⟨hz,hn,hs,L⟩:=pj (a:=1) (b:=0) hp h0;unfold c_
 split
 ·rfl
 ·rw[if_pos (Z9 A_ (xK 1) h1 hp L hn),if_pos (zvo hn)]
theorem Z2(ok:cF 1 0 xs):¬ kh 1 0 xs:=by
 rintro ⟨es,i,_,i1,hw,_⟩;rw[Nz (xs:=ai 1 0 xs i) (by rw[a_];exact ok.h1) (ok.hp.at ok.ok.a0 ok.ok.b0 i) (ok.hp.zero ok.ok.a0 ok.ok.b0 ok.h1 i1)]at hw;cases hw
theorem zwy{es:List (Nat × Nat × Nat)}{w:String}(ok:cF 1 0 xs)(P:fZ 1 0 xs es n w):w=(if(ag xs).length=1 then "one" else "rests")/\(ag (ai 1 0 xs n)).length=(ag xs).length:=by
 have e:=BA ok.ok.a0 ok.ok.b0 (xK 1) ok.h1 ok.hp n;have h:=P.word;rw[Nz (xs:=ai 1 0 xs n) (by rw[a_];exact ok.h1) (ok.hp.at ok.ok.a0 ok.ok.b0 n) (ok.hp.zero ok.ok.a0 ok.ok.b0 ok.h1 P.n1),e]at h;exact⟨(wN h).symm,e⟩
theorem R_{a x:Rat}(a0:0<a)(x0:0<=x):∀n:Nat,0<=push a 1 n x/\(1<=n->1<=push a 1 n x)
 | 0=>⟨x0,λh=>by lia⟩
 | n+1=>by
  have h:=Qx (vX a0) (R_ a0 x0 n).1;have e:push a 1 (n+1) x=a*push a 1 n x+1:=rfl;rw[e];exact⟨by grind,λ_=>by grind⟩
theorem zzD{a:Rat}(ok:aO a 1)(h1:1<=xs.length)(h8:xs.length<=8)(hp:cn xs)(h0:0∈xs)(n2:¬ (ag xs).length=1):dQ a 1 (aX xs) (bP xs)=false:=by
 cases e:dQ a 1 (aX xs) (bP xs)with
 | false=>rfl
 | true =>
  obtain⟨hz,hn,hs,L⟩:=pj (a:=a) (b:=1) hp h0;have sz:=Dc h1 h8;have hv:=ly h1;have hw:=(Am ok L hn e).2.1 0 ()
  have w1:(bS a 1 xs).length=1:=by
   have hw:bS a 1 xs=_:=hw;rw[hw];rfl
  have hj:=J5 ok.a0 ok.b0 hp h1;have ht:cY a 1 (aX xs) (ag xs) 0<1:=Vw.mp λz=>by have:=hj.mpr z;lia
  unfold cY at ht;have hm:(0+1) % (ag xs).length=1:=QM ();have ht:(cX a 1 ((aX xs).getD 0 0).toNat (ag xs) 0).getD ((0+1) % (ag xs).length) 0<1:=ht;rw[hm,fo _ _ _ _ _ _ (),if_neg ⋯]at ht;have x1:=hp.nn _ (iI (getD_mem (xs:=ag xs) (i:=1) (d:=0) ()));have x0:=hp.lt _ (iI (getD_mem (xs:=ag xs) (i:=0) (d:=0) ()));have s1:=sz.each ((aX xs).getD 0 0) (GM.getD_mem ());have:=(R_ (x:=(ag xs).getD 1 0+(1-(ag xs).getD 0 0)) ok.a0 (by grind) ((aX xs).getD 0 0).toNat).2 ();exact absurd ht (qa.mpr this)
theorem zxC{a:Rat}(ok:aO a 1)(h1:1<=xs.length)(h8:xs.length<=8)(hp:cn xs)(h0:0∈xs){w:String}(h:c_ a 1 xs=some w):w="one"/\(ag xs).length=1:=by
 unfold c_ at h
 split at h
 ·rename_i z
  exact⟨(wN h).symm,z⟩
 ·rename_i z
  rw[zzD ok h1 h8 hp h0 z]at h;cases h
theorem zyY{a:Rat}(ok:aO a b)(hp:cn xs)(h0:0∈xs){w:String}(h:c_ a b xs=some w)(n2:¬ (ag xs).length=1):(w="rests"/\ai a b xs (ag xs).length=xs)\/(w="drawn"/\a<1 /\ ¬ ai a b xs (ag xs).length=xs):=by
 unfold c_ at h;rw[if_neg n2]at h
 split at h
 ·rename_i f
  have R:=Zy ok hp h0 f
  split at h
  ·rename_i y
   exact .inl ⟨(wN h).symm,R.mpr y⟩
  ·rename_i y
   split at h
   ·rename_i z
    exact .inr ⟨(wN h).symm,z.1,λe=>y (R.mp e)⟩
   ·cases h
 ·cases h
def NX(K:wb):R2:=λx y H Q=>∃d ds,Is K H x d/\Is K H y (.tuple ds)/\Sh 60 d/\vA (.tuple ds)=true/\Q (.bl (!ds.any λe=>wR e d)) H
theorem zwc{X:Cx}(hu:X.A.units+64<cLine):bL X (vU .NotIn) (NX X.K):=by
 intro pins s σ H x y v u Q I rx ry h;obtain⟨d,ds,hd,he,sd,se,q⟩:=h;obtain⟨as,h1⟩:=I.reads d x v sd.1 hd rx;obtain⟨bs,h2⟩:=I.reads (.tuple ds) y u se he ry;have sd2:=sd.2;have hm:=xI (Wl ds) d.depth;exact PySem.SeqAt.notIn_tuple_reads h2 h1 (by rw[vA]at se;exact se) sd.1 () ⟨.bl _,H,I,rfl,q⟩
theorem Rt{v:V}(h:Is K H v (bo ra rb xs))(ok:cF ra rb xs)(q:∀v H',aj H H'->((∃l,v=.ref l/\H' l=some (.lst [.str "long"])/\kh ra rb xs) \/ ∃es n w,fZ ra rb xs es n w/\Is K H' v (eD w (ag (ai ra rb xs n)).length))->Q v H'):FJ K [v] H Q E:=Np h ok (λF l H' S e=>q _ _ S (.inl ⟨l,rfl,e,F⟩)) (λes n w v H' P S i=>q _ _ S (.inr ⟨es,n,w,P,i⟩))
def zy(K:wb):Sp:=λvs H Q _=>∃x0,vs=[x0] /\ ∃(a:wg)(ns:List Int),x0=.ref a/\j9 K H a (ns.map V.int)/\ns.length<=63 /\ ∀H',Q (.bl true) H'
theorem zB7(T:Txt P K mg a):aJ P w K mg base aR 16 a.law a.Jc Ag (zy K):=by
 refine T.YY.F.ok jT ?_ ?_;wtm_at "b1"
 refine⟨_,(ak (fE vC rfl (je rfl T.h0L (ae av ah)) (dh (i:=1) jT.nd rfl (Or.inl rfl)) (ak (ay 2 jT.nd (ar (zsy T) hr T.HY (q2 0 1)))
     (ak (ay 3 jT.nd (ar (zlw T) hr T.Gx (q1 2)))
     (ak (ay 4 jT.nd (ar (znx T) hr T.GX (ae (pv 2) (ae (cT cE (cR (ae av (ae av (ae av ah)))) (ar (dS T) hr T.dG (ae (pv 2) (ae av ah))) (λ_ _=>rfl)) ah))))
     (ak (ay 5 jT.nd (ar (Kc T) hr T.AR (q2 3 4)))
     (ak (ay 6 jT.nd (ar (B7 T) hr T.sa (q1 5)))
     (ak (ay 7 jT.nd (aY (ae (aY (ae av (ae av ah))) (ae (aY (ae av (ae av ah))) ah))))
     (ak (bE (fR K hu (ar (B7 T) hr T.sa (ae (ar (Kc T) hr T.AR (q2 7 4)) ah)) (aY (ae (cT cE (cR (ae cv (ae cv ah))) (ke ym rfl T.h1f pQ (ae (kR mD (ar (mn T) hr T.ku (q1 4)) av (du _)) ah)) (λ_ _=>rfl)) (ae (ar (mn T) hr T.ku (q1 4)) ah)))) (au (aE fB)) bN)
     (ak (bE (fR K hu (ar (B7 T) hr T.sa (q1 5)) (pv 6)) (au (aE fB)) bN)
     (au (bE (fR K hu (pv 6) (cR (ae cv ah))) (ak (bE (PW.pt (iH (dZ (di (cy (show bK _ (.builtin "isinstance") (iD K)from pT) rfl T.h0s fg (ae (pv 6) (ae (kW (v:=.ty "tuple") rfl T.h0O rf rfl) ah))))) (iH (fR K hu (ee K T.h0S (q1 6)) av) (jr (d8 (show bL _ (vU .NotIn) (NX K)from zwc hu) (qi 6) (aY (ae cv (ae cv (ae cv ah)))) (by with_unfolding_all rfl)))))) (au (aE fB)) bN)
     (ak (bE (PW.pt (iH (fR K hu (ie K hu (qi 6) cv) (ie K hu (qi 6) av)) (jr (dZ (di (ar (ZR T) hr T.F_ (q3 3 4 6))))))) (au (aE fB)) bN)
     (ak (bE (PW.pt (q_ (eF K hu (qi 6) cv) (pL (fR K hu (ar (Ew T) hr T.sM (q1 3)) cv)))) (au (aE fB)) bN)
     (ak (ay 8 jT.nd (cT cE (lH (LS T) hr T.AS CY (q1 5)) (jA jw av) (λ_ _=>rfl)))
     (ak (bE (PW.pt (iH (fR K hu (qi 8) (qi 6)) (jr (fR K hu (ar (mn T) hr T.ku (ae (qi 8) ah)) (qi 6))))) (au (aE fB)) bN)
     (au (bE (PW.pt (q_ (d8 mD (qi 6) av (du _)) (pL (fR K hu (ar (ZG T) hr T.Gg (ae (pv 3) (ae (qi 8) ah))) (ie K hu (qi 6) cv))))) (au (aE fB)) bN))))))) bN)))))))))))
     (au (aE fB))),?_⟩
 wtm_at "cl";rw[show start Kh [x0]=[some x0,none,none,none,none,none,none,none,none]from rfl];obtain⟨a',ns0,rfl,hs,hl,q⟩:=h;o_head kI (n:=2) ⋯ ⋯ (λi σ H'=>aV H H' /\ ∃(o1 o2 o3 o4 o5 o6 o7 o8:Option V),σ = [some (.ref a'),o1,o2,o3,o4,o5,o6,o7,o8]) ⟨aV.refl _,_,_,_,_,_,_,_,_,rfl⟩ ?_ ?_
 . rintro i σ H0 hi ⟨K0,o1,o2,o3,o4,o5,o6,o7,o8,rfl⟩
   have hi:i<2:=by simpa using hi
   o_head zth (K0.OS hs) hl () () (λp1 H1 hp1 S1 P1=>?_);o_head zls P1 ⋯ (λv2 H2 ra rb E2 K2 P2 i2 ok=>?_);wtm_at "ga";rename_i lq Hq nq Sq eq r Hr r0 r1 Er Kr Pr z hz;refine znM Pr () () () (λl3 H3 us3 xs n3 E3 K3 P3 e3 t3 a3 b3 ph3=>?_);have KA:aV H H3:=K0.trans (S1.keep.trans (K2.trans (Sq.keep.trans (Kr.trans K3))));have i3:=i2.Jf (Sq.keep.trans (Kr.trans K3));have iS:=dC e3 t3;have h8:xs.length<=8:=by lia
   obtain⟨bg,cD⟩:=cF.of ok a3 h8 ph3;obtain⟨bn,_⟩:=cF.of A_ a3 h8 ph3;clear i2 S1 P1 P2 E2 K2 K0 Sq eq nq r0 r1 Er Kr Pr hz E3 K3 P3 e3 t3 b3 n3 hp1;o_head MH i3 ok (.inl iS) a3 h8 ph3 (λvw H5 S5 iw=>?_);o_head Rt iw bg (λvf H6 S6 C6=>?_);have T6:=S5.trans S6;have i6:=i3.by T6;have iS6:=iS.by T6;have iw6:=iw.by S6;have KB:=KA.trans T6.keep;clear i3 iS iw KA T6 S5 S6;o_head ig (r:=1) rfl rfl (λv7 H7 S7 i7=>?_);o_head ig (r:=0) rfl rfl (λv8 H8 S8 i8=>?_);o_head cg (ds:=[N 1,N 0]) ∅ (.cons (i7.by S8) (.cons i8 .nil)) (λv9 H9 S9 i9=>?_);have T9:=S7.trans (S8.trans S9);clear i7 i8 S7 S8 S9;o_head MH (show Is K H9 v9 (R 1 0)from i9) A_ (.inl (iS6.by T9)) a3 h8 ph3 (λvz H10 S10 iz=>?_);o_head Np iz bn (λF=>absurd F (Z2 bn)) (λes0 n0 w0 vg H11 P0 S11 iG=>?_);obtain⟨e0,e1⟩:=zwy bn P0;rw[e1]at iG;have T11:=T9.trans (S10.trans S11);clear P0 S10 S11 iz i9 T9 e1;o_head eX ∅ (λl12 H12 n12 S12 e12=>?_);o_head lE (.inl (iS6.by (T11.trans S12))) h8 (λH13 S13=>?_);k_few;have vp:=ly a3
   have pick:gq [V.str (wH "one"),V.str (wH "rests")] (if decide (1<((ag xs).length:Int))=true then 1 else 0)=some (V.str (wH w0)):=by
     rw[e0]
     by_cases y:(ag xs).length=1
     . rw[if_pos y,if_neg (by rw[decide_eq_true_eq];lia)];rfl
     . rw[if_neg y,if_pos (by rw[decide_eq_true_eq];lia)];rfl
   have T13:=T11.trans (S12.trans S13);refine gJ (.of (S13 _ _ e12)) pick ?_;o_head lE (.inl (iS6.by T13)) h8 (λH14 S14=>?_);o_head cg (ds:=[.str (wH w0),.int ((ag xs).length:Int)]) ∅ (.cons (cb.mpr rfl) (.cons (bW.mpr rfl) .nil)) (λv15 H15 S15 i15=>?_);have rff:∀(w:String)(n:Nat),wR (eD w n) (eD w n)=true:=λw n=>by rw[Kj,decide_eq_true rfl,XI,wR];simp
   have T15:=T13.trans (S14.trans S15);refine nE (n:=2) (iG.by (S12.trans (S13.trans (S14.trans S15)))) (show Is K H15 v15 (eD w0 (ag xs).length)from i15) (yT _ _) ⋯ (rff _ _) ?_;clear pick;o_head Rt (iw6.by T15) bg (λvf2 H16 S16 C16=>?_);have T16:=T15.trans S16;have KC:=KB.trans T16.keep;k_few;rcases C6 with⟨l,rfl,e6,F⟩ | ⟨es,n,wd,P,iF⟩
   . rcases C16 with⟨l2,rfl,e16,_⟩ | ⟨es',n',w',P',_⟩
     . refine nE (n:=2) (d:=iE) (cf.mpr ⟨l2,_,rfl,.of e16,.cons (cb.mpr rfl) .nil⟩) (cf.mpr ⟨l,_,rfl,.of (T16 _ _ e6),.cons (cb.mpr rfl) .nil⟩) Dy ⋯ Pt ?_
       o_head eX ∅ (λl17 H17 n17 S17 e17=>?_);refine nE (n:=2) (d:=iE) (cf.mpr ⟨l,_,rfl,.of ((T16.trans S17) _ _ e6),.cons (cb.mpr rfl) .nil⟩) (cf.mpr ⟨l17,_,rfl,.of e17,.cons (cb.mpr rfl) .nil⟩) Dy ⋯ Pt ?_;k_few;exact⟨KC.trans S17.keep,_,_,_,_,_,_,_,_,rfl⟩
     . exact(CH P' F).elim
   . rcases C16 with⟨l2,_,_,F⟩ | ⟨es',n',w',P',iF'⟩
     . exact(CH P F).elim
     obtain⟨rfl,rfl,rfl⟩:=Sj P P';refine nE (n:=2) iF' (iF.by T16) (yT _ _) ⋯ (rff _ _) ?_;have iF16:=iF.by T16;have i16:=i6.by T16;have iS16:=iS6.by T16;have iw16:=iw6.by T16;clear iF iF' i6 iS6 iw6 T15 S16 T16 P' KB;o_head eX ∅ (λl17 H17 n17 S17 e17=>?_);refine nW (iF16.by S17) (show Is K H17 (.ref l17) iE from cf.mpr ⟨l17,_,rfl,.of e17,.cons (cb.mpr rfl) .nil⟩) ((yT _ _).shaped ⋯) (Dy.shaped ⋯) ?_;rw[zCc];have iF17:=iF16.by S17;have i17:=i16.by S17;have iS17:=iS16.by S17;have iw17:=iw16.by S17;have KD:=KC.trans S17.keep;clear iF16 i16 iS16 iw16 S17 KC;k_few
     . rename_i y
       cases (show true=false from y)
     generalize hN:(ag (ai ra rb xs n)).length=nn at *;have hw:=Zu P.word;rw[hN]at hw;have nf1:1<=nn:=by have:=(bg.nf n).1;lia
     have q1:wR (.str (wH wd)) (.str (wH "one"))=decide ((nn:Int)=1):=by
       rcases hw with⟨rfl,y⟩ | ⟨rfl,y⟩ | ⟨rfl,y,_⟩
       . rw[OL,decide_eq_true ()]
       . rw[decide_eq_false (),wR];decide
       . rw[decide_eq_false (),wR];decide
     have strS:∀w:String,Sh 1 (.str (wH w)):=λw=>⟨by simp[vA,rC],by simp[WO]⟩
     have strE:∀w:String,wR (.str (wH w)) (.str (wH w))=true:=λw=>by rw[wR];simp
     refine oj (show Is K H17 vf (.tuple [.str (wH wd),.int (nn:Int)])from iF17) ?_;rw[show((([.str (wH wd),.int (nn:Int)]:List wG).length:Nat):Int)=2 from rfl];k_few
     all_goals first | (rename_i y;exact absurd rfl y) | skip
     refine aF (j:=0) iF17 rfl (λv18 i18=>?_);rw[cb.mp i18];o_head cg (ds:=[.str (wH "one"),.str (wH "rests"),.str (wH "drawn")]) ∅ (.cons (cb.mpr rfl) (.cons (cb.mpr rfl) (.cons (cb.mpr rfl) .nil))) (λv19 H19 S19 i19=>?_);refine⟨.str (wH wd),_,cb.mpr rfl,i19,(strS wd).mono ⋯,by simp[vA,vS,rC],?_⟩
     have hin:([PyData.str (wH "one"),.str (wH "rests"),.str (wH "drawn")].any λe=>wR e (.str (wH wd)))=true:=by
       rw[W7,W7,W7,List.any_nil];rcases hw with⟨rfl,y⟩ | ⟨rfl,y⟩ | ⟨rfl,y,_⟩
       . rw[strE];rfl
       . rw[strE,XZ,xO]
       . rw[strE,XZ,xO,xO]
     rw[hin];have iF19:=iF17.by S19;have i19:=i17.by S19;have iS19:=iS17.by S19;have iw19:=iw17.by S19;have KE:=KD.trans S19.keep;clear iF17 i17 iS17 iw17 KD S19 i18 hin;o_head aF (j:=0) iF19 rfl (λv20 i20=>?_);rw[cb.mp i20];o_head gG _ _ _ q1 ?_;o_head aF (j:=1) iF19 rfl (λv21 i21=>?_);rw[bW.mp i21];o_head Oz ?_;rw[beq_self_eq_true];o_head zix i19 iS19 iF19 ok h8 (λe=>?_) (λe=>?_) (λe=>?_) nf1 ?_ (λH22 S22=>?_)
     . subst e
       have:=zxC ok (xs:=ai ra 1 xs n) (by rw[a_];exact a3) (by rw[a_];exact h8) (bg.hp.at ok.a0 ok.b0 n) (bg.hp.zero ok.a0 ok.b0 a3 P.n1) P.word;rw[hN]at this;exact this
     . have:=sY ok.a0 ok.b0 a3 bg.hp n
       rcases hw with⟨y,z⟩ | ⟨_,y⟩ | ⟨_,y,_⟩
       . exact⟨y,z⟩
       . lia
       . lia
     . rw[<- hN]
       exact BA ok.a0 ok.b0 e a3 bg.hp n
     . rw[<- hN]
       exact sY ok.a0 ok.b0 a3 bg.hp n
     have iF22:=iF19.by S22;have i22:=i19.by S22;have iw22:=iw19.by S22;have KF:=KE.trans S22.keep;clear iF19 i19 iS19 iw19 KE S22 i20 i21;o_head aF (j:=0) iF22 rfl (λv23 i23=>?_);rw[cb.mp i23];k_few
     apply zD7 (H:=H22)
     . intro b7
       rcases hw with⟨rfl,y⟩ | ⟨rfl,y⟩ | ⟨rfl,y,ha⟩
       . refine gG _ _ false (by rw[wR];decide) ?_
         wtm_at "gt";exact b7 _ (aj.refl _)
       . refine gG _ _ false (by rw[wR];decide) ?_
         wtm_at "gt";exact b7 _ (aj.refl _)
       . refine gG _ _ true (strE _) ?_
         wtm_at "gt";refine EB i22 (ok.ba.mono ⋯) ?_;rw[show lR ra=wH "falling" from by unfold lR;rw[if_neg (by grind),if_neg (by grind)]];wtm_at "gt";refine nE (n:=1) (cb.mpr rfl) (cb.mpr rfl) (strS "falling") ⋯ (strE _) ?_;wtm_at "gt";exact b7 _ (aj.refl _)
     . intro H23 S23
       have iF23:=iF22.by S23;have i23:=i22.by S23;have iw23:=iw22.by S23;have KG:=KF.trans S23.keep;clear iF22 i22 iw22 KF S23;o_head OM iw23 bg (λF=>(CH P F).elim) (λl24 H24 es2 n2 w2 P2 nl24 S24 i24=>?_);obtain⟨rfl,rfl,rfl⟩:=Sj P P2;o_head rL i24 (λv25 i25=>?_);have i25:Is K H24 v25 (.tuple [N (aT ra rb xs n),TN (ai ra rb xs n),.str (wH wd)]):=i25;have iF24:=iF23.by S24;have i224:=i23.by S24;have KH:=KG.trans S24.keep;clear i24 P2 iF23 i23 iw23 KG S24 nl24;o_head aF (j:=2) i25 rfl (λv26 i26=>?_);rw[cb.mp i26];o_head aF (j:=0) iF24 rfl (λv27 i27=>?_);rw[cb.mp i27];refine nE (n:=1) (cb.mpr rfl) (cb.mpr rfl) (strS wd) ⋯ (strE _) ?_;o_head aF (j:=1) i25 rfl (λv28 i28=>?_);o_head lE (.inr i28) (by rw[a_];exact h8) (λH29 S29=>?_);rw[hN];o_head aF (j:=1) (iF24.by S29) rfl (λv30 i30=>?_);rw[bW.mp i30];k_few
       all_goals first | (rename_i y;exact absurd rfl y) | skip
       refine aF (j:=1) (iF24.by S29) rfl (λv31 i31=>?_);rw[bW.mp i31];k_few
       . rename_i y
         refine aF (j:=1) (i25.by S29) rfl (λv32 i32=>?_)
         have bnd:∀k,k<=8->∀i,af 8000 ((ai ra rb (ai ra rb xs n) k).getD i 0):=λk hk j=>by
           have c:=Nn ok cD a3 bg.hp (i:=n) (k:=k) (l:=3) (by have:(2:Nat)^3=8:=⋯;lia);have g1:=mI ra rb xs n k;have g2:=rO ok.a0 ok.b0 (xs:=ai ra rb xs n) (by rw[a_];exact a3) (bg.hp.at ok.a0 ok.b0 n) k;have g3:k*(ai ra rb xs n).length<=8*8:=qd hk (by rw[a_];exact h8);have s1:=P.sp.1;rw[hN]at s1;exact((og c λy hy=>wA _ hy).get j).mono ()
         have q3:wR (.str (wH wd)) (.str (wH "rests"))=decide (ai ra rb (ai ra rb xs n) (ag (ai ra rb xs n)).length=ai ra rb xs n):=by
           rcases zyY ok (bg.hp.at ok.a0 ok.b0 n) (bg.hp.zero ok.a0 ok.b0 a3 P.n1) P.word (by rw[hN];lia)with⟨rfl,z⟩ | ⟨rfl,_,z⟩
           . rw[strE,decide_eq_true z]
           . rw[decide_eq_false z,wR];decide
         o_head ziV (i224.by S29) (show Is K H29 v32 (TN (ai ra rb xs n))from i32) ok.ba ok.bb (by rw[a_];exact a3) (by rw[a_];exact h8) bnd (λH33 S33=>?_);o_head aF (j:=0) (iF24.by (S29.trans S33)) rfl (λv34 i34=>?_);rw[cb.mp i34];o_head gG _ _ _ q3 ?_;refine Oz ?_;rw[beq_self_eq_true];k_few;exact⟨KH.trans (S29.trans S33).keep,_,_,_,_,_,_,_,_,rfl⟩
       . exact⟨KH.trans S29.keep,_,_,_,_,_,_,_,_,rfl⟩
 . rintro σ H' ⟨_,o1,o2,o3,o4,o5,o6,o7,o8,rfl⟩
   k_few;exact q _
end
variable{us:List wf}
theorem TR(h:us.length=1):∃a,us=[a]:=by
 cases us with
 | nil=>cases h
 | cons a t=>exact⟨a,by rw[Qz.mp (xP h)]⟩
theorem SN(h:us.length=2):∃a0 a1,us=[a0,a1]:=by
 cases us with
 | nil=>cases h
 | cons a0 t =>
  obtain⟨a1,e⟩:=TR (xP h);exact⟨a0,a1,by rw[e]⟩
theorem Kk(h:us.length=3):∃a0 a1 a2,us=[a0,a1,a2]:=by
 cases us with
 | nil=>cases h
 | cons a0 t =>
  obtain⟨a1,a2,e⟩:=SN (xP h);exact⟨a0,a1,a2,by rw[e]⟩
theorem Zr(h:us.length=4):∃a0 a1 a2 a3,us=[a0,a1,a2,a3]:=by
 cases us with
 | nil=>cases h
 | cons a0 t =>
  obtain⟨a1,a2,a3,e⟩:=Kk (xP h);exact⟨a0,a1,a2,a3,by rw[e]⟩
inductive aS(K:wb)(n:Str)(st:vo)(f:wg):Prop
 | mk {od an:Option wg} {sl:Array (Option wf)} {oc kV dc pm cd ct:wf} (a:vd K wP n=some (some (.ref f))) (l:K.lookup f=some ⟨oc,od,.func (qh n n (nB st) (kg st) (aH st) .none kV dc pm an cd ct),sl⟩) (c:Q3 K cd n=true) (k:qI K (.ref f)=true):aS K n st f
theorem aS.dn{K:wb}{h:wJ}{mg:Str->Option wf}{n:Str}{st:vo}{f:wg}{ps:List Str}(A:aS K n st f)(X:K.In h)(GN:h.Ns wP mg)
  (b:∀(kV doc pm:wf)(an:Option wg)(cdv ct:wf)(us:List wf),us.length=ps.length->bindArgs (qh n n (nB st) (kg st) (aH st) .none kV doc pm an cdv ct) ⟨us,[]⟩=pure (ps.zip us):=by wtm_at "bd"):∃fd,Dn K mg n st ps f fd:=by
 obtain⟨a,l,c,k⟩:=A;have F:=Ng (st:=st) l c k;exact⟨_,F,vO X GN a,F.binds b⟩
set_option hygiene false in
local macro_rules | `(tactic| wtm_at "bd")=>`(tactic| (intro _ _ _ _ _ _ us hl; first | (obtain ⟨_,rfl⟩:=TR hl; rfl) | (obtain ⟨_,_,rfl⟩:=SN hl; rfl) | (obtain ⟨_,_,_,rfl⟩:=Kk hl; rfl) | (obtain ⟨_,_,_,_,rfl⟩:=Zr hl; rfl)))
set_option maxHeartbeats 8000000 in
theorem all_mk{l:xV}{w:World}{K:wb}{h:wJ}{mg:Str->Option wf}{fa:wg}(tr:l.prog.given.tree=none)(X:K.In h)(G:h.Ns wP mg)(hfa:mg "law"=some (.ref fa))
  {f0 f1 f2 f3 f4 f5 f6 f7 f8 f9 f10 f11 f12 f13 f14 f15 f16 f17 f18 f19 f20 f21 f22 f23 f24 f25 f26 f27 f28 f29 f30 f31 f32 f33 f34 f35 f36 f37 f38 f39 f40 f41 f42 f43 f44 f45 f46 f47 f48 f49 f50 f51 f52 f53 f54 f55 f56 f57 f58 f59 f60 f61 f62:wg}
  {e0:wg}
  {e1:wg}
  {e2:wg}
  {e3:wg}
  {e4:wg}
  {e5:wg}
  {e6:wg}
  {e7:wg}
  {e8:wg}
  {e9:wg}
  {g0:wg} {gn0:Nat} {gd0:Option wg} {gs0:Array (Option wf)} {tk0_0 tk0_1:Tok}
  {g1:wg} {gn1:Nat} {gd1:Option wg} {gs1:Array (Option wf)} {tk1_0 tk1_1:Tok}
  {g2:wg} {gn2:Nat} {gd2:Option wg} {gs2:Array (Option wf)} {tk2_0 tk2_1:Tok}
  {tk3:Tok}
  {tk4:Tok}
  {tk5:Tok}
  {tk6:Tok}
  {tk7:Tok}
  (a0:aS K "is_whole" Fd f0)
  (a1:aS K "greatest_divisor" Di f1)
  (a2:aS K "is_number" Fg f2)
  (a3:aS K "plus" BV f3)
  (a4:aS K "minus" FP f4)
  (a5:aS K "times" Dm f5)
  (a6:aS K "over" Bx f6)
  (a7:aS K "less" Fj f7)
  (a8:aS K "is_factor" Bg f8)
  (a9:aS K "is_shift" F6 f9)
  (a10:aS K "make_rule" DU f10)
  (a11:aS K "is_rule" Bm f11)
  (a12:aS K "bend" F0 f12)
  (a13:aS K "pushes" Fp f13)
  (a14:aS K "pushed_by" Dd f14)
  (a15:aS K "is_phase" DW f15)
  (a16:aS K "are_phases" Es f16)
  (a17:aS K "swarm_of" EN f17)
  (a18:aS K "greatest" B9 f18)
  (a19:aS K "worms_at" CU f19)
  (a20:aS K "flocks" Fy f20)
  (a21:aS K "at_the_end" Ft f21)
  (a22:aS K "glow" DM f22)
  (a23:aS K "history" Ep f23)
  (a24:aS K "behind" FN f24)
  (a25:aS K "is_laid" FC f25)
  (a26:aS K "laid" BK f26)
  (a27:aS K "phases_behind" Fm f27)
  (a28:aS K "stands" BQ f28)
  (a29:aS K "round_behind" Eh f29)
  (a30:aS K "round_time" Bo f30)
  (a31:aS K "tops" DR f31)
  (a32:aS K "is_free" Ec f32)
  (a33:aS K "round_map" Dh f33)
  (a34:aS K "still" EG f34)
  (a35:aS K "weighed" CZ f35)
  (a36:aS K "led_on" FX f36)
  (a37:aS K "rounds_behind" DA f37)
  (a38:aS K "sums_of_places" EY f38)
  (a39:aS K "rounds_time" Dl f39)
  (a40:aS K "draws_freely" E_ f40)
  (a41:aS K "stays_free" Dg f41)
  (a42:aS K "free_rounds" FT f42)
  (a43:aS K "behind_rounds" CP f43)
  (a44:aS K "behind_row" Bl f44)
  (a45:aS K "word_of" FR f45)
  (a46:aS K "glows_to_join" DV f46)
  (a47:aS K "next_row" C0 f47)
  (a48:aS K "paper_of" BH f48)
  (a49:aS K "fate" Bs f49)
  (a50:aS K "_law_pen" B_ f50)
  (a51:aS K "_law_draw" Bb f51)
  (a52:aS K "_law_low" FV f52)
  (a53:aS K "_law_kind" El f53)
  (a54:aS K "_law_rule" C3 f54)
  (a55:aS K "_law_any_rule" BW f55)
  (a56:aS K "_law_phases" Bv f56)
  (a57:aS K "_law_glow" DB f57)
  (a58:aS K "_law_fate" Bq f58)
  (a59:aS K "_law_unlike" Cn f59)
  (a60:aS K "_law_leads_back" Bh f60)
  (a61:aS K "_law_start_right" BL f61)
  (a62:aS K "law" yw f62)
  (h0G:vd K wP "NoStand"=some (some (.ref e0)))
  (h0H:vd K wP "TooLong"=some (some (.ref e1)))
  (h0J:vd K wP "NoBack"=some (some (.ref e2)))
  (h0N:vd K wP "NoRow"=some (some (.ref e3)))
  (h0K:vd K wP "NoText"=some (some (.ref e4)))
  (h0M:vd K wP "NoWeb"=some (some (.ref e5)))
  (h0F:vd K wP "NoSwarm"=some (some (.ref e6)))
  (h0I:vd K wP "NoRule"=some (some (.ref e7)))
  (h0E:vd K wP "NoNumber"=some (some (.ref e8)))
  (h0w:vd K wP "GlowError"=some (some (.ref e9)))
  (h0t:vd K wP "ValueError"=some none)
  (h0W:vd K wP "abs"=some none)
  (h0U:vd K wP "all"=some none)
  (h0T:vd K wP "any"=some none)
  (h0Q:vd K wP "bool"=some none)
  (h0R:vd K wP "dict"=some none)
  (h0y:vd K wP "enumerate"=some none)
  (h1f:vd K wP "int"=some none)
  (h0s:vd K wP "isinstance"=some none)
  (h0S:vd K wP "len"=some none)
  (h0P:vd K wP "list"=some none)
  (h0V:vd K wP "max"=some none)
  (h0L:vd K wP "range"=some none)
  (h0Z:vd K wP "set"=some none)
  (h0Y:vd K wP "sum"=some none)
  (h0O:vd K wP "tuple"=some none)
  (h0X:vd K wP "zip"=some none)
  (h0x:qu K e0 oS "ValueError.__new__"=true)
  (h0C:qL K (.ref e0) (.ref e9)=some true)
  (h0D:gP K e0)
  (h0g:wC K (.ref e0) (.ref e0)=some true)
  (h0h:wC K (.ref e0) (.ref e1)=some false)
  (h0m:wC K (.ref e0) (.ref e2)=some false)
  (h0p:wC K (.ref e0) (.ref e3)=some false)
  (h0j:wC K (.ref e0) (.ref e4)=some false)
  (h0q:wC K (.ref e0) (.ref e5)=some false)
  (h0f:wC K (.ref e0) (.ref e6)=some false)
  (h0n:wC K (.ref e0) (.ref e7)=some false)
  (h0b:wC K (.ref e0) (.ref e8)=some false)
  (h0B:wC K (.ref e0) (.type "ValueError")=some true)
  (h0v:qu K e1 oS "ValueError.__new__"=true)
  (h0u:qL K (.ref e1) (.ref e9)=some true)
  (h0z:gP K e1)
  (h0d:wC K (.ref e1) (.ref e0)=some false)
  (h0e:wC K (.ref e1) (.ref e1)=some true)
  (h0k:wC K (.ref e1) (.ref e2)=some false)
  (h0r:wC K (.ref e1) (.ref e3)=some false)
  (h0i:wC K (.ref e1) (.ref e4)=some false)
  (h0o:wC K (.ref e1) (.ref e5)=some false)
  (h0c:wC K (.ref e1) (.ref e6)=some false)
  (h0l:wC K (.ref e1) (.ref e7)=some false)
  (h0a:wC K (.ref e1) (.ref e8)=some false)
  (h0A:wC K (.ref e1) (.type "ValueError")=some true)
  (q0:vd K wP "NOUGHT"=some (some (.ref g0)))
  (r0:K.lookup g0=some ⟨.type "tuple",gd0,.seq #[.int 0 tk0_0,.int 1 tk0_1] gn0,gs0⟩)
  (q1:vd K wP "ONE"=some (some (.ref g1)))
  (r1:K.lookup g1=some ⟨.type "tuple",gd1,.seq #[.int 1 tk1_0,.int 1 tk1_1] gn1,gs1⟩)
  (q2:vd K wP "GREATEST_FACTOR"=some (some (.ref g2)))
  (r2:K.lookup g2=some ⟨.type "tuple",gd2,.seq #[.int 4 tk2_0,.int 1 tk2_1] gn2,gs2⟩)
  (q3:vd K wP "FACTOR_BOTTOM"=some (some (.int 8 tk3)))
  (q4:vd K wP "SHIFT_BOTTOM"=some (some (.int 12 tk4)))
  (q5:vd K wP "MOST_WORMS"=some (some (.int 8 tk5)))
  (q6:vd K wP "PHASE_BOTTOM"=some (some (.int 60 tk6)))
  (q7:vd K wP "MOST_FREE"=some (some (.int 30 tk7)))
  : ∃fd:wM,(∀(s:wl)(v:wf),BindsTo s fd ⟨[v],[]⟩ [("_law_script",v)]) /\ ∀base:wJ,K.In base->base.Ns wP mg->aJ l.prog w K mg base aR 16 fa fd ["_law_script"] (zy K):=by
 obtain⟨aL,lL,cL,kL⟩:=a62;cases hfa.symm.trans (vO X G aL);have FL:=Ng (st:=yw) lL cL kL;have D62:Dn K mg _ _ Ag _ _:=⟨FL,vO X G aL,FL.binds (by wtm_at "bd")⟩;have⟨_,D0⟩:=a0.dn (ps:=zx) X G;have⟨_,D1⟩:=a1.dn (ps:=yj) X G;have⟨_,D2⟩:=a2.dn (ps:=tQ) X G;have⟨_,D3⟩:=a3.dn (ps:=yX) X G;have⟨_,D4⟩:=a4.dn (ps:=y8) X G;have⟨_,D5⟩:=a5.dn (ps:=yd) X G;have⟨_,D6⟩:=a6.dn (ps:=yO) X G;have⟨_,D7⟩:=a7.dn (ps:=tH) X G;have⟨_,D8⟩:=a8.dn (ps:=zD) X G;have⟨_,D9⟩:=a9.dn (ps:=zX) X G;have⟨_,D10⟩:=a10.dn (ps:=yK) X G;have⟨_,D11⟩:=a11.dn (ps:=zi) X G;have⟨_,D12⟩:=a12.dn (ps:=zK) X G;have⟨_,D13⟩:=a13.dn (ps:=tW) X G;have⟨_,D14⟩:=a14.dn (ps:=sW) X G;have⟨_,D15⟩:=a15.dn (ps:=zu) X G;have⟨_,D16⟩:=a16.dn (ps:=yW) X G;have⟨_,D17⟩:=a17.dn (ps:=ya) X G;have⟨_,D18⟩:=a18.dn (ps:=yy) X G;have⟨_,D19⟩:=a19.dn (ps:=tZ) X G;have⟨_,D20⟩:=a20.dn (ps:=yi) X G;have⟨_,D21⟩:=a21.dn (ps:=yg) X G;have⟨_,D22⟩:=a22.dn (ps:=zt) X G;have⟨_,D23⟩:=a23.dn (ps:=Ar) X G;have⟨_,D24⟩:=a24.dn (ps:=AH) X G;have⟨_,D25⟩:=a25.dn (ps:=t_) X G;have⟨_,D26⟩:=a26.dn (ps:=tF) X G;have⟨_,D27⟩:=a27.dn (ps:=Aa) X G;have⟨_,D28⟩:=a28.dn (ps:=yH) X G;have⟨_,D29⟩:=a29.dn (ps:=zQ) X G;have⟨_,D30⟩:=a30.dn (ps:=zw) X G;have⟨_,D31⟩:=a31.dn (ps:=tP) X G;have⟨_,D32⟩:=a32.dn (ps:=yN) X G;have⟨_,D33⟩:=a33.dn (ps:=yh) X G;have⟨_,D34⟩:=a34.dn (ps:=yk) X G;have⟨_,D35⟩:=a35.dn (ps:=yP) X G;have⟨_,D36⟩:=a36.dn (ps:=zA) X G;have⟨_,D37⟩:=a37.dn (ps:=tI) X G;have⟨_,D38⟩:=a38.dn (ps:=zZ) X G
 have⟨_,D39⟩:=a39.dn (ps:=zP) X G;have⟨_,D40⟩:=a40.dn (ps:=t9) X G;have⟨_,D41⟩:=a41.dn (ps:=yL) X G;have⟨_,D42⟩:=a42.dn (ps:=tG) X G;have⟨_,D43⟩:=a43.dn (ps:=yc) X G;have⟨_,D44⟩:=a44.dn (ps:=yJ) X G;have⟨_,D45⟩:=a45.dn (ps:=yY) X G;have⟨_,D46⟩:=a46.dn (ps:=AG) X G;have⟨_,D47⟩:=a47.dn (ps:=yu) X G;have⟨_,D48⟩:=a48.dn (ps:=Af) X G;have⟨_,D49⟩:=a49.dn (ps:=zo) X G;have⟨_,D50⟩:=a50.dn (ps:=sT) X G;have⟨_,D51⟩:=a51.dn (ps:=yU) X G;have⟨_,D52⟩:=a52.dn (ps:=yz) X G;have⟨_,D53⟩:=a53.dn (ps:=zl) X G;have⟨_,D54⟩:=a54.dn (ps:=tf) X G;have⟨_,D55⟩:=a55.dn (ps:=tD) X G;have⟨_,D56⟩:=a56.dn (ps:=zN) X G;have⟨_,D57⟩:=a57.dn (ps:=Ab) X G;have⟨_,D58⟩:=a58.dn (ps:=yl) X G;have⟨_,D59⟩:=a59.dn (ps:=tJ) X G;have⟨_,D60⟩:=a60.dn (ps:=yq) X G;have⟨_,D61⟩:=a61.dn (ps:=yn) X G
 have T:Txt l.prog K mg ⟨f0,_,f1,_,f2,_,f3,_,f4,_,f5,_,f6,_,f7,_,f8,_,f9,_,f10,_,f11,_,f12,_,f13,_,f14,_,f15,_,f16,_,f17,_,f18,_,f19,_,f20,_,f21,_,f22,_,f23,_,f24,_,f25,_,f26,_,f27,_,f28,_,f29,_,f30,_,f31,_,f32,_,f33,_,f34,_,f35,_,f36,_,f37,_,f38,_,f39,_,f40,_,f41,_,f42,_,f43,_,f44,_,f45,_,f46,_,f47,_,f48,_,f49,_,f50,_,f51,_,f52,_,f53,_,f54,_,f55,_,f56,_,f57,_,f58,_,f59,_,f60,_,f61,_,_,_,e0,e1,e2,e3,e4,e5,e6,e7,e8,e9,g0,g1,g2⟩:=⟨tr,
  D0,
  D1,
  D2,
  D3,
  D4,
  D5,
  D6,
  D7,
  D8,
  D9,
  D10,
  D11,
  D12,
  D13,
  D14,
  D15,
  D16,
  D17,
  D18,
  D19,
  D20,
  D21,
  D22,
  D23,
  D24,
  D25,
  D26,
  D27,
  D28,
  D29,
  D30,
  D31,
  D32,
  D33,
  D34,
  D35,
  D36,
  D37,
  D38,
  D39,
  D40,
  D41,
  D42,
  D43,
  D44,
  D45,
  D46,
  D47,
  D48,
  D49,
  D50,
  D51,
  D52,
  D53,
  D54,
  D55,
  D56,
  D57,
  D58,
  D59,
  D60,
  D61,
  D62,
  vB X G h0t,
  vB X G h0W,
  vB X G h0U,
  vB X G h0T,
  vB X G h0Q,
  vB X G h0R,
  vB X G h0y,
  vB X G h1f,
  vB X G h0s,
  vB X G h0S,
  vB X G h0P,
  vB X G h0V,
  vB X G h0L,
  vB X G h0Z,
  vB X G h0Y,
  vB X G h0O,
  vB X G h0X,
  vO X G h0G,
  vO X G h0H,
  vO X G h0J,
  vO X G h0N,
  vO X G h0K,
  vO X G h0M,
  vO X G h0F,
  vO X G h0I,
  vO X G h0E,
  vO X G h0w,
  h0x,
  h0C,
  h0D,
  h0g,
  h0h,
  h0m,
  h0p,
  h0j,
  h0q,
  h0f,
  h0n,
  h0b,
  h0B,
  h0v,
  h0u,
  h0z,
  h0d,
  h0e,
  h0k,
  h0r,
  h0i,
  h0o,
  h0c,
  h0l,
  h0a,
  h0A,
  vO X G q0,
  λH=>.inr ⟨_,_,_,r0,rfl,rfl,by simp;decide,(.cons ⟨_,rfl⟩ (.cons ⟨_,rfl⟩ .nil))⟩,
  vO X G q1,
  λH=>.inr ⟨_,_,_,r1,rfl,rfl,by simp;decide,(.cons ⟨_,rfl⟩ (.cons ⟨_,rfl⟩ .nil))⟩,
  vO X G q2,
  λH=>.inr ⟨_,_,_,r2,rfl,rfl,by simp;decide,(.cons ⟨_,rfl⟩ (.cons ⟨_,rfl⟩ .nil))⟩,
  ⟨_,vO X G q3⟩,
  ⟨_,vO X G q4⟩,
  ⟨_,vO X G q5⟩,
  ⟨_,vO X G q6⟩,
  ⟨_,vO X G q7⟩⟩
 exact⟨_,λs v=>.of_eq rfl,λbase _ _=>zB7 T⟩
theorem walk{l:xV}{q:wE}{loose:List Str}{XP:(Str->Option wf)->wJ->Prop}{YP:World->wJ->Prop}{d:DefRec}{K:Params->wb}(hn:l.most=some 63)(himp:importsNone q=true)(hdf:d.params.defaults=[])
  (hY:∀(w:World)(h:wJ),YP w h->(K w.params).In h)
  (F:∀(w:World)(mg:Str->Option wf)(fa:wg)(h:wJ),(K w.params).In h->h.Ns wP mg->mg d.name=some (.ref fa) ->
   ∃fd:wM,(∀(s:wl)(u:wf),BindsTo s fd ⟨[u],[]⟩ [("_law_script",u)]) /\ ∀base:wJ,(K w.params).In base->base.Ns wP mg->aJ l.prog w (K w.params) mg base aR 16 fa fd ["_law_script"] (zy (K w.params))) :
  UG q loose XP YP l.row.toRowW d [] (λf vs=>Ud f vs) :=
 L2.YM (n:=63) (k:=16) (x:="_law_script") (CX:=λ_=>aR) (sp:=λw=>zy (K w.params)) hn ⋯ himp hdf ⟨rfl,by decide,by decide,rfl,λ_ _ h=>nomatch h⟩ hY F (λ_ H a ns hl hO hS=>⟨.ref a,rfl,a,ns,rfl,zBL hO hS,hl,λ_=>rfl⟩) λ_ _ _ _ _ z=>z
end G
local macro_rules | `(tactic| wtm_at "fk")=>`(tactic| (refine' G.aS.mk ?a ?l ?c ?k; (case a=>k_is); (case l=>k_is); (case c=>k_is); (case k=>k_is)))
open PySem PySem.W PyProof.Rows
set_option maxRecDepth 100000 in
set_option maxHeartbeats 0 in
theorem PySem.Challenge.cw_glowflock_k62_whole_ends_by_bend_holds : PySem.Challenge.rw_glowflock_k62_whole_ends_by_bend.Holds := by
 w_on; refine GH.head ?_
 k_fill
 refine G.walk (l:=PySem.Challenge.rw_glowflock_k62_whole_ends_by_bend) rfl (by decide +kernel) rfl (fun w h Y=>PySem.W.kIn_of Y) ?F
 case F =>
   intro w mg fa h KX GG hmg;refine' G.all_mk rfl KX GG hmg ?a0 ?a1 ?a2 ?a3 ?a4 ?a5 ?a6 ?a7 ?a8 ?a9 ?a10 ?a11 ?a12 ?a13 ?a14 ?a15 ?a16 ?a17 ?a18 ?a19 ?a20 ?a21 ?a22 ?a23 ?a24 ?a25 ?a26 ?a27 ?a28 ?a29 ?a30 ?a31 ?a32 ?a33 ?a34 ?a35 ?a36 ?a37 ?a38 ?a39 ?a40 ?a41 ?a42 ?a43 ?a44 ?a45 ?a46 ?a47 ?a48 ?a49 ?a50 ?a51 ?a52 ?a53 ?a54 ?a55 ?a56 ?a57 ?a58 ?a59 ?a60 ?a61 ?a62 ?h0G ?h0H ?h0J ?h0N ?h0K ?h0M ?h0F ?h0I ?h0E ?h0w ?h0t ?h0W ?h0U ?h0T ?h0Q ?h0R ?h0y ?h1f ?h0s ?h0S ?h0P ?h0V ?h0L ?h0Z ?h0Y ?h0O ?h0X ?h0x ?h0C ?h0D ?h0g ?h0h ?h0m ?h0p ?h0j ?h0q ?h0f ?h0n ?h0b ?h0B ?h0v ?h0u ?h0z ?h0d ?h0e ?h0k ?h0r ?h0i ?h0o ?h0c ?h0l ?h0a ?h0A ?q0 ?r0 ?q1 ?r1 ?q2 ?r2 ?q3 ?q4 ?q5 ?q6 ?q7
   (case a0|a1|a2|a3|a4|a5|a6|a7|a8|a9|a10|a11|a12|a13|a14|a15|a16|a17|a18|a19|a20|a21|a22|a23|a24|a25|a26|a27|a28|a29|a30|a31|a32|a33|a34|a35|a36|a37|a38|a39|a40|a41|a42|a43|a44|a45|a46|a47|a48|a49|a50|a51|a52|a53|a54|a55|a56|a57|a58|a59|a60|a61|a62=>wtm_at "fk")
   (case h0G|h0H|h0J|h0N|h0K|h0M|h0F|h0I|h0E|h0w|h0t|h0W|h0U|h0T|h0Q|h0R|h0y|h1f|h0s|h0S|h0P|h0V|h0L|h0Z|h0Y|h0O|h0X=>k_is)
   (case h0x=>k_exc)
   (case h0C=>kts_exm)
   (case h0D=>(refine L2.gP.mk ?_ ?_ ?_ ?_ ?_ ?_ ?_ ?_ <;> first | k_is | (show PySem.W.isClsIn _ _ = true; k_is)))
   (case h0g|h0h|h0m|h0p|h0j|h0q|h0f|h0n|h0b|h0B=>kit_is)
   (case h0v=>k_exc)
   (case h0u=>kts_exm)
   (case h0z=>(refine L2.gP.mk ?_ ?_ ?_ ?_ ?_ ?_ ?_ ?_ <;> first | k_is | (show PySem.W.isClsIn _ _ = true; k_is)))
   (case h0d|h0e|h0k|h0r|h0i|h0o|h0c|h0l|h0a|h0A=>kit_is)
   (case q0|r0|q1|r1|q2|r2|q3|q4|q5|q6|q7=>k_is)
#print axioms PySem.Challenge.cw_glowflock_k62_whole_ends_by_bend_holds
